import PyProof.Rows.All
import Wide.All
import OpenK.AllK
import Wide.FinOn
import Lean
import PyProof.EqAt
import PyProof.EqKinds
import PyProof.TupleCall
import KE.KRevIter
import PyProof.CollectIter
import PyProof.SumWalkG
import PyProof.Rows.FStrParts
import KE.KDictOf
import PyProof.IsiH_list
import PyProof.RaisesAny
import PyProof.P3In
import PyProof.Rows.StrWeight2
import PyProof.StrCalls
import PyProof.Rows.FinIter
import PySem.Challenge.RW_sorthall_k85_sheets
local macro_rules | `(tactic| omega)=>`(tactic| first | with_reducible assumption | lia | omega (splitDisjunctions:=true))
set_option Elab.async false
set_option linter.all false
set_option maxRecDepth 100000
open List renaming length_map→yAA,length_append→yAD,size_toArray→yAF,mem_append_right→yAG,map_cons→yAJ,mem_cons_self→yAK,mem_cons_of_mem→yAL,getElem?_eq_getElem→yAM,map_append→yAO,mem_cons→yAP,length_take→yAQ,getElem?_map→yAR,getElem?_eq_some_iff→yAT,mem_append→yAV,length_drop→yAW,length_cons→yAX,mem_of_getElem?→yAY,map_nil→yAZ,lookup_cons→yBA,take_of_length_le→yBC,getD_eq_getElem?_getD→yBD
open Nat renaming le_refl→yAB,le_trans→yAC,lt_of_lt_of_le→yAE,ne_of_lt→yAH,le_succ→yAN,lt_irrefl→yAS,zero_le→yAU
open Bool renaming false_ne_true→yAI
open Array renaming getElem?_eq_some_iff→yBB
namespace L2
open PySem PySem.W
theorem left_boot {p q:Program} {loose:List Str} {Xt:Shared->Bool} {α:Type} {Yf:Shared->α} {Ya:World->α} {N:Nat} {g0:Bool}
  (open_:∀ w:World,(fencedOpening treeTable p w N).map (fun s=>(s.heap,s.gens,s.drawn,s.toks))=some (boot_heap w.params,Array.mk [],boot_drawn,boot_toks))
  (h:∀ (w:World) (os:OsState),(topFrom treeTable p w N ⟨boot_heap w.params,Array.mk [],boot_drawn,boot_toks,os⟩).map (fun s=>(openSeen q loose (importedModules p.main.body) Xt g0 s,Yf s))=some (openGood q loose,Ya w)):LeftO p q loose Xt Yf Ya N g0:=fun w=>by
 obtain ⟨⟨hh,gs,d,k,os⟩,e,e'⟩:=Option.map_eq_some_iff.mp (open_ w)
 obtain ⟨rfl,rfl,rfl,rfl⟩:hh=boot_heap w.params /\ gs=Array.mk [] /\ d=boot_drawn /\ k=boot_toks:=by simpa using e'
 unfold openEnds
 rw [e]
 exact h w os
theorem left_two {p q:Program} {loose:List Str} {Xt:Shared->Bool} {α:Type} {Yf:Shared->α} {Ya:World->α} {N:Nat} {g0:Bool}
  (open_:∀ w:World,(fencedOpening treeTable p w N).map (fun s=>(s.heap,s.gens,s.drawn,s.toks))=some (boot_heap w.params,Array.mk [],boot_drawn,boot_toks))
  (h1:∀ (w:World) (os:OsState),(topFrom treeTable p w N ⟨boot_heap w.params,Array.mk [],boot_drawn,boot_toks,os⟩).map (fun s=>openSeen q loose (importedModules p.main.body) Xt g0 s)=some (openGood q loose))
  (h2:∀ (w:World) (os:OsState),(topFrom treeTable p w N ⟨boot_heap w.params,Array.mk [],boot_drawn,boot_toks,os⟩).map (fun s=>Yf s)=some (Ya w)):LeftO p q loose Xt Yf Ya N g0 :=
 left_boot open_ fun w os=>by
  have a:=h1 w os
  have b:=h2 w os
  generalize topFrom treeTable p w N ⟨boot_heap w.params,Array.mk [],boot_drawn,boot_toks,os⟩=r at a b
  cases r with
  | none=>cases a
  | some s=>exact congrArg some (Prod.ext (Option.some.inj a) (Option.some.inj b))
noncomputable def s0B (w:World) (os:OsState):Shared:=⟨boot_heap w.params,Array.mk [],boot_drawn,boot_toks,os⟩
noncomputable def ofLB:List Obj->Nat->BT->BT
 | [],_,t=>t
 | o::r,n,t=>ofLB r (n+1) (t.ins n o)
noncomputable def sTB (w:World) (os:OsState):SharedT:=⟨ofLB (boot_heap w.params).objs.toList 0 .nil,(boot_heap w.params).objs.size,(boot_heap w.params).life,Array.mk [],boot_drawn,boot_toks,os⟩
noncomputable def topRunQ (p:Program) (w:World) (n₀:Nat) (ann:Option Value):Nat->SharedT->Thread->Option SharedT
 | 0,_,_=>none
 | n+1,s,t=>match through t with
  | true=>some s
  | false=>match PySem.W.Fast.tw6613529449190102663 n₀ ann t with
   | false=>none
   | true=>match PySem.W.Fast.tw10156331382660048174 (PySem.W.Fast.tw11892475500146522536 PySem.W.Fast.tw14364793385576792824) p w s t with
    | some (s',t')=>topRunQ p w n₀ ann n s' t'
    | none=>none
theorem topRunQ_spec {p:Program} {w:World} {n₀:Nat} {ann:Option Value}:∀ {n:Nat} {s s':SharedT} {t:Thread},topRunQ p w n₀ ann n s t=some s'->topRun treeTable p w n₀ ann n s.abs t=some s'.abs
 | 0,_,_,_,h=>by cases h
 | n+1,s,s',t,h=>by
  unfold topRunQ at h
  rw [<- PySem.W.Fast.te6613529449190102663,<- PySem.W.Fast.te10156331382660048174,<- PySem.W.Fast.te11892475500146522536,<- PySem.W.Fast.te14364793385576792824] at h
  unfold topRun
  cases he:through t with
  | true=>rw [he] at h;cases h;rfl
  | false=>
   rw [he] at h
   cases hk:stepOk n₀ ann t with
   | false=>rw [hk] at h;cases h
   | true=>
    rw [hk] at h
    cases hs:stepT (denote treeTable) p w s t with
    | none=>rw [hs] at h;cases h
    | some r=>obtain ⟨s₂,t₂⟩:=r;rw [hs] at h;rw [stepT_spec hs];exact topRunQ_spec h
set_option maxHeartbeats 0 in
theorem sTB_abs:∀ (w:World) (os:OsState),(sTB w os).abs=s0B w os:=by
 intro w os
 kernel_rfl
set_option maxHeartbeats 0 in
theorem s0B_ns:∀ (w:World) (os:OsState),((s0B w os).heap.isNs mainGlobals && (s0B w os).gens.size == 0)=true:=by
 intro w os
 kernel_rfl
noncomputable def topOkB (p:Program) (s₀ s₁:Shared):Bool:=staticsOk (importedModules p.main.body) s₀.heap s₁.heap && namesBound p s₁.heap && gensDone s₁ && laidKept s₀.heap s₁.heap
theorem via_tree {α:Type} {p:Program} {N:Nat} {F:Shared->α} {G:α} (w:World) (os:OsState)
  (h:(topRunQ p w (s0B w os).heap.objs.size ((s0B w os).heap.nsMap mainGlobals "__annotations__") N (sTB w os) (topStub p)).map (fun s=>(topOkB p (s0B w os) s.abs,F s.abs))=some (true,G)):(topFrom treeTable p w N ⟨boot_heap w.params,Array.mk [],boot_drawn,boot_toks,os⟩).map F=some G:=by
 obtain ⟨s',e1,e2⟩:=Option.map_eq_some_iff.mp h
 have r:=topRunQ_spec e1
 rw [sTB_abs] at r
 obtain ⟨e3,e4⟩:=Prod.mk.inj e2
 show (topFrom treeTable p w N (s0B w os)).map F=some G
 unfold topFrom
 rw [s0B_ns w os]
 dsimp only
 rw [r,Option.bind_some]
 unfold topOkB at e3
 rw [e3]
 exact congrArg some e4
noncomputable def vw (p:Program) (ix:List Nat):Program:={ p with main:={ p.main with body:=ix.filterMap fun i=>p.main.body[i]? } }
noncomputable def Vw:Program:=vw PySem.Challenge.pw_sorthall_k85_sheets [1,2,3,5,6,7,8,10,11,13,14,15,16,17,18,19,20,21]
set_option maxHeartbeats 0 in
theorem seen1:∀ (w:World) (os:OsState),(topFrom treeTable PySem.Challenge.pw_sorthall_k85_sheets w 2362 ⟨boot_heap w.params,Array.mk [],boot_drawn,boot_toks,os⟩).map (fun s=>openSeen L2.Vw [] (importedModules PySem.Challenge.pw_sorthall_k85_sheets.main.body) (fun s=>xlAt L2.Vw [] s && recOk (RowW.records (OpenRow.toRowW (OpenLaw.row PySem.Challenge.rw_sorthall_k85_sheets))) s) true s)=some (openGood L2.Vw []):=by
 intro w os
 refine via_tree w os ?_
 rw [PySem.W.Fast.te4187177175401517315]
 kernel_rfl
local macro_rules | `(tactic| o_law)=>`(tactic| refine holds_law (by decide +kernel) fun said=>?_)
set_option hygiene false in
local macro_rules | `(tactic| o_head $H)=>`(tactic| (refine holds_open (q:=L2.Vw) (loose:=[]) (Xt:=fun s=>xlAt L2.Vw [] s && recOk (RowW.records _) s) (XP:=XL L2.Vw []) (Yf:=Hook.obs $H) (Ya:=Hook.val $H) (YP:=Hook.says $H) (N:=2362) ?hl (Hook.of $H) (Hook.keeps $H) (fun s e=>xl_of s (Bool.and_eq_true_iff.mp e).1) XL.keeps (by rfl) (by rfl) (by rfl) (fun s e=>recFacts_of (Bool.and_eq_true_iff.mp e).2) (by rfl) (by first | assumption | decide +kernel) (by decide +kernel) ⟨rfl,rfl,rfl,rfl,rfl,by decide +kernel⟩ ?hw ?hc;(case hl=>(refine L2.left_two (PySem.W.boot_open (by rfl) (by decide) (fun s=>rfl)) (fun w os=>?h1) (fun w os=>?h2);(case h1=>exact L2.seen1 w os);(case h2=>(refine L2.via_tree w os ?_;kernel_rfl))))))
set_option maxHeartbeats 0 in
open_top hd0 for PySem.Challenge.rw_sorthall_k85_sheets
end L2
namespace L2
open PySem PySem.Spec PyProof.Rows
noncomputable abbrev Key:=Sum Int Str
noncomputable def keyIs:Key->Value->Bool
 | .inl k,v=>Value.isInt k v
 | .inr x,v=>Value.isStrOf x v
noncomputable def keyH (w:World):Key->Int
 | .inl k=>hashInt k
 | .inr x=>hashStr w x
theorem ZAT:∀ {k:Key} {v:Value},keyIs k v=true->(∃ i t,k=Sum.inl i /\ v=Value.int i t)∨(∃ x t,k=Sum.inr x /\ v=Value.str x t)
 | .inl i,v,h=>by
  obtain ⟨t,e⟩:=Value.isInt_shape (k:=i) (v:=v) h
  exact .inl ⟨i,t,rfl,e⟩
 | .inr x,v,h=>by
  obtain ⟨t,e⟩:=Value.isStrOf_shape (x:=x) (v:=v) h
  exact .inr ⟨x,t,rfl,e⟩
theorem key_ll (a b:Int):decide ((Sum.inl a:Key)=Sum.inl b)=(a == b):=by
 by_cases e:a=b
 .subst e;simp
 .have h:¬ (Sum.inl a:Key)=Sum.inl b:=fun q=>e (Sum.inl.inj q)
  rw [decide_eq_false h]
  exact (beq_eq_false_iff_ne.mpr e).symm
theorem key_rr (a b:Str):decide ((Sum.inr a:Key)=Sum.inr b)=decide (a=b):=by
 by_cases e:a=b
 .subst e;simp
 .have h:¬ (Sum.inr a:Key)=Sum.inr b:=fun q=>e (Sum.inr.inj q)
  rw [decide_eq_false h,decide_eq_false e]
theorem key_lr (a:Int) (b:Str):decide ((Sum.inl a:Key)=Sum.inr b)=false:=decide_eq_false (fun q=>nomatch q)
theorem key_rl (a:Str) (b:Int):decide ((Sum.inr a:Key)=Sum.inl b)=false:=decide_eq_false (fun q=>nomatch q)
noncomputable def mixKind (prog:Program) (w:World):PySem.KeyKind prog w Key where
 is:=keyIs
 hash:=keyH w
 inj:=fun v a b ha hb=>by
  rcases ZAT ha with ⟨i,t,rfl,rfl⟩ | ⟨x,t,rfl,rfl⟩
  .rcases ZAT hb with ⟨j,u,rfl,e⟩ | ⟨y,u,rfl,e⟩
   .injection e with e1 _;rw [e1]
   .exact nomatch e
  .rcases ZAT hb with ⟨j,u,rfl,e⟩ | ⟨y,u,rfl,e⟩
   .exact nomatch e
   .injection e with e1 _;rw [e1]
 byValue:=fun k v h=>by
  rcases ZAT h with ⟨i,t,rfl,rfl⟩ | ⟨x,t,rfl,rfl⟩ <;> rfl
 pyHash:=fun hv h=>by
  rcases ZAT hv with ⟨i,t,rfl,rfl⟩ | ⟨x,t,rfl,rfl⟩
  .exact wpAny_pyHash_int h
  .exact wpAny_pyHash_str h
 eqBool:=fun hu hv h=>by
  rcases ZAT hu with ⟨i,t,rfl,rfl⟩ | ⟨x,t,rfl,rfl⟩
  .rcases ZAT hv with ⟨j,u,rfl,rfl⟩ | ⟨y,u,rfl,rfl⟩
   .rw [key_ll] at h;exact wpAny_eqBool_int h
   .rw [key_lr] at h;exact SeqAt.EqAt.int_str i t y u _ _ _ _ h
  .rcases ZAT hv with ⟨j,u,rfl,rfl⟩ | ⟨y,u,rfl,rfl⟩
   .rw [key_rl] at h;exact SeqAt.EqAt.str_int x t j u _ _ _ _ h
   .rw [key_rr] at h;exact wpAny_eqBool_str h
 «strs»:=fun k x t v h=>by
  rcases ZAT h with ⟨i,u,rfl,e⟩ | ⟨y,u,rfl,e⟩
  .exact nomatch e
  .injection e with e1 _
   subst e1
   cases v <;> rfl
inductive V where
 | non | bl (b:Bool) | int (i:Int) | str (x:Str) | byt (b:Array UInt8) | flt (b:UInt64) | ref (a:Addr) | ty (n:String)
 deriving DecidableEq
noncomputable def RelV:V->Value->Prop
 | .non,u=>u=Value.none
 | .bl b,u=>u=Value.bool b
 | .int i,u=>∃ t,u=Value.int i t
 | .str x,u=>∃ t,u=Value.str x t
 | .byt b,u=>∃ t,u=Value.bytes b t
 | .flt b,u=>∃ t,u=Value.float b t
 | .ref a,u=>u=Value.ref a
 | .ty n,u=>u=Value.type n
noncomputable abbrev Vals:List V->List Value->Prop:=Paired RelV
theorem Vals.length {xs:List V} {us:List Value} (r:Vals xs us):xs.length=us.length:=Paired.length r
theorem Vals.get:∀ {xs:List V} {us:List Value} {i:Nat} {x:V},Vals xs us->xs[i]?=some x->∃ u,us[i]?=some u /\ RelV x u
 | _,_,_,_,.nil,e=>by simp at e
 | _,_,0,_,.cons r _,e=>by simp at e;subst e;exact ⟨_,rfl,r⟩
 | _,_,i+1,x,.cons _ t,e=>by
  obtain ⟨u,h1,h2⟩:=Vals.get (i:=i) (x:=x) t (by simpa using e)
  exact ⟨u,by simpa using h1,h2⟩
theorem Vals.append:∀ {xs ys:List V} {us ws:List Value},Vals xs us->Vals ys ws->Vals (xs++ys) (us++ws)
 | _,_,_,_,.nil,s=>s
 | _,_,_,_,.cons r t,s=>.cons r (Vals.append t s)
theorem Vals.take:∀ {xs:List V} {us:List Value} (n:Nat),Vals xs us->Vals (xs.take n) (us.take n)
 | _,_,0,_=>.nil
 | _,_,_+1,.nil=>.nil
 | _,_,n+1,.cons r t=>.cons r (Vals.take n t)
theorem Vals.drop:∀ {xs:List V} {us:List Value} (n:Nat),Vals xs us->Vals (xs.drop n) (us.drop n)
 | _,_,0,r=>r
 | _,_,_+1,.nil=>.nil
 | _,_,n+1,.cons _ t=>Vals.drop n t
noncomputable def RelO:Option V->Option Value->Prop
 | some v,some u=>RelV v u
 | none,none=>True
 | _,_=>False
noncomputable def KV {κ:Type}:List (κ×V)->List (κ×Value)->Prop:=Paired fun (p:κ×V) (q:κ×Value)=>p.1=q.1 /\ RelV p.2 q.2
noncomputable def kV:Key->V
 | .inl i=>.int i
 | .inr x=>.str x
inductive HO where
 | lst (xs:List V)
 | tup (xs:List V)
 | dK (kvs:List (Key×V)) | dT (kvs:List (List Key×V))
 | set (S:Int->Bool) (n:Nat)
 | ins (C dx:Addr) (fs:List (Str×V))
 | own (x:Addr)
 | xd (fs:List (Str×V))
 | met (f x:Addr)
 | rng (lo hi:Int)
 | frz (o:Obj) (u:HO)
 | tbl (ps:Array Value)
 | ext (φ:Heap->Prop)
noncomputable abbrev Hp:=Addr->Option HO
noncomputable def upd (H:Hp) (a:Addr) (o:HO):Hp:=fun b=>if b=a then some o else H b
theorem ZAH {H:Hp} {a:Addr} {o:HO}:upd H a o a=some o:=by unfold upd;rw [if_pos rfl]
theorem ZAL {H:Hp} {a b:Addr} {o:HO} (h:b≠a):upd H a o b=H b:=by unfold upd;rw [if_neg h]
theorem ZAX {H:Hp} {a b:Addr} {o:HO} (h:H a=some o) (h':H b=none):a≠b:=by
 intro e;subst e;rw [h] at h';cases h'
section
variable (P:Program) (w:World)
noncomputable def ObjOk (H:Hp) (h:Heap) (a:Addr):HO->Prop
 | .lst xs=>xs.length <= sizeLine /\ ∃ (its:List Value) (n:Nat),Vals xs its /\ h.get? a=some { cls:=.type "list",data:=.seq its.toArray n }
 | .tup xs=>xs.length <= sizeLine /\ ∃ its:List Value,Vals xs its /\ IsTup h a its.toArray
 | .dK kvs=>kvs.length <= sizeLine /\ (a == sysModules)=false /\ ∃ vs,KV kvs vs /\ h.DictOf (mixKind P w) a vs
 | .dT kvs=>kvs.length <= sizeLine /\ (a == sysModules)=false /\ ∃ xs:List (List Key×Addr×Value),
   Paired (fun (p:List Key×V) (q:List Key×Addr×Value)=>p.1=q.1 /\ H q.2.1=some (.tup (p.1.map kV)) /\ RelV p.2 q.2.2) kvs xs /\
   ∃ o es ep,h.get? a=some o /\ o.ExactDict /\ o.data=.dict es ep /\ es.toList=xs.map (entryOfKey (tupleKind (mixKind P w))) /\ (xs.map (·.1)).Nodup
 | .set S n=>h.SetOf (intKind P w) a S n
 | .ins C dx fs=>H dx=some (.own a) /\ fs.length <= 1000 /\ dx≠a /\ h.get? a=some (PySem.W.instObj C dx) /\
   ∃ mA,h.Ns1 dx mA /\ (∀ f,RelO (fs.lookup f) (mA f)) /\ PySem.Within mA (fs.map (·.1))
 | .own _=>∃ o,h.get? a=some o
 | .xd fs=>∃ mA,h.Ns1 a mA /\ ∀ f,RelO (fs.lookup f) (mA f)
 | .rng lo hi=>∃ t u v,h.get? a=some { cls:=.type "range",data:=.fields #[.int lo t,.int hi u,.int 1 v] }
 | .frz o u=>h.get? a=some o /\ ObjOk H h a u
 | .tbl ps=>h.get? a=some { cls:=.none,data:=.fields ps }
 | .met f x=>h.get? a=some (PySem.W.methodObj (.ref f) (.ref x))
 | .ext φ=>φ h /\ (∃ o,h.get? a=some o) /\ ∀ h1 h2:Heap,φ h1->(∀ o,h1.get? a=some o->h2.get? a=some o)->φ h2
noncomputable def HOk (H:Hp) (h:Heap):Prop:=∀ a o,H a=some o->ObjOk P w H h a o
end
section
variable {P:Program} {w:World} {H H':Hp} {h h':Heap} {a:Addr} {o:HO}
theorem ObjOk.lt (x:ObjOk P w H h a o):a < h.objs.size:=by
 cases o with
 | lst xs=>obtain ⟨_,_,_,_,e⟩:=x;exact Heap.lt_size e
 | tup xs=>obtain ⟨_,_,_,p⟩:=x;exact p.lt
 | dK kvs=>obtain ⟨_,_,_,_,o,_,_,e,_⟩:=x;exact Heap.lt_size e
 | dT kvs=>obtain ⟨_,_,_,_,o,_,_,e,_⟩:=x;exact Heap.lt_size e
 | set S n=>obtain ⟨o,_,_,_,e,_⟩:=x;exact Heap.lt_size e
 | ins C dx fs=>obtain ⟨_,_,_,e,_⟩:=x;exact Heap.lt_size e
 | own y=>obtain ⟨_,e⟩:=x;exact Heap.lt_size e
 | xd fs=>obtain ⟨_,⟨_,_,_,e,_⟩,_⟩:=x;exact Heap.lt_size e
 | rng lo hi=>obtain ⟨_,_,_,e⟩:=x;exact Heap.lt_size e
 | frz ob u=>obtain ⟨e,_⟩:=x;exact Heap.lt_size e
 | tbl ps=>exact Heap.lt_size (show h.get? a=some _ from x)
 | met f y=>exact Heap.lt_size (show h.get? a=some _ from x)
 | ext φ=>obtain ⟨_,⟨_,e⟩,_⟩:=x;exact Heap.lt_size e
theorem Paired.mapP {α β:Type} {F G:α->β->Prop}:∀ {l₁:List α} {l₂:List β},Paired F l₁ l₂->(∀ a b,F a b->G a b)->Paired G l₁ l₂
 | _,_,.nil,_=>.nil
 | _,_,.cons r t,f=>.cons (f _ _ r) (Paired.mapP t f)
theorem ObjOk.stay (x:ObjOk P w H h a o) (k:∀ b u,(b=a∨H b=some (.own a))->h.get? b=some u->h'.get? b=some u)
  (ho:∀ b,H b=some (.own a)->H' b=some (.own a)) (ht:∀ b xs,H b=some (.tup xs)->H' b=some (.tup xs)):ObjOk P w H' h' a o:=by
 induction o with
 | lst xs=>obtain ⟨z,its,n,r,e⟩:=x;exact ⟨z,its,n,r,k _ _ (.inl rfl) e⟩
 | tup xs=>obtain ⟨z,its,r,ob,e,c⟩:=x;exact ⟨z,its,r,ob,k _ _ (.inl rfl) e,c⟩
 | dK kvs=>obtain ⟨z,y,vs,r,ob,es,ep,e,c⟩:=x;exact ⟨z,y,vs,r,ob,es,ep,k _ _ (.inl rfl) e,c⟩
 | dT kvs=>
  obtain ⟨z,y,xs,r,ob,es,ep,e,c⟩:=x
  exact ⟨z,y,xs,Paired.mapP r fun p q z=>⟨z.1,ht _ _ z.2.1,z.2.2⟩,ob,es,ep,k _ _ (.inl rfl) e,c⟩
 | set S n=>obtain ⟨ob,es,ep,t,e,c⟩:=x;exact ⟨ob,es,ep,t,k _ _ (.inl rfl) e,c⟩
 | ins C dx fs=>
  obtain ⟨d,z,ne,e,mA,⟨od,es,ep,e2,c⟩,r⟩:=x
  exact ⟨ho _ d,z,ne,k _ _ (.inl rfl) e,mA,⟨od,es,ep,k _ _ (.inr d) e2,c⟩,r⟩
 | own y=>obtain ⟨ob,e⟩:=x;exact ⟨ob,k _ _ (.inl rfl) e⟩
 | xd fs=>obtain ⟨mA,⟨od,es,ep,e,c⟩,r⟩:=x;exact ⟨mA,⟨od,es,ep,k _ _ (.inl rfl) e,c⟩,r⟩
 | rng lo hi=>obtain ⟨t,u,v,e⟩:=x;exact ⟨t,u,v,k _ _ (.inl rfl) e⟩
 | frz ob u ih=>obtain ⟨e,q⟩:=x;exact ⟨k _ _ (.inl rfl) e,ih q⟩
 | tbl ps=>
  have e:h.get? a=some { cls:=.none,data:=.fields ps }:=x
  show h'.get? a=some { cls:=.none,data:=.fields ps }
  exact k a _ (.inl rfl) e
 | met f y=>
  have e:h.get? a=some (PySem.W.methodObj (.ref f) (.ref y)):=x
  show h'.get? a=some (PySem.W.methodObj (.ref f) (.ref y))
  exact k a _ (.inl rfl) e
 | ext φ=>obtain ⟨p,⟨o,e⟩,st⟩:=x;exact ⟨st _ _ p fun o q=>k _ _ (.inl rfl) q,⟨o,k _ _ (.inl rfl) e⟩,st⟩
theorem HOk.lt (x:HOk P w H h) (e:H a=some o):a < h.objs.size:=(x a o e).lt
theorem HOk.fresh (x:HOk P w H h) (e:h.objs.size <= a):H a=none:=by
 cases q:H a with
 | none=>rfl
 | some u=>exact absurd (yAE (x.lt q) e) (yAS _)
theorem HOk.kept (x:HOk P w H h) (k:∀ b u,h.get? b=some u->h'.get? b=some u):HOk P w H h':=fun a o e=>
 (x a o e).stay (fun b u _ q=>k b u q) (fun _ q=>q) fun _ _ q=>q
theorem HOk.laid (x:HOk P w H h) (k:∀ b u,h.get? b=some u->h'.get? b=some u) (hp:h.objs.size <= a) (new:ObjOk P w (upd H a o) h' a o):HOk P w (upd H a o) h':=fun b u e=>by
 have hn:=x.fresh hp
 by_cases hb:b=a
 .subst hb;rw [ZAH] at e;cases e;exact new
 .rw [ZAL hb] at e
  exact (x b u e).stay (fun c v _ q=>k c v q) (fun c q=>by rw [ZAL (ZAX q hn)];exact q) fun c xs q=>by rw [ZAL (ZAX q hn)];exact q
end
noncomputable def Rd (H:Hp) (a:Addr) (u:HO):Prop:=H a=some u∨∃ o,H a=some (.frz o u)
theorem Rd.ok {P:Program} {w:World} {H:Hp} {h:Heap} {a:Addr} {u:HO} (r:Rd H a u) (x:HOk P w H h):ObjOk P w H h a u:=by
 rcases r with r | ⟨o,r⟩
 .exact x a u r
 .obtain ⟨_,q⟩:=x a _ r
  exact q
noncomputable def Mut:Option HO->Prop
 | some (.lst _)=>True
 | some (.dK _)=>True
 | some (.dT _)=>True
 | some (.set _ _)=>True
 | some (.ins _ _ _)=>True
 | some (.ext _)=>True
 | _=>False
section
variable {P:Program} {w:World} {H:Hp} {h h':Heap} {x e:Addr} {o':HO}
theorem HOk.write (ok:HOk P w H h) (mu:Mut (H x)) (he:e=x∨H e=some (.own x)) (k:∀ b u,b≠e->h.get? b=some u->h'.get? b=some u) (heo:∃ u,h'.get? e=some u)
  (new:ObjOk P w (upd H x o') h' x o'):HOk P w (upd H x o') h':=fun b u q=>by
 have nown:∀ c y,H c=some (.own y)->c≠x:=fun c y r z=>by subst z;rw [r] at mu;exact mu
 have ntup:∀ c xs,H c=some (.tup xs)->c≠x:=fun c xs r z=>by subst z;rw [r] at mu;exact mu
 by_cases hb:b=x
 .subst hb;rw [ZAH] at q;cases q;exact new
 .rw [ZAL hb] at q
  by_cases hbe:b=e
  .have q':H b=some (.own x):=by
    rcases he with z | z
    .exact absurd (hbe.trans z) hb
    .rw [hbe];exact z
   rw [q] at q';cases q'
   obtain ⟨v,hv⟩:=heo
   exact ⟨v,by rw [hbe];exact hv⟩
  .refine (ok b u q).stay (fun c v hc r=>k c v ?_ r) (fun c r=>by rw [ZAL (nown c b r)];exact r) fun c xs r=>by rw [ZAL (ntup c xs r)];exact r
   rcases hc with rfl | hc
   .exact hbe
   .rintro rfl
    rcases he with z | z
    .exact nown c b hc z
    .rw [hc] at z;cases z;exact hb rfl
end
structure Un (fs ex:List Addr) (H H':Hp) (h h':Heap):Prop where
 keep:∀ b o,h.get? b=some o->H b=none->b∉fs->b∉ex->h'.get? b=some o
 slot:∀ b o,h.get? b=some o->H b=none->b∈fs->b∉ex->∃ sl,h'.get? b=some { o with slots:=sl }
 free:∀ b o,h.get? b=some o->H b=none->b∉ex->H' b=none
 there:∀ b o,h.get? b=some o->b∉ex->∃ o',h'.get? b=some o'
 tups:∀ b xs,H b=some (.tup xs)->H' b=some (.tup xs)
 frzs:∀ b o u,H b=some (.frz o u)->H' b=some (.frz o u)
 tbls:∀ b ps,H b=some (.tbl ps)->∃ more,H' b=some (.tbl (ps++more))
section
variable {fs fs' ex ex':List Addr} {H H1 H2:Hp} {h h1 h2 h':Heap} {a x e:Addr} {o:HO}
theorem Un.any (u:Un fs ex H H1 h h1) {b:Addr} {ob:Obj} (q:h.get? b=some ob) (n:H b=none) (hx:b∉ex):∃ sl,h1.get? b=some { ob with slots:=sl }:=by
 by_cases hb:b∈fs
 .exact u.slot b ob q n hb hx
 .exact ⟨ob.slots,u.keep b ob q n hb hx⟩
theorem Un.kept (k:∀ b u,h.get? b=some u->h'.get? b=some u):Un fs ex H H h h' :=
 ⟨fun b ob q _ _ _=>k b ob q,fun b ob q _ _ _=>⟨ob.slots,k b ob q⟩,fun _ _ _ n _=>n,fun b ob q _=>⟨ob,k b ob q⟩,fun _ _ q=>q,fun _ _ _ q=>q,fun _ ps q=>⟨#[],by rw [q];simp⟩⟩
theorem Un.refl:Un fs ex H H h h:=Un.kept fun _ _ q=>q
theorem Un.laid (k:∀ b u,h.get? b=some u->h'.get? b=some u) (hp:h.objs.size <= a) (hn:H a=none):Un fs ex H (upd H a o) h h' where
 keep:=fun b u q _ _ _=>k b u q
 slot:=fun b u q _ _ _=>⟨u.slots,k b u q⟩
 free:=fun b u q n _=>by rw [ZAL (yAH (yAE (Heap.lt_size q) hp))];exact n
 there:=fun b u q _=>⟨u,k b u q⟩
 tups:=fun b xs q=>by rw [ZAL (ZAX q hn)];exact q
 frzs:=fun b u xs q=>by rw [ZAL (ZAX q hn)];exact q
 tbls:=fun b ps q=>⟨#[],by rw [ZAL (ZAX q hn),q];simp⟩
theorem Un.write (mu:Mut (H x)) (he:e=x∨H e=some (.own x)) (k:∀ b u,b≠e->h.get? b=some u->h'.get? b=some u) (heo:∃ u,h'.get? e=some u):Un fs ex H (upd H x o) h h':=by
 have hx:∀ b,H b=none->b≠x:=fun b n z=>by subst z;rw [n] at mu;exact mu
 have hb:∀ b,H b=none->b≠e:=fun b n z=>by
  subst z
  rcases he with r | r
  .exact hx b n r
  .rw [n] at r;cases r
 have hm:∀ b u,H b=some u->¬ Mut (some u)->b≠x:=fun b u q nm z=>by subst z;rw [q] at mu;exact nm mu
 refine ⟨fun b u q n _ _=>k b u (hb b n) q,fun b u q n _ _=>⟨u.slots,k b u (hb b n) q⟩,fun b u q n _=>by rw [ZAL (hx b n)];exact n,fun b u q _=>?_,
  fun b xs q=>by rw [ZAL (hm b _ q fun z=>z)];exact q,fun b u xs q=>by rw [ZAL (hm b _ q fun z=>z)];exact q,fun b ps q=>⟨#[],by rw [ZAL (hm b _ q fun z=>z),q];simp⟩⟩
 by_cases hbe:b=e
 .subst hbe;exact heo
 .exact ⟨u,k b u hbe q⟩
end
noncomputable def trk (h:Heap) (H:Hp):List Addr:=(List.range h.objs.size).filter fun a=>(H a).isSome
noncomputable def hidT (h:Heap) (H:Hp):Heap:=PySem.W.hideAll h (trk h H)
theorem hidT_size (h:Heap) (H:Hp):(hidT h H).objs.size=h.objs.size:=PySem.W.hideAll_size _ _
theorem hidT_get {h:Heap} {H:Hp} {b:Addr} {o:Obj} (e:h.get? b=some o) (n:H b=none):(hidT h H).get? b=some o :=
 PySem.W.hideAll_get _ e fun hm=>by
  have q:(H b).isSome=true:=(List.mem_filter.mp hm).2
  rw [n] at q;simp at q
theorem of_hidT {h:Heap} {H:Hp} {b:Addr} {o:Obj} (e:(hidT h H).get? b=some o):h.get? b=some o /\ H b=none:=by
 have e':h.get? b=some o:=PySem.W.of_hideAll (trk h H) e
 refine ⟨e',?_⟩
 cases q:H b with
 | none=>rfl
 | some x=>
  have hm:b∈trk h H:=List.mem_filter.mpr ⟨List.mem_range.mpr (Heap.lt_size e'),by simp [q]⟩
  have z:(hidT h H).get? b=none:=PySem.W.hideAll_none (trk h H) hm
  rw [z] at e;cases e
structure Mod (K:W.Frag) (mg:Str->Option Value) (base:Heap):Prop where
 kin:K.In base
 glob:base.Ns mainGlobals mg
 blt:∃ mb,base.Ns builtinsNs mb /\ ∀ x:Str,x≠"__name__"->mb x=bootBuiltins x
 nolimit:base.NoLimit
structure Cx where
 prog:Program
 w:World
 K:W.Frag
 mg:Str->Option Value
 base:Heap
 A:Around
 N:List Str
 s₀:Shared
 H₀:Hp
 env:Env
 outer:List Env
 stack:List Env
 ex:List Addr
 fn:Str->Bool
 calm:Bool
 pn:List (Addr×Obj)
 xe:Value->Shared->Prop
noncomputable def frs (l:List Env):List Addr:=l.filterMap (·.frame)
noncomputable abbrev Cx.fs (X:Cx):List Addr:=frs X.outer
noncomputable def Vis (sc:Scope) (x:Str):Prop:=sc.names.lookup x=some .local∨sc.names.lookup x=some .cell∨sc.names.lookup x=some .free
noncomputable def Loc (sc:Scope) (x:Str):Prop:=sc.names.lookup x=some .local∨sc.names.lookup x=some .cell
noncomputable def Look (env:Env) (h:Heap) (m:Str->Option Value) (x:Str) (u:Value):Prop :=
 (env.kindOf x=some .local /\ m x=some u)∨((env.kindOf x=some .cell∨env.kindOf x=some .free) /\ ∃ c,env.cells.lookup x=some c /\ h.IsCell c (some u))
structure Cx.Ok (X:Cx):Prop where
 mod:Mod X.K X.mg X.base
 kind:X.env.scope.kind=.function
 glob:X.env.globals=mainGlobals
 blt:X.env.builtins=builtinsNs
 above:X.s₀.heap.objs.size <= X.env.locals
 inj:∀ x y c,X.env.cells.lookup x=some c->X.env.cells.lookup y=some c->x=y
 has:∀ x,(X.env.kindOf x=some .cell∨X.env.kindOf x=some .free)->∃ c,X.env.cells.lookup x=some c
 cab:∀ x c,X.fn x=true->X.env.cells.lookup x=some c->X.s₀.heap.objs.size <= c
 hd:X.calm=true->X.A.handled=none
 frames:X.A.frames=some X.stack
 stk:X.stack=X.outer∨(X.stack=X.env::X.outer /\ X.env.frame=some X.env.locals)
 exf:∀ b∈X.ex,b≠X.env.locals /\ ∀ x c,X.env.cells.lookup x=some c->c≠b
 bs:∀ b o,X.base.get? b=some o->X.s₀.heap.get? b=some o /\ X.H₀ b=none
 bsz:X.base.objs.size <= X.s₀.heap.objs.size
 noex:∀ b o,X.base.get? b=some o->b∉X.ex
 exfs:∀ b∈X.ex,b∉X.fs
 funs:X.s₀.heap.FunFrames X.base X.outer
 frf:∀ b∈X.fs,X.H₀ b=none
structure Inv (X:Cx) (pins:List (Addr×Obj)) (σ:List (Option V)) (H:Hp) (s:Shared):Prop where
 ok:X.Ok
 os:s.os=X.s₀.os
 bare:AllBare s.gens
 base:Un X.fs X.ex X.H₀ H X.s₀.heap s.heap
 loc:∃ m,s.heap.Ns X.env.locals m /\ ∀ (i:Nat) (x:Str) (v:V),X.N[i]?=some x->σ[i]?=some (some v)->Vis X.env.scope x->∃ u,RelV v u /\ Look X.env s.heap m x u
 cell:∀ x c,X.env.cells.lookup x=some c->∃ v,s.heap.IsCell c v
 free:H X.env.locals=none
 freeC:∀ x c,X.env.cells.lookup x=some c->H c=none
 pin:∀ p∈X.pn++pins,s.heap.get? p.1=some p.2 /\ H p.1=none /\ p.1≠X.env.locals /\ p.1∉X.fs /\ ∀ v,p.2.data≠.cell v
 hok:HOk X.prog X.w H s.heap
 len:σ.length=X.N.length
section
variable {X:Cx} {pins:List (Addr×Obj)} {σ:List (Option V)} {H H':Hp} {s:Shared} {h':Heap}
theorem Cx.Ok.nofr (ok:X.Ok) {b:Addr} {o:Obj} (e:X.base.get? b=some o):b∉X.fs:=fun hb=>by
 have:=(ok.funs.mem hb).1
 rw [e] at this;cases this
theorem Inv.bs (I:Inv X pins σ H s):∀ b o,X.base.get? b=some o->s.heap.get? b=some o /\ H b=none:=fun b o e=>
 ⟨I.base.keep b o (I.ok.bs b o e).1 (I.ok.bs b o e).2 (I.ok.nofr e) (I.ok.noex b o e),I.base.free b o (I.ok.bs b o e).1 (I.ok.bs b o e).2 (I.ok.noex b o e)⟩
theorem Inv.bk (I:Inv X pins σ H s):∀ b o,X.base.get? b=some o->s.heap.get? b=some o:=fun b o e=>(I.bs b o e).1
theorem Inv.mod (I:Inv X pins σ H s):Mod X.K X.mg X.base:=I.ok.mod
theorem Inv.kIn (I:Inv X pins σ H s):X.K.In s.heap:=I.ok.mod.kin.keeps I.bk
theorem Inv.lt (I:Inv X pins σ H s):X.env.locals < s.heap.objs.size:=let ⟨_,hn,_⟩:=I.loc;hn.lt
theorem Inv.sz (I:Inv X pins σ H s):X.s₀.heap.objs.size <= s.heap.objs.size:=yAC I.ok.above (Nat.le_of_lt I.lt)
theorem Inv.nofs (I:Inv X pins σ H s) {a:Addr} (h:s.heap.objs.size <= a):a∉X.fs:=fun hb=>by
 obtain ⟨_,o,ho,_⟩:=I.ok.funs.mem hb
 exact absurd (yAE (Heap.lt_size ho) (yAC I.sz h)) (yAS _)
theorem Inv.cne (I:Inv X pins σ H s):∀ x c,X.env.cells.lookup x=some c->c≠X.env.locals:=fun x c e z=>by
 obtain ⟨v,o,ho,hd⟩:=I.cell x c e
 obtain ⟨m,⟨o',es,ep,ho',hd',_⟩,_⟩:=I.loc
 rw [z,ho'] at ho;cases ho;rw [hd'] at hd;cases hd
theorem Inv.funs (I:Inv X pins σ H s):s.heap.FunFrames X.base X.outer:=by
 have all:∀ (l:List Env),(∀ b∈frs l,b∈X.fs)->X.s₀.heap.FunFrames X.base l->s.heap.FunFrames X.base l:=by
  intro l
  induction l with
  | nil=>intro _ _;trivial
  | cons env r ih=>
   intro hs hl
   obtain ⟨hk,⟨L,o,hf,hn,ho,hd⟩,hr⟩:=hl
   have hL:L∈X.fs:=hs L (by unfold frs;rw [List.filterMap_cons,hf];exact yAK)
   obtain ⟨sl,e⟩:=I.base.slot L o ho (I.ok.frf L hL) hL fun z=>I.ok.exfs L z hL
   exact ⟨hk,⟨L,_,hf,hn,e,hd⟩,ih (fun b hb=>hs b (by unfold frs;rw [List.filterMap_cons,hf];exact yAL _ hb)) hr⟩
 exact all X.outer (fun _ hb=>hb) I.ok.funs
theorem Inv.stack (I:Inv X pins σ H s):s.heap.FunFrames X.base X.stack:=by
 rcases I.ok.stk with e | ⟨e,hf⟩
 .rw [e];exact I.funs
 .rw [e]
  obtain ⟨m,hn,_⟩:=I.loc
  refine .cons (by rw [I.ok.kind];decide) hf hn ?_ I.funs
  exact Heap.get?_none_of_le (yAC I.ok.bsz I.ok.above)
theorem Inv.stkSub (I:Inv X pins σ H s):∀ b∈frs X.stack,b∈X.env.locals::X.fs:=fun b hb=>by
 rcases I.ok.stk with e | ⟨e,hf⟩
 .rw [e] at hb;exact yAL _ hb
 .rw [e] at hb
  unfold frs at hb
  rw [List.filterMap_cons,hf] at hb
  exact hb
theorem Inv.stkFree (I:Inv X pins σ H s):∀ b∈frs X.stack,H b=none:=fun b hb=>by
 rcases yAP.mp (I.stkSub b hb) with e | hb
 .rw [e];exact I.free
 .obtain ⟨_,o,ho,_⟩:=I.ok.funs.mem hb
  exact I.base.free b o ho (I.ok.frf b hb) fun z=>I.ok.exfs b z hb
theorem Inv.step {g':Array GenState} {t':Nat} {d':Drawn} {ch:List Addr} (I:Inv X pins σ H s)
  (hch:∀ b∈ch,(b∈X.ex∨X.s₀.heap.objs.size <= b) /\ b≠X.env.locals /\ (∀ x c,X.env.cells.lookup x=some c->c≠b) /\ ∀ p∈X.pn++pins,p.1≠b)
  (keep:∀ b o,b≠X.env.locals->b∉X.fs->b∉ch->s.heap.get? b=some o->H b=none->h'.get? b=some o)
  (slot:∀ b o,b≠X.env.locals->b∈X.fs->b∉ch->s.heap.get? b=some o->H b=none->∃ sl,h'.get? b=some { o with slots:=sl }) (free:∀ b o,b∉ch->s.heap.get? b=some o->H b=none->H' b=none)
  (there:∀ b o,b∉ch->s.heap.get? b=some o->∃ o',h'.get? b=some o')
  (tups:∀ b xs,H b=some (.tup xs)->H' b=some (.tup xs)) (frzs:∀ b o u,H b=some (.frz o u)->H' b=some (.frz o u)) (tbls:∀ b ps,H b=some (.tbl ps)->∃ more,H' b=some (.tbl (ps++more)))
  (ns:∀ m,s.heap.Ns X.env.locals m->h'.Ns X.env.locals m) (hok:HOk X.prog X.w H' h') (hg:AllBare g') :
  Inv X pins σ H' { s with heap:=h',gens:=g',drawn:=d',toks:=t' }:=by
 have neL:∀ b o,X.s₀.heap.get? b=some o->b≠X.env.locals:=fun b o e=>yAH (yAE (Heap.lt_size e) I.ok.above)
 have neC:∀ b o,X.s₀.heap.get? b=some o->b∉X.ex->b∉ch:=fun b o e hx hb=>by
  rcases (hch b hb).1 with z | z
  .exact hx z
  .exact absurd (yAE (Heap.lt_size e) z) (yAS _)
 have cellK:∀ x c,X.env.cells.lookup x=some c->∀ v,s.heap.IsCell c v->h'.IsCell c v:=fun x c e v ⟨o,ho,hd⟩=>by
  have nch:c∉ch:=fun z=>(hch c z).2.2.1 x c e rfl
  by_cases hc:c∈X.fs
  .obtain ⟨sl,q⟩:=slot c o (I.cne x c e) hc nch ho (I.freeC x c e)
   exact ⟨_,q,hd⟩
  .exact ⟨o,keep c o (I.cne x c e) hc nch ho (I.freeC x c e),hd⟩
 refine ⟨I.ok,I.os,hg,⟨fun b o e n hb hx=>?_,fun b o e n hb hx=>?_,fun b o e n hx=>?_,fun b o e hx=>?_,fun b xs e=>tups b xs (I.base.tups b xs e),fun b o xs e=>frzs b o xs (I.base.frzs b o xs e),fun b ps e=>?_⟩,?_,fun x c e=>?_,?_,fun x c e=>?_,fun p hp=>?_,hok,I.len⟩
 .exact keep b o (neL b o e) hb (neC b o e hx) (I.base.keep b o e n hb hx) (I.base.free b o e n hx)
 .obtain ⟨sl,e1⟩:=I.base.slot b o e n hb hx
  obtain ⟨sl',e2⟩:=slot b _ (neL b o e) hb (neC b o e hx) e1 (I.base.free b o e n hx)
  exact ⟨sl',e2⟩
 .obtain ⟨o',e1⟩:=I.base.there b o e hx
  exact free b o' (neC b o e hx) e1 (I.base.free b o e n hx)
 .obtain ⟨o',e1⟩:=I.base.there b o e hx
  exact there b o' (neC b o e hx) e1
 .obtain ⟨m1,e1⟩:=I.base.tbls b ps e
  obtain ⟨m2,e2⟩:=tbls b _ e1
  exact ⟨m1++m2,by rw [e2,Array.append_assoc]⟩
 .obtain ⟨m,hn,hl⟩:=I.loc
  refine ⟨m,ns m hn,fun i x v e1 e2 e3=>?_⟩
  obtain ⟨u,r,l⟩:=hl i x v e1 e2 e3
  refine ⟨u,r,?_⟩
  rcases l with l | ⟨k,c,e,z⟩
  .exact .inl l
  .exact .inr ⟨k,c,e,cellK x c e _ z⟩
 .obtain ⟨v,z⟩:=I.cell x c e
  exact ⟨v,cellK x c e v z⟩
 .obtain ⟨m,⟨o,_,_,ho,_⟩,_⟩:=I.loc
  exact free _ o (fun z=>(hch _ z).2.1 rfl) ho I.free
 .obtain ⟨v,o,ho,hd⟩:=I.cell x c e
  exact free c o (fun z=>(hch c z).2.2.1 x c e rfl) ho (I.freeC x c e)
 .obtain ⟨e,n,ne,nf,d⟩:=I.pin p hp
  have nch:p.1∉ch:=fun z=>(hch p.1 z).2.2.2 p hp rfl
  exact ⟨keep p.1 p.2 ne nf nch e n,free p.1 p.2 nch e n,ne,nf,d⟩
theorem Inv.un {t':Nat} (I:Inv X pins σ H s) (u:Un X.fs [] H H' s.heap h') (hok:HOk X.prog X.w H' h'):Inv X pins σ H' { s with heap:=h',toks:=t' }:=by
 obtain ⟨m,⟨o,es,ep,ho,r⟩,_⟩:=id I.loc
 obtain ⟨sl,hL⟩:=u.any ho I.free (by simp)
 exact I.step (g':=s.gens) (d':=s.drawn) (ch:=[]) (fun _ z=>nomatch z) (fun b o _ hb _ e n=>u.keep b o e n hb (by simp)) (fun b o _ hb _ e n=>u.slot b o e n hb (by simp)) (fun b o _ e n=>u.free b o e n (by simp)) (fun b o _ e=>u.there b o e (by simp)) u.tups u.frzs u.tbls (fun m' hm=>by
  obtain ⟨o',es',ep',ho',r'⟩:=hm
  rw [ho] at ho';cases ho'
  exact ⟨_,es',ep',hL,r'⟩) hok I.bare
theorem Inv.call {g':Array GenState} {t':Nat} {d':Drawn} {ch:List Addr} (I:Inv X pins σ H s) (u:Un (frs X.stack) ch H H' s.heap h') (hok:HOk X.prog X.w H' h') (hg:AllBare g')
  (hch:∀ b∈ch,(b∈X.ex∨X.s₀.heap.objs.size <= b) /\ b≠X.env.locals /\ (∀ x c,X.env.cells.lookup x=some c->c≠b) /\ ∀ p∈X.pn++pins,p.1≠b) :
  Inv X pins σ H' { s with heap:=h',gens:=g',drawn:=d',toks:=t' }:=by
 obtain ⟨m,⟨o,es,ep,ho,r⟩,_⟩:=id I.loc
 obtain ⟨sl,hL⟩:=u.any ho I.free fun z=>(hch _ z).2.1 rfl
 exact I.step (ch:=ch) hch (fun b o hL hb hc e n=>u.keep b o e n (fun z=>(yAP.mp (I.stkSub b z)).elim hL hb) hc) (fun b o _ _ hc e n=>u.any e n hc) (fun b o hc e n=>u.free b o e n hc) (fun b o hc e=>u.there b o e hc) u.tups u.frzs u.tbls (fun m' hm=>by
  obtain ⟨o',es',ep',ho',r'⟩:=hm
  rw [ho] at ho';cases ho'
  exact ⟨_,es',ep',hL,r'⟩) hok hg
theorem Inv.turned {t':Nat} {it:Addr} (I:Inv X pins σ H s) (k:∀ b o,b≠it->s.heap.get? b=some o->h'.get? b=some o) (hn:H it=none) (hL:it≠X.env.locals)
  (h1:it∈X.ex∨X.s₀.heap.objs.size <= it) (h2:∀ x c,X.env.cells.lookup x=some c->c≠it) (h3:∀ p∈X.pn++pins,p.1≠it):Inv X pins σ H { s with heap:=h',toks:=t' }:=by
 have nit:∀ b u,H b=some u->b≠it:=fun b u e z=>by rw [z,hn] at e;cases e
 refine I.step (g':=s.gens) (d':=s.drawn) (ch:=[it]) (fun b hb=>?_) (fun b o _ _ hc e _=>k b o (fun z=>hc (by simp [z])) e) (fun b o _ _ hc e _=>⟨o.slots,k b o (fun z=>hc (by simp [z])) e⟩) (fun _ _ _ _ n=>n)
  (fun b o hc e=>⟨o,k b o (fun z=>hc (by simp [z])) e⟩) (fun _ _ e=>e) (fun _ _ _ e=>e) (fun b ps e=>⟨#[],by rw [e];simp⟩) (fun m hm=>?_) (fun b u e=>?_) I.bare
 .have e:b=it:=by simpa using hb
  subst e
  exact ⟨h1,hL,h2,h3⟩
 .obtain ⟨o,es,ep,ho,r⟩:=hm
  exact ⟨o,es,ep,k _ o (Ne.symm hL) ho,r⟩
 .refine (I.hok b u e).stay (fun c v hc q=>k c v ?_ q) (fun _ q=>q) fun _ _ q=>q
  rcases hc with z | z
  .rw [z];exact nit b u e
  .exact nit c _ z
theorem Inv.tok (I:Inv X pins σ H s) (t:Nat):Inv X pins σ H { s with toks:=t }:=I.un (h':=s.heap) (t':=t) Un.refl I.hok
theorem Inv.kept {t':Nat} (I:Inv X pins σ H s) (k:∀ b u,s.heap.get? b=some u->h'.get? b=some u):Inv X pins σ H { s with heap:=h',toks:=t' }:=I.un (Un.kept k) (I.hok.kept k)
theorem Inv.laid {a:Addr} {o:HO} {t':Nat} (I:Inv X pins σ H s) (k:∀ b u,s.heap.get? b=some u->h'.get? b=some u) (hp:s.heap.objs.size <= a) (new:ObjOk X.prog X.w (upd H a o) h' a o) :
  Inv X pins σ (upd H a o) { s with heap:=h',toks:=t' }:=I.un (Un.laid k hp (I.hok.fresh hp)) (I.hok.laid k hp new)
theorem Inv.write {x e:Addr} {o:HO} {t':Nat} (I:Inv X pins σ H s) (mu:Mut (H x)) (he:e=x∨H e=some (.own x)) (k:∀ b u,b≠e->s.heap.get? b=some u->h'.get? b=some u) (heo:∃ u,h'.get? e=some u)
  (new:ObjOk X.prog X.w (upd H x o) h' x o):Inv X pins σ (upd H x o) { s with heap:=h',toks:=t' }:=I.un (Un.write mu he k heo) (I.hok.write mu he k heo new)
theorem Inv.pins_of {pins':List (Addr×Obj)} (I:Inv X pins σ H s) (h:∀ p∈pins',s.heap.get? p.1=some p.2 /\ H p.1=none /\ p.1≠X.env.locals /\ p.1∉X.fs /\ ∀ v,p.2.data≠.cell v):Inv X pins' σ H s :=
 ⟨I.ok,I.os,I.bare,I.base,I.loc,I.cell,I.free,I.freeC,fun p hp=>(yAV.mp hp).elim (fun z=>I.pin p (List.mem_append_left _ z)) (h p),I.hok,I.len⟩
theorem ZBx {N:List Str} (hN:N.Nodup) {i j:Nat} {x:Str} (a:N[i]?=some x) (b:N[j]?=some x):i=j:=by
 obtain ⟨h1,e1⟩:=yAT.mp a
 obtain ⟨h2,e2⟩:=yAT.mp b
 exact (List.getElem_inj hN).mp (e1.trans e2.symm)
theorem store_ok2 {M:Model} {A:Around} {E:Value->Shared->Prop} {i:Nat} {x:Str} {v:V} {u:Value} {Q:Unit->Shared->Prop} (I:Inv X pins σ H s) (hN:X.N.Nodup) (hi:X.N[i]?=some x) (hx:Loc X.env.scope x) (r:RelV v u)
  (h:∀ s',Inv X pins (σ.set i (some v)) H s'->(∃ a,Heap.SameBut a s.heap s'.heap /\ (a=X.env.locals∨X.env.cells.lookup x=some a))->Q () s') (hf:X.fn x=true∨X.env.scope.names.lookup x=some .local:=by first | exact .inl rfl | exact .inr rfl | assumption):wpAny M A (storeName X.env x u) Q E s:=by
 obtain ⟨m,hn,hl⟩:=id I.loc
 have hcls:(X.env.scope.kind == .class || (X.env.scope.kind == .module && X.env.locals != X.env.globals))=false:=by rw [I.ok.kind];rfl
 have hiσ:i < σ.length:=by rw [I.len];exact (yAT.mp hi).1
 have cne:=I.cne
 have tracked:∀ {a:Addr} {h':Heap},(∃ o,s.heap.get? a=some o /\ H a=none)->Heap.SameBut a s.heap h'->HOk X.prog X.w H h':=fun {a h'} ha hs b ob e=>by
  obtain ⟨_,_,hfree⟩:=ha
  refine (I.hok b ob e).stay (fun c w' hc q=>(hs.2 c ?_).trans q) (fun _ q=>q) fun _ _ q=>q
  rintro rfl
  rcases hc with rfl | hc
  .rw [hfree] at e;cases e
  .rw [hfree] at hc;cases hc
 rcases hx with hk | hk
 .refine wpAny_storeName_local hk hn (fun h' hn' hs=>?_) hcls
  obtain ⟨oL,_,_,hoL,_⟩:=id hn
  refine h _ ⟨I.ok,I.os,I.bare,⟨fun b o e n hb hx=>?_,fun b o e n hb hx=>?_,I.base.free,fun b o e hx=>?_,I.base.tups,I.base.frzs,I.base.tbls⟩,⟨_,hn',fun j y v' e1 e2 e3=>?_⟩,fun y c e=>?_,I.free,I.freeC,fun p hp=>?_,tracked ⟨oL,hoL,I.free⟩ hs,by simpa using I.len⟩ ⟨_,hs,.inl rfl⟩
  .exact (hs.2 b (yAH (yAE (Heap.lt_size e) I.ok.above))).trans (I.base.keep b o e n hb hx)
  .obtain ⟨sl,e1⟩:=I.base.slot b o e n hb hx
   exact ⟨sl,(hs.2 b (yAH (yAE (Heap.lt_size e) I.ok.above))).trans e1⟩
  .obtain ⟨o',e1⟩:=I.base.there b o e hx
   exact ⟨o',(hs.2 b (yAH (yAE (Heap.lt_size e) I.ok.above))).trans e1⟩
  .by_cases hj:j=i
   .subst hj
    rw [hi] at e1;cases e1
    rw [List.getElem?_set_self hiσ] at e2
    cases e2
    exact ⟨u,r,.inl ⟨hk,by simp⟩⟩
   .rw [List.getElem?_set_ne (Ne.symm hj)] at e2
    obtain ⟨u',r',q⟩:=hl j y v' e1 e2 e3
    refine ⟨u',r',?_⟩
    rcases q with ⟨k,e⟩ | ⟨k,c,e,z⟩
    .refine .inl ⟨k,?_⟩
     have:y≠x:=fun e=>hj (ZBx hN e1 (e ▸ hi))
     simp [this,e]
    .exact .inr ⟨k,c,e,z.sameBut hs (cne y c e)⟩
  .obtain ⟨w',z⟩:=I.cell y c e
   exact ⟨w',z.sameBut hs (cne y c e)⟩
  .obtain ⟨e,n,ne,nf,d⟩:=I.pin p hp
   exact ⟨(hs.2 p.1 ne).trans e,n,ne,nf,d⟩
 .have hfn:X.fn x=true:=by
   rcases hf with z | z
   .exact z
   .rw [z] at hk;cases hk
  obtain ⟨c,hc⟩:=I.ok.has x (.inl hk)
  obtain ⟨w',z⟩:=I.cell x c hc
  refine wpAny_storeName_cell I.ok.kind hk hc z (fun h' hc' hs=>?_)
  obtain ⟨oc,hoc,hocd⟩:=id z
  refine h { s with heap:=h' } ⟨I.ok,I.os,I.bare,⟨fun b o e n hb hx=>?_,fun b o e n hb hx=>?_,I.base.free,fun b o e hx=>?_,I.base.tups,I.base.frzs,I.base.tbls⟩,⟨m,hn.sameBut hs (Ne.symm (cne x c hc)),fun j y v' e1 e2 e3=>?_⟩,fun y c' e=>?_,I.free,I.freeC,fun p hp=>?_,tracked ⟨oc,hoc,I.freeC x c hc⟩ hs,by simpa using I.len⟩ ⟨c,hs,.inr hc⟩
  .exact (hs.2 b (yAH (yAE (Heap.lt_size e) (I.ok.cab x c hfn hc)))).trans (I.base.keep b o e n hb hx)
  .obtain ⟨sl,e1⟩:=I.base.slot b o e n hb hx
   exact ⟨sl,(hs.2 b (yAH (yAE (Heap.lt_size e) (I.ok.cab x c hfn hc)))).trans e1⟩
  .obtain ⟨o',e1⟩:=I.base.there b o e hx
   exact ⟨o',(hs.2 b (yAH (yAE (Heap.lt_size e) (I.ok.cab x c hfn hc)))).trans e1⟩
  .by_cases hj:j=i
   .subst hj
    rw [hi] at e1;cases e1
    rw [List.getElem?_set_self hiσ] at e2
    cases e2
    exact ⟨u,r,.inr ⟨.inl hk,c,hc,hc'⟩⟩
   .rw [List.getElem?_set_ne (Ne.symm hj)] at e2
    obtain ⟨u',r',q⟩:=hl j y v' e1 e2 e3
    refine ⟨u',r',?_⟩
    rcases q with q | ⟨k,c',e,z'⟩
    .exact .inl q
    .refine .inr ⟨k,c',e,z'.sameBut hs ?_⟩
     rintro rfl
     exact hj (ZBx hN e1 (I.ok.inj _ _ _ e hc ▸ hi))
  .by_cases hcc:c'=c
   .subst hcc;exact ⟨_,hc'⟩
   .obtain ⟨w2,z2⟩:=I.cell y c' e
    exact ⟨w2,z2.sameBut hs hcc⟩
  .obtain ⟨e,n,ne,nf,d⟩:=I.pin p hp
   refine ⟨(hs.2 p.1 ?_).trans e,n,ne,nf,d⟩
   intro q
   rw [q,hoc] at e
   have q':oc=p.2:=Option.some.inj e
   exact d w' (by rw [<- q'];exact hocd)
theorem ZBn {M:Model} {A:Around} {E:Value->Shared->Prop} {i:Nat} {x:Str} {v:V} {u:Value} {Q:Unit->Shared->Prop} (I:Inv X pins σ H s) (hN:X.N.Nodup) (hi:X.N[i]?=some x) (hx:Loc X.env.scope x) (r:RelV v u)
  (h:∀ s',Inv X pins (σ.set i (some v)) H s'->Q () s') (hf:X.fn x=true∨X.env.scope.names.lookup x=some .local:=by first | exact .inl rfl | exact .inr rfl | assumption):wpAny M A (storeName X.env x u) Q E s :=
 store_ok2 I hN hi hx r (fun s' I' _=>h s' I') hf
theorem Inv.call' {s':Shared} {ch:List Addr} (I:Inv X pins σ H s) (ho:s'.os=s.os) (u:Un (frs X.stack) ch H H' s.heap s'.heap) (hok:HOk X.prog X.w H' s'.heap) (hg:AllBare s'.gens)
  (hch:∀ b∈ch,(b∈X.ex∨X.s₀.heap.objs.size <= b) /\ b≠X.env.locals /\ (∀ x c,X.env.cells.lookup x=some c->c≠b) /\ ∀ p∈X.pn++pins,p.1≠b):Inv X pins σ H' s':=by
 obtain ⟨h',g',d',t',o'⟩:=s'
 have e:o'=s.os:=ho
 subst e
 exact I.call (g':=g') (t':=t') (d':=d') u hok hg hch
end
noncomputable abbrev XK:=Value->Option Addr->Hp->Prop
noncomputable abbrev St:=List (Option V)
noncomputable abbrev VK:=V->Hp->Prop
noncomputable abbrev TE:=St->Hp->VK->Prop
noncomputable abbrev TT:=St->Hp->(Bool->Hp->Prop)->Prop
noncomputable abbrev TA:=St->Hp->(List V->Hp->Prop)->Prop
structure Ends where
 nx:St->Hp->Prop
 rt:VK
 bk:St->Hp->Prop:=fun _ _=>False
 ct:St->Hp->Prop:=fun _ _=>False
noncomputable abbrev TS:=Ends->St->Hp->Prop
noncomputable def EP (X:Cx) (pins:List (Addr×Obj)) (σ:St) (Q:VK) (u:Value) (s':Shared):Prop:=∃ v H',Inv X pins σ H' s' /\ RelV v u /\ Q v H'
noncomputable def TP (X:Cx) (pins:List (Addr×Obj)) (σ:St) (Q:Bool->Hp->Prop) (b:Bool) (s':Shared):Prop:=∃ H',Inv X pins σ H' s' /\ Q b H'
noncomputable def AP (X:Cx) (pins:List (Addr×Obj)) (σ:St) (Q:List V->Hp->Prop) (us:List Value) (s':Shared):Prop:=∃ vs H',Inv X pins σ H' s' /\ Vals vs us /\ Q vs H'
noncomputable def SP (X:Cx) (pins:List (Addr×Obj)) (D:Ends) (f:Flow) (s':Shared):Prop :=
 match f with
 | .next=>∃ σ' H',Inv X pins σ' H' s' /\ D.nx σ' H'
 | .brk=>∃ σ' H',Inv X pins σ' H' s' /\ D.bk σ' H'
 | .cont=>∃ σ' H',Inv X pins σ' H' s' /\ D.ct σ' H'
 | .ret u=>∃ v σ' H',Inv X pins σ' H' s' /\ RelV v u /\ D.rt v H'
noncomputable def PE (X:Cx) (e:Expr) (t:TE):Prop :=
 ∀ (pins:List (Addr×Obj)) (s:Shared) (σ:St) (H:Hp) (Q:VK),Inv X pins σ H s->t σ H Q->wpAny (model X.prog X.w) X.A (eval e X.env) (EP X pins σ Q) X.xe s
noncomputable def PT (X:Cx) (e:Expr) (t:TT):Prop :=
 ∀ (pins:List (Addr×Obj)) (s:Shared) (σ:St) (H:Hp) (Q:Bool->Hp->Prop),Inv X pins σ H s->t σ H Q->wpAny (model X.prog X.w) X.A (isTrue e X.env (eval e X.env)) (TP X pins σ Q) X.xe s
noncomputable def PW (X:Cx) (e:Expr) (t:TT):Prop :=
 ∀ (whole:Sem Value) (pins:List (Addr×Obj)) (s:Shared) (σ:St) (H:Hp) (Q:Bool->Hp->Prop),Inv X pins σ H s->t σ H Q->wpAny (model X.prog X.w) X.A (isTrue e X.env whole) (TP X pins σ Q) X.xe s
theorem PW.pt {X:Cx} {e:Expr} {t:TT} (h:PW X e t):PT X e t:=h _
noncomputable def PA (X:Cx) (es:List Expr) (t:TA):Prop :=
 ∀ (pos:Pos) (pins:List (Addr×Obj)) (s:Shared) (σ:St) (H:Hp) (Q:List V->Hp->Prop),Inv X pins σ H s->t σ H Q->wpAny (model X.prog X.w) X.A (spliced (backTo pos (starEach es X.env))) (AP X pins σ Q) X.xe s
noncomputable def PS (X:Cx) (st:Stmt) (t:TS):Prop :=
 ∀ (pins:List (Addr×Obj)) (s:Shared) (σ:St) (H:Hp) (D:Ends),Inv X pins σ H s->t D σ H->wpAny (model X.prog X.w) X.A (exec st X.env) (SP X pins D) X.xe s
noncomputable def PSs (X:Cx) (st:List Stmt) (t:TS):Prop :=
 ∀ (pins:List (Addr×Obj)) (s:Shared) (σ:St) (H:Hp) (D:Ends),Inv X pins σ H s->t D σ H->wpAny (model X.prog X.w) X.A (execs st X.env) (SP X pins D) X.xe s
theorem thn {α:Type} {t:Sem α} {Q Q':α->Shared->Prop} {M:Model} {A:Around} {E:Value->Shared->Prop} {s:Shared} (h:wpAny M A t Q E s) (hQ:∀ a s,Q a s->Q' a s):wpAny M A t Q' E s:=wpAny_mono h hQ fun _ _ x=>x
section
variable {X:Cx}
noncomputable def tVar (i:Nat):TE:=fun σ H Q=>∃ v,σ[i]?=some (some v) /\ Q v H
noncomputable def tC (v:V):TE:=fun _ H Q=>Q v H
theorem pe_var {i:Nat} {x:Str} {pos:Pos} (hN:X.N[i]?=some x) (hv:Vis X.env.scope x) (hd:(x == ("__debug__":Str))=false:=by decide) (hcd:(x == ("__classdict__":Str))=false:=by decide):PE X (.Name x pos) (tVar i):=by
 intro pins s σ H Q I h
 obtain ⟨v,e,h⟩:=h
 obtain ⟨m,hn,hl⟩:=I.loc
 obtain ⟨u,r,l⟩:=hl i x v hN e hv
 have fin:EP X pins σ Q u s:=⟨v,H,I,r,h⟩
 rcases l with ⟨hk,hm⟩ | ⟨hk,c,hc,hcell⟩
 .exact wpAny_Name (wpAny_loadName_local I.ok.kind hk hn hm fin) hd
 .rcases hk with hk | hk
  .exact wpAny_Name (wpAny_loadName_cell I.ok.kind hk hc hcell fin) hd
  .exact wpAny_Name (wpAny_loadName_free I.ok.kind hk hc hcell fin hcd) hd
theorem ZAE {i j pos}:PE X (.Constant (.int i) j pos) (tC (.int i)):=fun _ _ _ H _ I h=>wpAny_Constant_int ⟨.int i,H,I.tok _,⟨_,rfl⟩,h⟩
theorem ZCS {b j pos}:PE X (.Constant (.bool b) j pos) (tC (.bl b)):=fun _ _ _ H _ I h=>Constant_bool ⟨.bl b,H,I,rfl,h⟩
theorem ZA9 {x j pos}:PE X (.Constant (.str x) j pos) (tC (.str x)):=fun _ _ _ H _ I h=>Calls.Constant_str ⟨.str x,H,I.tok _,⟨_,rfl⟩,h⟩
noncomputable def Gl (X:Cx) (x:Str):Prop:=X.env.kindOf x=some .globalImplicit
theorem ZBf {E:Value->Shared->Prop} {pins:List (Addr×Obj)} {s:Shared} {σ:St} {H:Hp} {x:Str} {u:Value} {pos:Pos} {Q:Value->Shared->Prop} (I:Inv X pins σ H s) (hg:Gl X x) (hm:X.mg x=some u) (h:Q u s)
  (hd:(x == ("__debug__":Str))=false:=by decide):wpAny (model X.prog X.w) X.A (eval (.Name x pos) X.env) Q E s :=
 Calls.Name_function_global I.ok.kind hg (Calls.loadGlobal_global (by rw [I.ok.glob];exact I.mod.glob.keeps I.bk) hm h) hd
theorem ZCH {E:Value->Shared->Prop} {pins:List (Addr×Obj)} {s:Shared} {σ:St} {H:Hp} {x:Str} {u:Value} {pos:Pos} {Q:Value->Shared->Prop} (I:Inv X pins σ H s) (hg:Gl X x) (hm:X.mg x=none) (hv:bootBuiltins x=some u) (h:Q u s)
  (hn:x≠"__name__":=by decide) (hd:(x == ("__debug__":Str))=false:=by decide):wpAny (model X.prog X.w) X.A (eval (.Name x pos) X.env) Q E s:=by
 obtain ⟨mb,h1,h2⟩:=I.mod.blt
 exact Calls.Name_function_global I.ok.kind hg (Calls.loadGlobal_builtin (by rw [I.ok.glob];exact I.mod.glob.keeps I.bk) hm (by rw [I.ok.blt];exact h1.keeps I.bk) ((h2 x hn).trans hv) h) hd
theorem pe_glob {x:Str} {v:V} {u:Value} {pos:Pos} (hg:Gl X x) (hm:X.mg x=some u) (r:RelV v u) (hd:(x == ("__debug__":Str))=false:=by decide):PE X (.Name x pos) (tC v) :=
 fun _ _ _ H _ I h=>ZBf I hg hm ⟨v,H,I,r,h⟩ hd
theorem pe_bltn {x:Str} {v:V} {u:Value} {pos:Pos} (hg:Gl X x) (hm:X.mg x=none) (hv:bootBuiltins x=some u) (r:RelV v u) (hn:x≠"__name__":=by decide) (hd:(x == ("__debug__":Str))=false:=by decide):PE X (.Name x pos) (tC v) :=
 fun _ _ _ H _ I h=>ZCH I hg hm hv ⟨v,H,I,r,h⟩ hn hd
variable {a b:Expr} {ta tb:TE} {pos:Pos}
noncomputable def tB (t:TE):TT:=fun σ H Q=>t σ H fun x H1=>∃ c,x=.bl c /\ Q c H1
theorem ZB5 {e:Expr} {t:TE} (h:PE X e t) (he:∀ whole,isTrue e X.env whole=(do let v <- whole;standAt e.pos;holding [v] (truthy v)):=by intro _;rfl):PT X e (tB t):=by
 intro pins s σ H Q I hw
 refine isTrue_plain (thn (h pins s σ H _ I hw) fun v s1 zz=>?_) (he _)
 obtain ⟨x,H1,I1,r1,q1⟩:=zz
 obtain ⟨d,rfl,q⟩:=q1
 cases r1
 exact wpAny_truthy_bool ⟨H1,I1,q⟩
variable {tA tB':TT} {rest:List Expr}
noncomputable def tAnd (t u:TT):TT:=fun σ H Q=>t σ H fun c H1=>if c=true then u σ H1 Q else Q false H1
noncomputable def tOr (t u:TT):TT:=fun σ H Q=>t σ H fun c H1=>if c=true then Q true H1 else u σ H1 Q
noncomputable def tNot (t:TT):TT:=fun σ H Q=>t σ H fun c H1=>Q (!c) H1
theorem ZCD (ha:PT X a tA):PW X (.BoolOp .Or [a] pos) tA:=by
 intro wh pins s σ H Q I h
 refine isTrue_or (thn (ha pins s σ H Q I h) fun c s1 e=>?_)
 cases c with
 | false=>exact isTrue_or_nil e
 | true=>exact e
theorem ZCY (ha:PT X a tA) (hb:PW X (.BoolOp .Or (b::rest) pos) tB'):PW X (.BoolOp .Or (a::b::rest) pos) (tOr tA tB'):=by
 intro wh pins s σ H Q I h
 refine isTrue_or (thn (ha pins s σ H _ I h) fun c s1 ⟨H1,I1,q1⟩=>?_)
 cases c with
 | true=>exact ⟨H1,I1,q1⟩
 | false=>exact hb wh pins s1 σ H1 Q I1 q1
theorem ZB6 (ha:PT X a tA):PT X (.UnaryOp .Not a pos) (tNot tA):=by
 intro pins s σ H Q I h
 exact isTrue_not (ha pins s σ H (fun c H1=>Q (!c) H1) I h)
noncomputable def ZCi (ta tb:TE):TE:=fun σ H Q=>ta σ H fun x H1=>∃ c,x=.bl c /\ if c=true then tb σ H1 Q else Q (.bl false) H1
noncomputable def tOrV (ta tb:TE):TE:=fun σ H Q=>ta σ H fun x H1=>∃ c,x=.bl c /\ if c=true then Q (.bl true) H1 else tb σ H1 Q
noncomputable def ZCf (ta:TE):TE:=fun σ H Q=>ta σ H fun x H1=>∃ c,x=.bl c /\ Q (.bl (!c)) H1
theorem ZCR {op} {t:TE} (h:PE X a t):PE X (.BoolOp op [a] pos) t:=fun pins s σ H Q I hw=>BoolOp_one (h pins s σ H Q I hw)
theorem ZCF (ha:PE X a ta) (hb:PE X (.BoolOp .And (b::rest) pos) tb):PE X (.BoolOp .And (a::b::rest) pos) (ZCi ta tb):=by
 intro pins s σ H Q I h
 refine BoolOp_and (thn (ha pins s σ H _ I h) fun v s1 zz=>?_)
 obtain ⟨x,H1,I1,r1,q1⟩:=zz
 obtain ⟨c,rfl,q1⟩:=q1
 cases r1
 refine wpAny_truthy_bool ?_
 cases c with
 | true=>exact hb pins s1 σ H1 Q I1 q1
 | false=>exact ⟨.bl false,H1,I1,rfl,q1⟩
theorem pe_not (ha:PE X a ta):PE X (.UnaryOp .Not a pos) (ZCf ta):=by
 intro pins s σ H Q I h
 refine UnaryOp_ (thn (ha pins s σ H _ I h) fun v s1 zz=>?_)
 obtain ⟨x,H1,I1,r1,q1⟩:=zz
 obtain ⟨c,rfl,q1⟩:=q1
 cases r1
 exact not_of (wpAny_truthy_bool ⟨.bl (!c),H1,I1,rfl,q1⟩)
noncomputable def tIf (t:TT) (ta tb:TE):TE:=fun σ H Q=>t σ H fun c H1=>if c=true then ta σ H1 Q else tb σ H1 Q
end
noncomputable def SqL (K:W.Frag) (H:Hp) (a:Addr) (xs:List V):Prop :=
 Rd H a (.lst xs) ∨
  ∃ (o:Obj) (its:Array Value) (n:Nat),K.lookup a=some o /\ o.cls=.type "list" /\ o.dict=none /\ o.data=.seq its n /\ its.size <= sizeLine /\ Vals xs its.toList
noncomputable def SqT (K:W.Frag) (H:Hp) (a:Addr) (xs:List V):Prop :=
 Rd H a (.tup xs) ∨
  ∃ (o:Obj) (its:Array Value) (n:Nat),K.lookup a=some o /\ o.cls=.type "tuple" /\ o.data=.seq its n /\ its.size <= sizeLine /\ Vals xs its.toList
noncomputable def absV:Value->Option V
 | .none=>some .non
 | .bool b=>some (.bl b)
 | .int i _=>some (.int i)
 | .str x _=>some (.str x)
 | .bytes b _=>some (.byt b)
 | .float b _=>some (.flt b)
 | .ref a=>some (.ref a)
 | .type n=>some (.ty n)
 | _=>none
theorem RelV.abs {x:V} {u:Value} (r:RelV x u):absV u=some x:=by
 cases x with
 | non=>cases r;rfl
 | bl _=>cases r;rfl
 | int _=>obtain ⟨t,rfl⟩:=r;rfl
 | str _=>obtain ⟨t,rfl⟩:=r;rfl
 | byt _=>obtain ⟨t,rfl⟩:=r;rfl
 | flt _=>obtain ⟨t,rfl⟩:=r;rfl
 | ref _=>cases r;rfl
 | ty _=>cases r;rfl
theorem RelV.inj {x y:V} {u:Value} (r:RelV x u) (q:RelV y u):x=y:=Option.some.inj (r.abs.symm.trans q.abs)
theorem Vals.inj:∀ {xs ys:List V} {us:List Value},Vals xs us->Vals ys us->xs=ys
 | _,_,_,.nil,.nil=>rfl
 | _,_,_,.cons r t,.cons r' t'=>by rw [r.inj r',Vals.inj t t']
section
variable {X:Cx} {pins:List (Addr×Obj)} {σ:St} {H:Hp} {s:Shared} {a:Addr} {xs ys:List V}
theorem SqL.of {K:W.Frag} (h:H a=some (.lst xs)):SqL K H a xs:=.inl (.inl h)
theorem SqT.of {K:W.Frag} (h:H a=some (.tup xs)):SqT K H a xs:=.inl (.inl h)
theorem Inv.list (I:Inv X pins σ H s) (h:SqL X.K H a xs):∃ its:List Value,Vals xs its /\ PlainL s.heap a its.toArray /\ xs.length <= sizeLine:=by
 rcases h with h | ⟨o,its,n,hk,hc,hd,hs,hz,r⟩
 .obtain ⟨z,its,n,r,e⟩:=h.ok I.hok
  exact ⟨its,r,⟨_,n,e,rfl,rfl,rfl⟩,z⟩
 .refine ⟨its.toList,r,⟨o,n,I.kIn a o hk,hc,hd,by simpa using hs⟩,?_⟩
  have e:=r.length
  simp only [Array.length_toList] at e
  omega
theorem Inv.tuple (I:Inv X pins σ H s) (h:SqT X.K H a xs):∃ its:List Value,Vals xs its /\ IsTup s.heap a its.toArray /\ xs.length <= sizeLine:=by
 rcases h with h | ⟨o,its,n,hk,hc,hs,hz,r⟩
 .obtain ⟨z,its,r,p⟩:=h.ok I.hok
  exact ⟨its,r,p,z⟩
 .refine ⟨its.toList,r,⟨o,I.kIn a o hk,hc,n,by simpa using hs⟩,?_⟩
  have e:=r.length
  simp only [Array.length_toList] at e
  omega
theorem Inv.list_inj (I:Inv X pins σ H s) (h:SqL X.K H a xs) (h':SqL X.K H a ys):xs=ys:=by
 obtain ⟨its,r,⟨o,n,e,_,_,d⟩,_⟩:=I.list h
 obtain ⟨its',r',⟨o',n',e',_,_,d'⟩,_⟩:=I.list h'
 rw [e] at e';cases e'
 rw [d] at d'
 injection d' with d1 _
 have:its=its':=by simpa using congrArg Array.toList d1
 subst this
 exact r.inj r'
theorem Inv.tuple_inj (I:Inv X pins σ H s) (h:SqT X.K H a xs) (h':SqT X.K H a ys):xs=ys:=by
 obtain ⟨its,r,⟨o,e,_,n,d⟩,_⟩:=I.tuple h
 obtain ⟨its',r',⟨o',e',_,n',d'⟩,_⟩:=I.tuple h'
 rw [e] at e';cases e'
 rw [d] at d'
 injection d' with d1 _
 have:its=its':=by simpa using congrArg Array.toList d1
 subst this
 exact r.inj r'
end
noncomputable abbrev Cx.wish (X:Cx) (E:Value->Shared->Prop):Cx:={ X with xe:=E }
noncomputable abbrev Cx.nox (X:Cx):Cx:=X.wish fun _ _=>False
theorem Cx.Ok.wish {X:Cx} (ok:X.Ok) (E:Value->Shared->Prop):(X.wish E).Ok :=
 ⟨ok.mod,ok.kind,ok.glob,ok.blt,ok.above,ok.inj,ok.has,ok.cab,ok.hd,ok.frames,ok.stk,ok.exf,ok.bs,ok.bsz,ok.noex,ok.exfs,ok.funs,ok.frf⟩
theorem Cx.Ok.unwish {X:Cx} {E:Value->Shared->Prop} (ok:(X.wish E).Ok):X.Ok :=
 ⟨ok.mod,ok.kind,ok.glob,ok.blt,ok.above,ok.inj,ok.has,ok.cab,ok.hd,ok.frames,ok.stk,ok.exf,ok.bs,ok.bsz,ok.noex,ok.exfs,ok.funs,ok.frf⟩
section
variable {X:Cx} {pins:List (Addr×Obj)} {σ:St} {H:Hp} {s:Shared} {E:Value->Shared->Prop}
theorem Inv.wish (I:Inv X pins σ H s) (E:Value->Shared->Prop):Inv (X.wish E) pins σ H s:=⟨I.ok.wish E,I.os,I.bare,I.base,I.loc,I.cell,I.free,I.freeC,I.pin,I.hok,I.len⟩
theorem Inv.unwish (I:Inv (X.wish E) pins σ H s):Inv X pins σ H s:=⟨I.ok.unwish,I.os,I.bare,I.base,I.loc,I.cell,I.free,I.freeC,I.pin,I.hok,I.len⟩
theorem SP.unwish {D:Ends} {f:Flow} {s':Shared} (h:SP (X.wish E) pins D f s'):SP X pins D f s':=by
 cases f with
 | next=>obtain ⟨σ',H',I,q⟩:=h;exact ⟨σ',H',I.unwish,q⟩
 | brk=>obtain ⟨σ',H',I,q⟩:=h;exact ⟨σ',H',I.unwish,q⟩
 | cont=>obtain ⟨σ',H',I,q⟩:=h;exact ⟨σ',H',I.unwish,q⟩
 | ret u=>obtain ⟨v,σ',H',I,r,q⟩:=h;exact ⟨v,σ',H',I.unwish,r,q⟩
theorem PSs.nox {st:List Stmt} {t:TS} (h:PSs X.nox st t):PSs X st t:=fun pins s σ H D I hw=>
 wpAny_mono (h pins s σ H D (I.wish _) hw) (fun _ _ q=>q.unwish) fun _ _ z=>False.elim z
end
section
variable {X:Cx} {st:Stmt} {rest:List Stmt} {t u:TS} {e:Expr} {te:TE} {pos:Pos}
noncomputable def ZCg:TS:=fun D σ H=>D.nx σ H
noncomputable def tSeq (t u:TS):TS:=fun D σ H=>t { D with nx:=u D } σ H
theorem ZAi:PSs X [] ZCg:=fun _ _ σ H _ I h=>wpAny_execs_nil ⟨σ,H,I,h⟩
theorem ZAD (h1:PS X st t) (h2:PSs X rest u):PSs X (st::rest) (tSeq t u):=by
 intro pins s σ H D I h
 refine wpAny_execs_cons (thn (h1 pins s σ H { D with nx:=u D } I h) fun f s1 q=>?_)
 cases f with
 | next=>
  obtain ⟨σ',H',I',q⟩:=q
  exact h2 pins s1 σ' H' D I' q
 | ret v=>exact q
 | brk=>exact q
 | cont=>exact q
theorem ZAF (h1:PS X st t):PSs X [st] t:=by
 intro pins s σ H D I h
 refine wpAny_execs_cons (thn (h1 pins s σ H D I h) fun f s1 q=>?_)
 cases f with
 | next=>exact wpAny_execs_nil q
 | ret v=>exact q
 | brk=>exact q
 | cont=>exact q
theorem Inv.quiet {pins:List (Addr×Obj)} {σ:St} {H:Hp} {s:Shared} (I:Inv X pins σ H s):interactive X.env=false:=by simp [interactive,I.ok.kind]
noncomputable def ZCh (te:TE):TS:=fun D σ H=>te σ H fun _ H1=>D.nx σ H1
theorem ZCA (he:PE X e te) (hs:swapsWith e none pos.line X.env=pure false:=by rfl):PS X (.Expr e pos) (ZCh te):=by
 intro pins s σ H D I h
 exact wpAny_Expr_any (thn (he pins s σ H _ I h) fun v s1 ⟨x,H1,I1,r1,q1⟩=>⟨σ,H1,I1,q1⟩) I.quiet hs
noncomputable def tRet (te:TE):TS:=fun D σ H=>te σ H D.rt
theorem ZAU (he:PE X e te):PS X (.Return (some e) pos) (tRet te):=by
 intro pins s σ H D I h
 exact wpAny_Return_some (thn (he pins s σ H _ I h) fun v s1 ⟨x,H1,I1,r1,q1⟩=>⟨x,σ,H1,I1,r1,q1⟩)
noncomputable def tRetN:TS:=fun D _ H=>D.rt .non H
noncomputable def tIfS (c:TT) (t u:TS):TS:=fun D σ H=>c σ H fun b H1=>if b=true then t D σ H1 else u D σ H1
theorem ZBR {c:Expr} {a b:List Stmt} {tc:TT} (hc:PT X c tc) (ha:PSs X a t) (hb:PSs X b u):PS X (.If c a b pos) (tIfS tc t u):=by
 intro pins s σ H D I h
 refine wpAny_If (thn (hc pins s σ H _ I h) fun d s1 ⟨H1,I1,q1⟩=>?_)
 cases d with
 | true=>exact ha pins s1 σ H1 D I1 q1
 | false=>exact hb pins s1 σ H1 D I1 q1
noncomputable def tNever:TS:=fun _ _ _=>False
end
noncomputable abbrev TG:=V->St->Hp->(St->Hp->Prop)->Prop
noncomputable abbrev TGs:=List V->St->Hp->(St->Hp->Prop)->Prop
noncomputable def PG (X:Cx) (target:Expr) (t:TG):Prop :=
 ∀ (pins:List (Addr×Obj)) (s:Shared) (σ:St) (H:Hp) (v:V) (u:Value) (Q:St->Hp->Prop),Inv X pins σ H s->RelV v u->t v σ H Q ->
  wpAny (model X.prog X.w) X.A (assign target X.env u) (fun _ s'=>∃ σ' H',Inv X pins σ' H' s' /\ Q σ' H') X.xe s
noncomputable abbrev TSet:=V->V->V->Hp->(Hp->Prop)->Prop
noncomputable abbrev TIp:=V->V->Hp->VK->Prop
section
variable {X:Cx} {pos:Pos}
noncomputable def ZCK (i:Nat):TG:=fun v σ H Q=>Q (σ.set i (some v)) H
theorem ZAs {i:Nat} {x:Str} (hN:X.N.Nodup) (hi:X.N[i]?=some x) (hx:Loc X.env.scope x) (hf:X.fn x=true∨X.env.scope.names.lookup x=some .local:=by first | exact .inl rfl | exact .inr rfl | assumption):PG X (.Name x pos) (ZCK i):=by
 intro pins s σ H v u Q I r h
 exact wpAny_assign_Name (ZBn I hN hi hx r (fun s' I'=>⟨_,H,I',h⟩) hf)
noncomputable def gNil:TGs:=fun vs σ H Q=>vs=[] /\ Q σ H
noncomputable def gCons (t:TG) (u:TGs):TGs:=fun vs σ H Q=>∃ v r,vs=v::r /\ t v σ H fun σ' H'=>u r σ' H' Q
noncomputable def gSub (to ti:TE) (t:TSet):TG:=fun v σ H Q=>to σ H fun o H1=>ti σ H1 fun i H2=>t o i v H2 fun H3=>Q σ H3
noncomputable def tAsg (te:TE) (g:TG):TS:=fun D σ H=>te σ H fun x H1=>g x σ H1 D.nx
theorem ZAa {i:Nat} {x:Str} {e:Expr} {te:TE} {pos':Pos} (hN:X.N.Nodup) (hi:X.N[i]?=some x) (hx:Loc X.env.scope x) (he:PE X e te) (hs:swapsWith e (some (.Name x pos')) pos.line X.env=pure false:=by rfl) (hf:X.fn x=true∨X.env.scope.names.lookup x=some .local:=by first | exact .inl rfl | exact .inr rfl | assumption) :
  PS X (.Assign [.Name x pos'] e pos) (tAsg te (ZCK i)):=by
 intro pins s σ H D I h
 refine wpAny_Assign_Name (thn (he pins s σ H _ I h) fun v s1 zz=>?_) hs
 obtain ⟨y,H1,I1,r1,q1⟩:=zz
 exact ZBn I1 hN hi hx r1 (fun s2 I2=>⟨_,H1,I2,q1⟩) hf
noncomputable def tAug (i:Nat) (te:TE) (ti:TIp):TS:=fun D σ H=>∃ x,σ[i]?=some (some x) /\ te σ H fun y H1=>ti x y H1 fun z H2=>D.nx (σ.set i (some z)) H2
noncomputable def ipI (f:Int->Int->Int):TIp:=fun x y H Q=>∃ i j,x=.int i /\ y=.int j /\ Q (.int (f i j)) H
end
section
variable {X:Cx} {pos:Pos}
noncomputable def tWhile (c:TT) (tb:TS):TS:=fun D σ H=>∃ W:Nat->St->Hp->Prop,(∃ m,W m σ H) /\ ∀ m σ H,W m σ H ->
 c σ H fun b H1=>if b=true then ∃ N:St->Hp->Prop,(∀ σ' H',N σ' H'->∃ m',m' < m /\ W m' σ' H') /\ tb { D with nx:=N,ct:=N,bk:=D.nx } σ H1 else D.nx σ H1
theorem ps_while {c:Expr} {body:List Stmt} {tc:TT} {tb:TS} (hp:PassesOwn (model X.prog X.w) X.A X.env X.xe) (hc:PT X c tc) (hb:PSs X body tb):PS X (.While c body [] pos) (tWhile tc tb):=by
 intro pins s σ H D I h
 obtain ⟨W,⟨m0,w0⟩,turn⟩:=h
 refine wpAny_While (codeAny_whileLoop (fun n s'=>∃ σ' H',Inv X pins σ' H' s' /\ W n σ' H') ?_ m0 ⟨σ,H,I,w0⟩)
 rintro n s1 ⟨σ1,H1,I1,w1⟩
 refine wpAny_passesOwn hp (thn (hc pins s1 σ1 H1 _ I1 (turn n σ1 H1 w1)) fun b s2 ⟨H2,I2,q2⟩=>?_)
 cases b with
 | true=>
  obtain ⟨N,hN,q2⟩:=q2
  rw [if_pos rfl]
  refine wpAny_passesOwn hp (thn (hb pins s2 σ1 H2 _ I2 q2) fun f s3 q3=>?_)
  cases f with
  | next=>
   obtain ⟨σ3,H3,I3,n3⟩:=q3
   obtain ⟨m',hm,w3⟩:=hN σ3 H3 n3
   exact ⟨m',hm,σ3,H3,I3,w3⟩
  | cont=>
   obtain ⟨σ3,H3,I3,n3⟩:=q3
   obtain ⟨m',hm,w3⟩:=hN σ3 H3 n3
   exact ⟨m',hm,σ3,H3,I3,w3⟩
  | brk=>exact q3
  | ret v=>exact q3
 | false=>
  rw [if_neg yAI]
  exact wpAny_execs_nil ⟨σ1,H2,I2,q2⟩
end
structure It where
 go:Nat->Hp->Prop
 yld:Nat->Hp->V->Hp->Prop
 stop:Nat->Hp->Prop
noncomputable def FpOk (X:Cx) (pins:List (Addr×Obj)) (H:Hp) (b:Addr):Prop :=
 H b=none /\ b≠X.env.locals /\ b∉X.fs /\ (b∈X.ex∨X.s₀.heap.objs.size <= b) /\ (∀ x c,X.env.cells.lookup x=some c->c≠b) /\ ∀ p∈X.pn++pins,p.1≠b
theorem Inv.fpOk {X:Cx} {pins:List (Addr×Obj)} {σ:St} {H H':Hp} {s:Shared} {b:Addr} (I:Inv X pins σ H s) (hb:s.heap.objs.size <= b) (hn:H' b=none):FpOk X pins H' b:=by
 refine ⟨hn,Nat.ne_of_gt (yAE I.lt hb),I.nofs hb,.inr (yAC I.sz hb),fun x c e z=>?_,fun p hp z=>?_⟩
 .obtain ⟨v,q⟩:=I.cell x c e
  exact absurd (yAE q.lt (by rw [z];exact hb)) (yAS _)
 .exact absurd (yAE (Heap.lt_size (I.pin p hp).1) (by rw [z];exact hb)) (yAS _)
structure Turn (P:Program) (w:World) (K:W.Frag) (tg:Expr) (J:It) (fp:List Addr) (it:Addr) (tn:Nat->Heap->Prop):Prop where
 mem:it∈fp
 obj:∀ i h,tn i h->∀ b∈fp,∃ o,h.get? b=some o /\ ∀ v,o.data≠.cell v
 keep:∀ i h h',tn i h->(∀ b∈fp,∀ o,h.get? b=some o->h'.get? b=some o)->tn i h'
 item:∀ (X:Cx),X.prog=P->X.w=w->X.K=K->X.calm=true->∀ (i:Nat) (pins:List (Addr×Obj)) (s:Shared) (σ:St) (H:Hp) (E:Value->Shared->Prop),Inv X pins σ H s->(∀ b∈fp,FpOk X pins H b)->tn i s.heap->J.go i H ->
  wpAny (model P w) X.A (pyNext (.ref it)) (fun r s1=>∃ u,r=some u /\
   wpAny (model P w) X.A (letOwnedTupleGo tg (.ref it) u) (fun _ s2=>∃ x H',Inv X pins σ H' s2 /\ RelV x u /\ J.yld i H x H' /\ tn (i+1) s2.heap /\ ∀ b∈fp,H' b=none) E s1) E s
 done:∀ (X:Cx),X.prog=P->X.w=w->X.K=K->X.calm=true->∀ (i:Nat) (pins:List (Addr×Obj)) (s:Shared) (σ:St) (H:Hp) (E:Value->Shared->Prop),Inv X pins σ H s->(∀ b∈fp,FpOk X pins H b)->tn i s.heap->J.stop i H ->
  wpAny (model P w) X.A (pyNext (.ref it)) (fun r s1=>r=none /\ Inv X pins σ H s1) E s
 self:∀ (A:Around) (i:Nat) (s:Shared) (Q:Value->Shared->Prop) (E:Value->Shared->Prop),tn i s.heap->Q (.ref it) s->wpAny (model P w) A (pyIter (.ref it)) Q E s
noncomputable abbrev TI:=St->Hp->(It->Hp->Prop)->Prop
noncomputable def PIE (X:Cx) (pins:List (Addr×Obj)) (σ:St) (tg:Expr) (R:It->Hp->Prop) (itv:Value) (s2:Shared):Prop :=
 ∃ (it:Addr) (fp:List Addr) (tn:Nat->Heap->Prop) (J:It) (H':Hp),itv=.ref it /\ Inv X pins σ H' s2 /\ Turn X.prog X.w X.K tg J fp it tn /\ tn 0 s2.heap /\ (∀ b∈fp,FpOk X pins H' b) /\ R J H'
noncomputable def PI (X:Cx) (tg iter:Expr) (wi:TI):Prop :=
 ∀ (pins:List (Addr×Obj)) (s:Shared) (σ:St) (H:Hp) (R:It->Hp->Prop),Inv X pins σ H s->wi σ H R ->
  wpAny (model X.prog X.w) X.A (eval iter X.env) (fun v s1=>wpAny (model X.prog X.w) X.A (pyIter v) (PIE X pins σ tg R) X.xe s1) X.xe s
theorem ZCl {M:Model} {A:Around} {E:Value->Shared->Prop} {s:Shared} {tg:Expr} {it:Addr} {u:Value} {o:Obj} {n:String} {vs:Array Value} {Q:Unit->Shared->Prop} (ho:s.heap.get? it=some o) (hc:o.cls=.type n) (hd:o.data=.fields vs)
  (hn:["enumerate","zip","dict_itemiterator","dict_reverseitemiterator","odict_iterator","itertools.zip_longest","itertools.pairwise"].contains n=false) (hQ:Q () s):wpAny M A (letOwnedTupleGo tg (.ref it) u) Q E s:=by
 unfold letOwnedTupleGo
 cases tg <;> first
  | exact wpAny_pure hQ
  | (cases u <;> first
    | exact wpAny_pure hQ
    | (refine wpAny_bind (wpAny_load ho ?_)
       rw [hc,hd]
       show wpAny M A (if (["enumerate","zip","dict_itemiterator","dict_reverseitemiterator","odict_iterator","itertools.zip_longest","itertools.pairwise"].contains n && vs[0]? == some (rawInt _))=true then _ else _) Q E s
       rw [if_neg (by intro h;rw [hn,Bool.false_and] at h;cases h)]
       exact wpAny_pure hQ))
noncomputable def Itl (K:W.Frag) (a:Addr):It :=
 ⟨fun i H=>∃ xs x,SqL K H a xs /\ xs[i]?=some x,fun i H x H'=>H'=H /\ ∀ xs,SqL K H a xs->xs[i]?=some x,fun i H=>∃ xs,SqL K H a xs /\ xs.length <= i⟩
noncomputable def Itt (K:W.Frag) (a:Addr):It :=
 ⟨fun i H=>∃ xs x,SqT K H a xs /\ xs[i]?=some x,fun i H x H'=>H'=H /\ ∀ xs,SqT K H a xs->xs[i]?=some x,fun i H=>∃ xs,SqT K H a xs /\ xs.length <= i⟩
noncomputable def Itr (lo:Int) (n:Nat):It:=⟨fun i _=>i < n,fun i H x H'=>H'=H /\ x=.int (lo+i),fun i _=>n <= i⟩
theorem turn_list {P:Program} {w:World} {K:W.Frag} {tg:Expr} (a it:Addr):Turn P w K tg (Itl K a) [it] it (fun i h=>h.IsListIter it a i) where
 mem:=by simp
 obj:=fun i h st b hb=>by
  have e:b=it:=by simpa using hb
  subst e
  obtain ⟨o,e,c,d⟩:=st
  exact ⟨o,e,fun v z=>by rw [d] at z;cases z⟩
 keep:=fun i h h' st k=>st.at fun o e=>k it (by simp) o e
 item:=by
  intro X hP hw hK hc i pins s σ H E I hf st hg
  subst hP hw hK
  obtain ⟨xs,x,hq,hx⟩:=hg
  obtain ⟨its,rv,p,hz⟩:=I.list hq
  obtain ⟨u,hu,ru⟩:=rv.get hx
  obtain ⟨f0,f1,f2,f3,f4,f5⟩:=hf it (by simp)
  refine wpAny_pyNext_list_item st p.isList (x:=u) (by simpa using hu) fun h' st' sb=>?_
  have I1:Inv X pins σ H { s with heap:=h' }:=I.turned (t':=s.toks) (fun b o hb e=>(sb.2 b hb).trans e) f0 f1 f3 f4 f5
  obtain ⟨o,e,c,d⟩:=id st'
  exact ⟨u,rfl,ZCl (s:={ s with heap:=h' }) e c d (by decide) ⟨x,H,I1,ru,⟨rfl,fun ys hy=>by rw [I.list_inj hy hq];exact hx⟩,st',fun b hb=>(hf b hb).1⟩⟩
 done:=by
  intro X hP hw hK hc i pins s σ H E I hf st hg
  subst hP hw hK
  obtain ⟨xs,hq,hx⟩:=hg
  obtain ⟨its,rv,p,hz⟩:=I.list hq
  obtain ⟨f0,f1,f2,f3,f4,f5⟩:=hf it (by simp)
  have hl:=rv.length
  exact wpAny_pyNext_list_end (I.ok.hd hc) st p.isList (by simp;omega) fun h' eb=>⟨rfl,I.turned (t':=s.toks) (fun b o hb e=>eb b o hb e) f0 f1 f3 f4 f5⟩
 self:=fun _ _ _ _ _ st h=>wpAny_pyIter_listiter st h
theorem turn_tuple {P:Program} {w:World} {K:W.Frag} {tg:Expr} (a it:Addr):Turn P w K tg (Itt K a) [it] it (fun i h=>h.IsTupleIter it a i) where
 mem:=by simp
 obj:=fun i h st b hb=>by
  have e:b=it:=by simpa using hb
  subst e
  obtain ⟨o,e,c,d⟩:=st
  exact ⟨o,e,fun v z=>by rw [d] at z;cases z⟩
 keep:=fun i h h' st k=>st.at fun o e=>k it (by simp) o e
 item:=by
  intro X hP hw hK hc i pins s σ H E I hf st hg
  subst hP hw hK
  obtain ⟨xs,x,hq,hx⟩:=hg
  obtain ⟨its,rv,p,hz⟩:=I.tuple hq
  obtain ⟨u,hu,ru⟩:=rv.get hx
  obtain ⟨f0,f1,f2,f3,f4,f5⟩:=hf it (by simp)
  refine wpAny_pyNext_tuple_item st (show s.heap.IsTuple a its.toArray from p) (x:=u) (by simpa using hu) fun h' st' sb=>?_
  have I1:Inv X pins σ H { s with heap:=h' }:=I.turned (t':=s.toks) (fun b o hb e=>(sb.2 b hb).trans e) f0 f1 f3 f4 f5
  obtain ⟨o,e,c,d⟩:=id st'
  exact ⟨u,rfl,ZCl (s:={ s with heap:=h' }) e c d (by decide) ⟨x,H,I1,ru,⟨rfl,fun ys hy=>by rw [I.tuple_inj hy hq];exact hx⟩,st',fun b hb=>(hf b hb).1⟩⟩
 done:=by
  intro X hP hw hK hc i pins s σ H E I hf st hg
  subst hP hw hK
  obtain ⟨xs,hq,hx⟩:=hg
  obtain ⟨its,rv,p,hz⟩:=I.tuple hq
  obtain ⟨f0,f1,f2,f3,f4,f5⟩:=hf it (by simp)
  have hl:=rv.length
  exact wpAny_pyNext_tuple_end (I.ok.hd hc) st (show s.heap.IsTuple a its.toArray from p) (by simp;omega) fun h' eb=>⟨rfl,I.turned (t':=s.toks) (fun b o hb e=>eb b o hb e) f0 f1 f3 f4 f5⟩
 self:=fun _ _ _ _ _ st h=>wpAny_pyIter_tupleiter st h
theorem turn_range {P:Program} {w:World} {K:W.Frag} {tg:Expr} (it:Addr) (lo:Int) (n:Nat):Turn P w K tg (Itr lo n) [it] it (fun i h=>IsRangeIter h it (lo+(i:Nat) * 1) ((n:Int)-(i:Nat)) 1) where
 mem:=by simp
 obj:=fun i h st b hb=>by
  have e:b=it:=by simpa using hb
  subst e
  exact ⟨_,st,fun v z=>by
   have z':Data.fields _=Data.cell v:=z
   cases z'⟩
 keep:=fun i h h' st k=>k it (by simp) _ st
 item:=by
  intro X hP hw hK hc i pins s σ H E I hf st hg
  subst hP hw hK
  obtain ⟨f0,f1,f2,f3,f4,f5⟩:=hf it (by simp)
  have W:=Walks.range (prog:=X.prog) (w:=X.w) (I.ok.hd hc) it lo 1 n
  refine W.item i s _ _ hg st fun v h' tk hv st' kk=>?_
  obtain ⟨t,rfl⟩:=hv
  have I1:Inv X pins σ H { s with heap:=h',toks:=tk }:=I.turned (fun b o hb e=>kk b o (by simpa using hb) e) f0 f1 f3 f4 f5
  refine ⟨_,rfl,ZCl (s:={ s with heap:=h',toks:=tk }) (n:="range_iterator") st' rfl rfl (by decide) ⟨.int (lo+i),H,I1,⟨t,?_⟩,⟨rfl,rfl⟩,st',fun b hb=>(hf b hb).1⟩⟩
  rw [Int.mul_one]
 done:=by
  intro X hP hw hK hc i pins s σ H E I hf st hg
  subst hP hw hK
  obtain ⟨f0,f1,f2,f3,f4,f5⟩:=hf it (by simp)
  exact wpAny_pyNext_range_end (I.ok.hd hc) st (by have:n <= i:=hg;omega) fun h' eb=>⟨rfl,I.turned (t':=s.toks) (fun b o hb e=>eb b o hb e) f0 f1 f3 f4 f5⟩
 self:=fun _ _ _ _ _ st h=>wpAny_pyIter_rangeiter st h
section
variable {X:Cx} {tg:Expr}
noncomputable def ZCk (K:W.Frag) (tl:TE):TI:=fun σ H R=>tl σ H fun x H1=>∃ a,x=.ref a /\ (∃ xs,SqL K H1 a xs) /\ R (Itl K a) H1
noncomputable def iTup (K:W.Frag) (tl:TE):TI:=fun σ H R=>tl σ H fun x H1=>∃ a,x=.ref a /\ (∃ xs,SqT K H1 a xs) /\ R (Itt K a) H1
theorem ZBu {l:Expr} {tl:TE} (hl:PE X l tl):PI X tg l (ZCk X.K tl):=by
 intro pins s σ H R I h
 refine thn (hl pins s σ H _ I h) fun v s1 zz=>?_
 obtain ⟨x,H1,I1,r1,q1⟩:=zz
 obtain ⟨a,e,⟨xs,hq⟩,q⟩:=q1
 subst e
 cases r1
 obtain ⟨its,rv,p,hz⟩:=I1.list hq
 refine wpAny_pyIter_list p.isList ?_
 refine ⟨s1.heap.objs.size,[s1.heap.objs.size],_,_,H1,rfl,I1.kept (t':=s1.toks) fun b o e=>Heap.get?_push_of_some _ e,turn_list a _,⟨_,Heap.get?_push_size _ rfl,rfl,rfl⟩,fun b hb=>?_,q⟩
 have e:b=s1.heap.objs.size:=by simpa using hb
 subst e
 exact I1.fpOk (yAB _) (I1.hok.fresh (yAB _))
theorem pi_tup {l:Expr} {tl:TE} (hl:PE X l tl):PI X tg l (iTup X.K tl):=by
 intro pins s σ H R I h
 refine thn (hl pins s σ H _ I h) fun v s1 zz=>?_
 obtain ⟨x,H1,I1,r1,q1⟩:=zz
 obtain ⟨a,e,⟨xs,hq⟩,q⟩:=q1
 subst e
 cases r1
 obtain ⟨its,rv,p,hz⟩:=I1.tuple hq
 refine wpAny_pyIter_tuple (show s1.heap.IsTuple a its.toArray from p) ?_
 refine ⟨s1.heap.objs.size,[s1.heap.objs.size],_,_,H1,rfl,I1.kept (t':=s1.toks) fun b o e=>Heap.get?_push_of_some _ e,turn_tuple a _,⟨_,Heap.get?_push_size _ rfl,rfl,rfl⟩,fun b hb=>?_,q⟩
 have e:b=s1.heap.objs.size:=by simpa using hb
 subst e
 exact I1.fpOk (yAB _) (I1.hok.fresh (yAB _))
theorem range_it {pins:List (Addr×Obj)} {σ:St} {H:Hp} {s:Shared} {R:It->Hp->Prop} {E:Value->Shared->Prop} {lo hi:Int} {t u v:Tok} {tk:Nat} (I:Inv X pins σ H s) (h1:-(2 ^ 62) <= lo) (h2:lo < 2 ^ 62) (h3:-(2 ^ 62) <= hi) (h4:hi < 2 ^ 62)
  (q:R (Itr lo (hi-lo).toNat) H):wpAny (model X.prog X.w) X.A (pyIter (.ref s.heap.objs.size)) (PIE X pins σ tg R) E { s with heap:=s.heap.push { cls:=.type "range",data:=.fields #[.int lo t,.int hi u,.int 1 v] },toks:=tk }:=by
 refine wpAny_pyIter_range (IsRange.new ..) (small_one h1 h2 h3 h4) ?_
 have I1:Inv X pins σ H { s with heap:=s.heap.push { cls:=.type "range",data:=.fields #[.int lo t,.int hi u,.int 1 v] },toks:=tk }:=I.kept fun b o e=>Heap.get?_push_of_some _ e
 refine ⟨(s.heap.push { cls:=.type "range",data:=.fields #[.int lo t,.int hi u,.int 1 v] }).objs.size,[(s.heap.push { cls:=.type "range",data:=.fields #[.int lo t,.int hi u,.int 1 v] }).objs.size],_,_,H,rfl,
  I1.kept (t':=tk) fun b o e=>Heap.get?_push_of_some _ e,turn_range _ lo (hi-lo).toNat,?_,fun b hb=>?_,q⟩
 .have e1:lo+((0:Nat):Int) * 1=lo:=by simp
  have e2:(((hi-lo).toNat:Nat):Int)-((0:Nat):Int)=Builtin.Range.rangeSize lo hi 1:=by rw [rangeSize_one];split <;> omega
  show IsRangeIter _ _ (lo+((0:Nat):Int) * 1) ((((hi-lo).toNat:Nat):Int)-((0:Nat):Int)) 1
  rw [e1,e2]
  exact Heap.get?_push_size _ rfl
 .have e:b=(s.heap.push { cls:=.type "range",data:=.fields #[.int lo t,.int hi u,.int 1 v] }).objs.size:=by simpa using hb
  subst e
  exact I1.fpOk (yAB _) (I1.hok.fresh (yAB _))
noncomputable def ZCj (ta:TA):TI:=fun σ H R=>ta σ H fun vs H1=>∃ j:Int,vs=[.int j] /\ -(2 ^ 62) <= j /\ j < 2 ^ 62 /\ R (Itr 0 j.toNat) H1
noncomputable def iRng2 (ta:TA):TI:=fun σ H R=>ta σ H fun vs H1=>∃ i j:Int,vs=[.int i,.int j] /\ (-(2 ^ 62) <= i /\ i < 2 ^ 62 /\ -(2 ^ 62) <= j /\ j < 2 ^ 62) /\ R (Itr i (j-i).toNat) H1
theorem ZBc {a:Expr} {ta:TA} {p pos:Pos} (hg:Gl X "range") (hm:X.mg "range"=none) (ha:PA X [a] ta) (hs:starEach [a] X.env=[(false,eval a X.env)]:=by rfl):PI X tg (.Call (.Name "range" p) [a] [] pos) (ZCj ta):=by
 intro pins s σ H R I h
 refine Call_ (ZCH I hg hm boot_range (PyProof.Rows.callWith_type1 (thn (ha pos pins s σ H _ I h) fun us s1 zz=>?_) hs rfl))
 obtain ⟨vs,H1,I1,r1,q1⟩:=zz
 obtain ⟨j,e,q1,q2,q⟩:=q1
 subst e
 cases r1 with
 | cons r rr=>
  cases rr
  obtain ⟨t,rfl⟩:=r
  exact call_range_1 (range_it I1 (by omega) (by omega) q1 q2 (by simpa using q))
noncomputable def tFor (wi:TI) (g:TG) (tb:TS):TS:=fun D σ H=>wi σ H fun J H1=>∃ W:Nat->Nat->St->Hp->Prop,(∃ m,W 0 m σ H1) /\ ∀ i m σ H,W i m σ H ->
 (J.stop i H /\ D.nx σ H)∨(J.go i H /\ ∃ N:St->Hp->Prop,(∀ σ' H',N σ' H'->∃ m',m' < m /\ W (i+1) m' σ' H') /\ ∀ x H',J.yld i H x H'->g x σ H' fun σ2 H2=>tb { D with nx:=N,ct:=N,bk:=D.nx } σ2 H2)
noncomputable def ZB7 (fp:List Addr) (h:Heap):List (Addr×Obj):=fp.filterMap fun b=>(h.get? b).map fun o=>(b,o)
theorem ZA8 {fp:List Addr} {h:Heap} {b:Addr} {o:Obj} (hb:b∈fp) (e:h.get? b=some o):(b,o)∈ZB7 fp h:=List.mem_filterMap.mpr ⟨b,hb,by rw [e];rfl⟩
theorem of_pinsAt {fp:List Addr} {h:Heap} {p:Addr×Obj} (hp:p∈ZB7 fp h):p.1∈fp /\ h.get? p.1=some p.2:=by
 obtain ⟨b,hb,e⟩:=List.mem_filterMap.mp hp
 cases q:h.get? b with
 | none=>rw [q] at e;cases e
 | some o=>
  rw [q] at e
  have e':(b,o)=p:=Option.some.inj e
  subst e'
  exact ⟨hb,q⟩
theorem Inv.pinned {pins:List (Addr×Obj)} {σ:St} {H:Hp} {s:Shared} {fp:List Addr} (I:Inv X pins σ H s) (hf:∀ b∈fp,FpOk X pins H b) (ho:∀ b∈fp,∃ o,s.heap.get? b=some o /\ ∀ v,o.data≠.cell v):Inv X (pins++ZB7 fp s.heap) σ H s :=
 I.pins_of fun p hp=>(yAV.mp hp).elim (fun z=>I.pin p (yAG _ z)) fun z=>by
  obtain ⟨hb,e⟩:=of_pinsAt z
  obtain ⟨f0,f1,f2,_⟩:=hf p.1 hb
  obtain ⟨o,e',d⟩:=ho p.1 hb
  rw [e] at e';cases e'
  exact ⟨e,f0,f1,f2,d⟩
theorem Inv.unpinned {pins pl:List (Addr×Obj)} {σ:St} {H:Hp} {s:Shared} (I:Inv X (pins++pl) σ H s):Inv X pins σ H s:=I.pins_of fun p hp=>I.pin p (yAG _ (List.mem_append_left _ hp))
theorem ZCQ {iter:Expr} {body:List Stmt} {wi:TI} {g:TG} {tb:TS} {pos:Pos} (hp:PassesOwn (model X.prog X.w) X.A X.env X.xe) (hc:X.calm=true) (hi:PI X tg iter wi) (hg:PG X tg g) (hb:PSs X body tb)
  (hs:∀ x,foldedSetIterable iter X.env x=pure x:=by intro _;rfl):PS X (.For tg iter body [] pos) (tFor wi g tb):=by
 intro pins s σ H D I h
 refine wpAny_For (thn (hi pins s σ H _ I h) fun v s1 h1=>thn h1 fun itv s2 h2=>?_) hs
 obtain ⟨it,fp,tn,J,H2,e,I2,T,st2,f2,W,⟨m0,w0⟩,turn⟩:=h2
 subst e
 have stat:∀ {H':Hp},(∀ b∈fp,H' b=none)->∀ b∈fp,FpOk X pins H' b:=fun hn b hb=>⟨hn b hb,(f2 b hb).2⟩
 refine codeAny_forLoop_any (fun n s'=>∃ i σ' H',Inv X pins σ' H' s' /\ tn i s'.heap /\ (∀ b∈fp,H' b=none) /\ W i n σ' H') ?_ m0 ⟨0,σ,H2,I2,st2,fun b hb=>(f2 b hb).1,w0⟩
 rintro n s3 ⟨i,σ3,H3,I3,st3,fr3,w3⟩
 rcases turn i n σ3 H3 w3 with ⟨stop,qn⟩ | ⟨go,N,hN,step⟩
 .refine wpAny_passesOwn hp (thn (T.done X rfl rfl rfl hc i pins s3 σ3 H3 X.xe I3 (stat fr3) st3 stop) fun r s4 ⟨hr,I4⟩=>?_)
  subst hr
  exact wpAny_execs_nil ⟨σ3,H3,I4,qn⟩
 .refine wpAny_passesOwn hp (thn (T.item X rfl rfl rfl hc i pins s3 σ3 H3 X.xe I3 (stat fr3) st3 go) fun r s4 ⟨u,hr,h4⟩=>?_)
  subst hr
  refine wpAny_passesOwn hp (thn h4 fun _ s5 zz=>?_)
  obtain ⟨x,H5,I5,r5,y5,st5,fr5⟩:=zz
  have I5':=I5.pinned (stat fr5) (T.obj _ _ st5)
  refine wpAny_passesOwn hp (thn (hg _ s5 σ3 H5 x u _ I5' r5 (step x H5 y5)) fun _ s6 zz=>?_)
  obtain ⟨σ6,H6,I6,q6⟩:=zz
  refine wpAny_passesOwn hp (thn (hb _ s6 σ6 H6 _ I6 q6) fun f s7 q7=>?_)
  have again:∀ {σ7:St} {H7:Hp},Inv X (pins++ZB7 fp s5.heap) σ7 H7 s7->N σ7 H7->∃ m,m < n /\ ∃ i σ' H',Inv X pins σ' H' s7 /\ tn i s7.heap /\ (∀ b∈fp,H' b=none) /\ W i m σ' H':=fun {σ7 H7} I7 n7=>by
   obtain ⟨m',hm,w7⟩:=hN σ7 H7 n7
   refine ⟨m',hm,i+1,σ7,H7,I7.unpinned,T.keep _ _ _ st5 fun b hb o e=>(I7.pin (b,o) (yAG _ (yAG _ (ZA8 hb e)))).1,fun b hb=>?_,w7⟩
   obtain ⟨o,e,d⟩:=T.obj _ _ st5 b hb
   exact (I7.pin (b,o) (yAG _ (yAG _ (ZA8 hb e)))).2.1
  cases f with
  | next=>obtain ⟨σ7,H7,I7,n7⟩:=q7;exact again I7 n7
  | cont=>obtain ⟨σ7,H7,I7,n7⟩:=q7;exact again I7 n7
  | brk=>obtain ⟨σ7,H7,I7,q7⟩:=q7;exact ⟨σ7,H7,I7.unpinned,q7⟩
  | ret v=>obtain ⟨x7,σ7,H7,I7,r7,q7⟩:=q7;exact ⟨x7,σ7,H7,I7.unpinned,r7,q7⟩
end
theorem for_list {K:W.Frag} {a:Addr} {xs:List V} {g:TG} {tb:TS} {D:Ends} {σ:St} {H:Hp} (Pv:Nat->St->Hp->Prop) (h0:Pv 0 σ H) (hl:∀ i σ H,i <= xs.length->Pv i σ H->SqL K H a xs)
  (hs:∀ i x σ H,xs[i]?=some x->Pv i σ H->g x σ H fun σ2 H2=>tb { D with nx:=Pv (i+1),ct:=Pv (i+1),bk:=D.nx } σ2 H2) (hd:∀ σ H,Pv xs.length σ H->D.nx σ H) :
  ∃ W:Nat->Nat->St->Hp->Prop,(∃ m,W 0 m σ H) /\ ∀ i m σ H,W i m σ H ->
   ((Itl K a).stop i H /\ D.nx σ H)∨((Itl K a).go i H /\ ∃ N:St->Hp->Prop,(∀ σ' H',N σ' H'->∃ m',m' < m /\ W (i+1) m' σ' H') /\ ∀ x H',(Itl K a).yld i H x H'->g x σ H' fun σ2 H2=>tb { D with nx:=N,ct:=N,bk:=D.nx } σ2 H2):=by
 refine ⟨fun i m σ H=>m=xs.length-i /\ i <= xs.length /\ Pv i σ H,⟨xs.length,by simp,yAU _,h0⟩,?_⟩
 rintro i m σ H ⟨rfl,hi,p⟩
 have q:=hl i σ H hi p
 by_cases hlt:i < xs.length
 .refine .inr ⟨⟨xs,xs[i],q,by simp [hlt]⟩,Pv (i+1),fun σ' H' p'=>⟨xs.length-(i+1),by omega,rfl,hlt,p'⟩,fun x H' y=>?_⟩
  obtain ⟨e,y⟩:=y
  subst e
  exact hs i x σ _ (y xs q) p
 .have e:i=xs.length:=by omega
  subst e
  exact .inl ⟨⟨xs,q,yAB _⟩,hd σ H p⟩
theorem for_tup {K:W.Frag} {a:Addr} {xs:List V} {g:TG} {tb:TS} {D:Ends} {σ:St} {H:Hp} (Pv:Nat->St->Hp->Prop) (h0:Pv 0 σ H) (hl:∀ i σ H,i <= xs.length->Pv i σ H->SqT K H a xs)
  (hs:∀ i x σ H,xs[i]?=some x->Pv i σ H->g x σ H fun σ2 H2=>tb { D with nx:=Pv (i+1),ct:=Pv (i+1),bk:=D.nx } σ2 H2) (hd:∀ σ H,Pv xs.length σ H->D.nx σ H) :
  ∃ W:Nat->Nat->St->Hp->Prop,(∃ m,W 0 m σ H) /\ ∀ i m σ H,W i m σ H ->
   ((Itt K a).stop i H /\ D.nx σ H)∨((Itt K a).go i H /\ ∃ N:St->Hp->Prop,(∀ σ' H',N σ' H'->∃ m',m' < m /\ W (i+1) m' σ' H') /\ ∀ x H',(Itt K a).yld i H x H'->g x σ H' fun σ2 H2=>tb { D with nx:=N,ct:=N,bk:=D.nx } σ2 H2):=by
 refine ⟨fun i m σ H=>m=xs.length-i /\ i <= xs.length /\ Pv i σ H,⟨xs.length,by simp,yAU _,h0⟩,?_⟩
 rintro i m σ H ⟨rfl,hi,p⟩
 have q:=hl i σ H hi p
 by_cases hlt:i < xs.length
 .refine .inr ⟨⟨xs,xs[i],q,by simp [hlt]⟩,Pv (i+1),fun σ' H' p'=>⟨xs.length-(i+1),by omega,rfl,hlt,p'⟩,fun x H' y=>?_⟩
  obtain ⟨e,y⟩:=y
  subst e
  exact hs i x σ _ (y xs q) p
 .have e:i=xs.length:=by omega
  subst e
  exact .inl ⟨⟨xs,q,yAB _⟩,hd σ H p⟩
theorem for_range {lo:Int} {n:Nat} {g:TG} {tb:TS} {D:Ends} {σ:St} {H:Hp} (Pv:Nat->St->Hp->Prop) (h0:Pv 0 σ H)
  (hs:∀ i σ H,i < n->Pv i σ H->g (.int (lo+i)) σ H fun σ2 H2=>tb { D with nx:=Pv (i+1),ct:=Pv (i+1),bk:=D.nx } σ2 H2) (hd:∀ σ H,Pv n σ H->D.nx σ H) :
  ∃ W:Nat->Nat->St->Hp->Prop,(∃ m,W 0 m σ H) /\ ∀ i m σ H,W i m σ H ->
   ((Itr lo n).stop i H /\ D.nx σ H)∨((Itr lo n).go i H /\ ∃ N:St->Hp->Prop,(∀ σ' H',N σ' H'->∃ m',m' < m /\ W (i+1) m' σ' H') /\ ∀ x H',(Itr lo n).yld i H x H'->g x σ H' fun σ2 H2=>tb { D with nx:=N,ct:=N,bk:=D.nx } σ2 H2):=by
 refine ⟨fun i m σ H=>m=n-i /\ i <= n /\ Pv i σ H,⟨n,by simp,yAU _,h0⟩,?_⟩
 rintro i m σ H ⟨rfl,hi,p⟩
 by_cases hlt:i < n
 .refine .inr ⟨hlt,Pv (i+1),fun σ' H' p'=>⟨n-(i+1),by omega,rfl,hlt,p'⟩,fun x H' y=>?_⟩
  obtain ⟨e,y⟩:=y
  subst e y
  exact hs i σ _ hlt p
 .have e:i=n:=by omega
  subst e
  exact .inl ⟨yAB _,hd σ H p⟩
noncomputable abbrev R2:=V->V->Hp->VK->Prop
noncomputable def OpR (X:Cx) (f:Value->Value->Sem Value) (r:R2):Prop :=
 ∀ (pins:List (Addr×Obj)) (s:Shared) (σ:St) (H:Hp) (x y:V) (v u:Value) (Q:VK),Inv X pins σ H s->RelV x v->RelV y u->r x y H Q ->
  wpAny (model X.prog X.w) X.A (f v u) (EP X pins σ Q) X.xe s
noncomputable def UnR (X:Cx) (f:Value->Sem Value) (r:V->Hp->VK->Prop):Prop :=
 ∀ (pins:List (Addr×Obj)) (s:Shared) (σ:St) (H:Hp) (x:V) (v:Value) (Q:VK),Inv X pins σ H s->RelV x v->r x H Q ->
  wpAny (model X.prog X.w) X.A (f v) (EP X pins σ Q) X.xe s
noncomputable def ZBH (X:Cx) (f:Value) (r:List V->Hp->VK->Prop):Prop :=
 ∀ (pins:List (Addr×Obj)) (s:Shared) (σ:St) (H:Hp) (xs:List V) (us:List Value) (Q:VK),Inv X pins σ H s->Vals xs us->r xs H Q ->
  wpAny (model X.prog X.w) X.A (call f us) (EP X pins σ Q) X.xe s
noncomputable def tOp (r:R2) (ta tb:TE):TE:=fun σ H Q=>ta σ H fun x H1=>tb σ H1 fun y H2=>r x y H2 Q
noncomputable def tUn (r:V->Hp->VK->Prop) (ta:TE):TE:=fun σ H Q=>ta σ H fun x H1=>r x H1 Q
noncomputable def rI (C:Int->Int->Prop) (g:Int->Int->V):R2:=fun x y H Q=>∃ i j,x=.int i /\ y=.int j /\ C i j /\ Q (g i j) H
noncomputable def rI0 (g:Int->Int->V):R2:=fun x y H Q=>∃ i j,x=.int i /\ y=.int j /\ Q (g i j) H
noncomputable def rU (g:Int->V):V->Hp->VK->Prop:=fun x H Q=>∃ i,x=.int i /\ Q (g i) H
section
variable {X:Cx} {a b c:Expr} {ta tb tc:TE} {pos:Pos}
theorem binT (ha:PE X a ta) (hb:PE X b tb) {pins:List (Addr×Obj)} {s:Shared} {σ:St} {H:Hp} {R:V->V->Hp->Prop} (I:Inv X pins σ H s)
  (h:ta σ H fun x H1=>tb σ H1 fun y H2=>R x y H2) {Q:Value->Shared->Prop} {f:Value->Value->Sem Value}
  (hf:∀ v u s2 x y H2,Inv X pins σ H2 s2->RelV x v->RelV y u->R x y H2->wpAny (model X.prog X.w) X.A (f v u) Q X.xe s2) :
  wpAny (model X.prog X.w) X.A (eval a X.env) (fun v s₁=>wpAny (model X.prog X.w) X.A (eval b X.env) (fun u s₂=>wpAny (model X.prog X.w) X.A (f v u) Q X.xe s₂) X.xe s₁) X.xe s:=by
 refine thn (ha pins s σ H _ I h) fun v s1 zz=>?_
 obtain ⟨x,H1,I1,r1,q1⟩:=zz
 refine thn (hb pins s1 σ H1 _ I1 q1) fun u s2 zz=>?_
 obtain ⟨y,H2,I2,r2,q2⟩:=zz
 exact hf v u s2 x y H2 I2 r1 r2 q2
theorem ZAJ {op:Operator} {r:R2} (ho:OpR X (binaryOp op) r) (ha:PE X a ta) (hb:PE X b tb):PE X (.BinOp a op b pos) (tOp r ta tb):=by
 intro pins s σ H Q I h
 exact wpAny_BinOp (binT ha hb I h fun v u s2 x y H2 I2 rx ry q=>ho pins s2 σ H2 x y v u Q I2 rx ry q)
theorem pe_un {op:UnaryOp} {r:V->Hp->VK->Prop} (ho:UnR X (unaryOp op) r) (ha:PE X a ta):PE X (.UnaryOp op a pos) (tUn r ta):=by
 intro pins s σ H Q I h
 exact UnaryOp_ (thn (ha pins s σ H _ I h) fun v s1 ⟨x,H1,I1,r1,q1⟩=>ho pins s1 σ H1 x v Q I1 r1 q1)
theorem opI {f:Value->Value->Sem Value} {C:Int->Int->Prop} {g:Int->Int->Int}
  (rule:∀ (i j:Int) (t u:Tok) (s:Shared) (Q:Value->Shared->Prop) (E:Value->Shared->Prop),C i j->Q (.int (g i j) s.toks) { s with toks:=s.toks+1 }->wpAny (model X.prog X.w) X.A (f (.int i t) (.int j u)) Q E s) :
  OpR X f (rI C fun i j=>.int (g i j)):=by
 intro pins s σ H x y v u Q I rx ry h
 obtain ⟨i,j,rfl,rfl,hc,q⟩:=h
 obtain ⟨t,rfl⟩:=rx
 obtain ⟨t',rfl⟩:=ry
 exact rule i j t t' s _ _ hc ⟨.int (g i j),H,I.tok _,⟨_,rfl⟩,q⟩
theorem opI0 {f:Value->Value->Sem Value} {g:Int->Int->Int}
  (rule:∀ (i j:Int) (t u:Tok) (s:Shared) (Q:Value->Shared->Prop) (E:Value->Shared->Prop),Q (.int (g i j) s.toks) { s with toks:=s.toks+1 }->wpAny (model X.prog X.w) X.A (f (.int i t) (.int j u)) Q E s) :
  OpR X f (rI0 fun i j=>.int (g i j)):=by
 intro pins s σ H x y v u Q I rx ry h
 obtain ⟨i,j,rfl,rfl,q⟩:=h
 obtain ⟨t,rfl⟩:=rx
 obtain ⟨t',rfl⟩:=ry
 exact rule i j t t' s _ _ ⟨.int (g i j),H,I.tok _,⟨_,rfl⟩,q⟩
theorem opB0 {f:Value->Value->Sem Value} {g:Int->Int->Bool}
  (rule:∀ (i j:Int) (t u:Tok) (s:Shared) (Q:Value->Shared->Prop) (E:Value->Shared->Prop),Q (.bool (g i j)) s->wpAny (model X.prog X.w) X.A (f (.int i t) (.int j u)) Q E s) :
  OpR X f (rI0 fun i j=>.bl (g i j)):=by
 intro pins s σ H x y v u Q I rx ry h
 obtain ⟨i,j,rfl,rfl,q⟩:=h
 obtain ⟨t,rfl⟩:=rx
 obtain ⟨t',rfl⟩:=ry
 exact rule i j t t' s _ _ ⟨.bl (g i j),H,I,rfl,q⟩
noncomputable def CDiv (i j:Int):Prop:=0 < j /\ j < 1073741824
noncomputable def CPow (i j:Int):Prop:=0 <= j /\ j <= 1000000 /\ i.natAbs < 2 ^ 64
noncomputable def CMul (i j:Int):Prop:=(-(2 ^ 64) < i /\ i < 2 ^ 64)∨(-(2 ^ 64) < j /\ j < 2 ^ 64)
theorem CMul.ok {i j:Int} (h:CMul i j):IntMulOk i j:=by
 rcases h with ⟨h1,h2⟩ | ⟨h1,h2⟩
 .exact .of_left (intBits_le_64 h1 h2)
 .exact .of_right (intBits_le_64 h1 h2)
theorem ZBG:OpR X (binaryOp .Add) (rI0 fun i j=>.int (i+j)):=opI0 fun _ _ _ _ _ _ _ q=>add_int q
theorem ZBe:OpR X (binaryOp .Sub) (rI0 fun i j=>.int (i-j)):=opI0 fun _ _ _ _ _ _ _ q=>sub_int q
theorem op_mul:OpR X (binaryOp .Mult) (rI CMul fun i j=>.int (i * j)):=opI fun _ _ _ _ _ _ _ hc q=>mul_int q hc.ok
theorem ZBC:OpR X (binaryOp .FloorDiv) (rI CDiv fun i j=>.int (i / j)):=opI fun i j _ _ _ _ _ hc q=>by
 have h1:(0:Int) < j:=hc.1
 have h2:j < 1073741824:=hc.2
 exact floordiv_int (by omega) (by rw [Int.fdiv_eq_ediv_of_nonneg i (by omega)];exact q) (.inl (PyProof.noPylong_small (by omega)))
theorem ZAy:OpR X (binaryOp .Mod) (rI (fun _ j=>0 < j) fun i j=>.int (i % j)):=opI fun i j _ _ _ _ _ hc q=>by
 have h1:(0:Int) < j:=hc
 exact mod_int' (by omega) (by rw [Int.fmod_eq_emod_of_nonneg i (by omega)];exact q)
theorem op_pow:OpR X (binaryOp .Pow) (rI CPow fun i j=>.int (i ^ j.toNat)):=opI fun _ _ _ _ _ _ _ hc q=>pow_int_small hc.1 hc.2.1 hc.2.2 q
theorem unI {f:Value->Sem Value} {g:Int->Int}
  (rule:∀ (i:Int) (t:Tok) (s:Shared) (Q:Value->Shared->Prop) (E:Value->Shared->Prop),Q (.int (g i) s.toks) { s with toks:=s.toks+1 }->wpAny (model X.prog X.w) X.A (f (.int i t)) Q E s) :
  UnR X f (rU fun i=>.int (g i)):=by
 intro pins s σ H x v Q I rx h
 obtain ⟨i,rfl,q⟩:=h
 obtain ⟨t,rfl⟩:=rx
 exact rule i t s _ _ ⟨.int (g i),H,I.tok _,⟨_,rfl⟩,q⟩
theorem un_neg:UnR X (unaryOp .USub) (rU fun i=>.int (-i)):=unI fun _ _ _ _ _ q=>neg_int q
end
noncomputable def scal:V->V->Bool
 | .non,.non=>true | .non,.int _=>true | .int _,.non=>true | .non,.bl _=>true | .bl _,.non=>true | .non,.str _=>true | .str _,.non=>true
 | .int _,.int _=>true | .bl _,.bl _=>true | .str _,.str _=>true | .byt _,.byt _=>true
 | .int _,.str _=>true | .str _,.int _=>true | .bl _,.str _=>true | .str _,.bl _=>true
 | _,_=>false
noncomputable def rEq:R2:=fun x y H Q=>scal x y=true /\ Q (.bl (decide (x=y))) H
noncomputable def rNe:R2:=fun x y H Q=>scal x y=true /\ Q (.bl (!decide (x=y))) H
theorem dec_int {i j:Int}:decide (V.int i=V.int j)=(i == j):=by
 rw [Bool.eq_iff_iff]
 simp
theorem dec_bl {i j:Bool}:decide (V.bl i=V.bl j)=(i == j):=by
 rw [Bool.eq_iff_iff]
 simp
theorem dec_str {i j:Str}:decide (V.str i=V.str j)=(i == j):=by
 rw [Bool.eq_iff_iff]
 simp
theorem dec_byt {i j:Array UInt8}:decide (V.byt i=V.byt j)=(i.toList == j.toList):=by
 rw [Bool.eq_iff_iff]
 cases i
 cases j
 simp
section
variable {X:Cx} {a b c:Expr} {ta tb tc:TE} {pos:Pos}
theorem ZAO {pins:List (Addr×Obj)} {σ:St} {H:Hp} {s:Shared} {Q:VK} {k k':Bool} (I:Inv X pins σ H s) (q:Q (.bl k) H) (e:k=k'):EP X pins σ Q (.bool k') s:=by
 subst e
 exact ⟨.bl k,H,I,rfl,q⟩
theorem ZCB:OpR X (compareOp .Eq) rEq:=by
 intro pins s σ H x y v u Q I rx ry h
 obtain ⟨hs,q⟩:=h
 cases x with
 | non=>
  cases rx
  cases y with
  | non=>cases ry;exact PySem.EqNone.eq_none_none (ZAO I q (by simp))
  | bl j=>cases ry;exact PySem.EqNone.eq_none_bool (ZAO I q (by simp))
  | int j=>obtain ⟨t',rfl⟩:=ry;exact PySem.EqNone.eq_none_int (ZAO I q (by simp))
  | str j=>obtain ⟨t',rfl⟩:=ry;exact PySem.EqNone.eq_none_str (ZAO I q (by simp))
  | _=>exact absurd (show false=true from hs) yAI
 | bl i=>
  cases rx
  cases y with
  | non=>cases ry;exact PySem.EqNone.eq_bool_none (ZAO I q (by simp))
  | bl j=>cases ry;exact eq_bool (ZAO I q dec_bl)
  | str j=>obtain ⟨t',rfl⟩:=ry;exact PySem.EqMixed.eq_bool_str (ZAO I q (by simp))
  | _=>exact absurd (show false=true from hs) yAI
 | int i=>
  obtain ⟨t,rfl⟩:=rx
  cases y with
  | non=>cases ry;exact PySem.EqNone.eq_int_none (ZAO I q (by simp))
  | int j=>obtain ⟨t',rfl⟩:=ry;exact eq_int (ZAO I q dec_int)
  | str j=>obtain ⟨t',rfl⟩:=ry;exact PySem.EqMixed.eq_int_str (ZAO I q (by simp))
  | _=>exact absurd (show false=true from hs) yAI
 | str i=>
  obtain ⟨t,rfl⟩:=rx
  cases y with
  | non=>cases ry;exact PySem.EqNone.eq_str_none (ZAO I q (by simp))
  | bl j=>cases ry;exact PySem.EqMixed.eq_str_bool (ZAO I q (by simp))
  | int j=>obtain ⟨t',rfl⟩:=ry;exact PySem.EqMixed.eq_str_int (ZAO I q (by simp))
  | str j=>obtain ⟨t',rfl⟩:=ry;exact eq_str (ZAO I q dec_str)
  | _=>exact absurd (show false=true from hs) yAI
 | byt i=>
  obtain ⟨t,rfl⟩:=rx
  cases y with
  | byt j=>obtain ⟨t',rfl⟩:=ry;exact PySem.W.eq_bytes (ZAO I q dec_byt)
  | _=>exact absurd (show false=true from hs) yAI
 | _=>cases y <;> exact absurd (show false=true from hs) yAI
theorem ZCb:OpR X (compareOp .NotEq) rNe:=by
 intro pins s σ H x y v u Q I rx ry h
 obtain ⟨hs,q⟩:=h
 cases x with
 | non=>
  cases rx
  cases y with
  | non=>cases ry;exact PySem.EqNone.ne_none_none (ZAO I q (by simp))
  | bl j=>cases ry;exact PySem.EqNone.ne_none_bool (ZAO I q (by simp))
  | int j=>obtain ⟨t',rfl⟩:=ry;exact PySem.EqNone.ne_none_int (ZAO I q (by simp))
  | str j=>obtain ⟨t',rfl⟩:=ry;exact PySem.EqNone.ne_none_str (ZAO I q (by simp))
  | _=>exact absurd (show false=true from hs) yAI
 | bl i=>
  cases rx
  cases y with
  | non=>cases ry;exact PySem.EqNone.ne_bool_none (ZAO I q (by simp))
  | bl j=>cases ry;exact ne_bool (ZAO I q (congrArg not dec_bl))
  | str j=>obtain ⟨t',rfl⟩:=ry;exact PySem.EqMixed.ne_bool_str (ZAO I q (by simp))
  | _=>exact absurd (show false=true from hs) yAI
 | int i=>
  obtain ⟨t,rfl⟩:=rx
  cases y with
  | non=>cases ry;exact PySem.EqNone.ne_int_none (ZAO I q (by simp))
  | int j=>obtain ⟨t',rfl⟩:=ry;exact ne_int (ZAO I q (congrArg not dec_int))
  | str j=>obtain ⟨t',rfl⟩:=ry;exact PySem.EqMixed.ne_int_str (ZAO I q (by simp))
  | _=>exact absurd (show false=true from hs) yAI
 | str i=>
  obtain ⟨t,rfl⟩:=rx
  cases y with
  | non=>cases ry;exact PySem.EqNone.ne_str_none (ZAO I q (by simp))
  | bl j=>cases ry;exact PySem.EqMixed.ne_str_bool (ZAO I q (by simp))
  | int j=>obtain ⟨t',rfl⟩:=ry;exact PySem.EqMixed.ne_str_int (ZAO I q (by simp))
  | str j=>obtain ⟨t',rfl⟩:=ry;exact ne_str (ZAO I q (congrArg not dec_str))
  | _=>exact absurd (show false=true from hs) yAI
 | byt i=>
  obtain ⟨t,rfl⟩:=rx
  cases y with
  | byt j=>obtain ⟨t',rfl⟩:=ry;exact PySem.W.ne_bytes (ZAO I q (congrArg not dec_byt))
  | _=>exact absurd (show false=true from hs) yAI
 | _=>cases y <;> exact absurd (show false=true from hs) yAI
theorem op_lt:OpR X (compareOp .Lt) (rI0 fun i j=>.bl (decide (i < j))):=opB0 fun _ _ _ _ _ _ _ q=>lt_int q
theorem op_le:OpR X (compareOp .LtE) (rI0 fun i j=>.bl (decide (i <= j))):=opB0 fun _ _ _ _ _ _ _ q=>le_int q
theorem ZAe (b:Expr) {op:CmpOp} (h:op≠.In:=by decide) (h2:op≠.NotIn:=by decide):behindInMarks op b=false:=by
 have e1:(op == CmpOp.In)=false:=by cases op <;> first | rfl | exact absurd rfl h
 have e2:(op == CmpOp.NotIn)=false:=by cases op <;> first | rfl | exact absurd rfl h2
 cases b <;> simp [behindInMarks,e1,e2]
theorem ZBv {op:CmpOp} {r:R2} (ho:OpR X (compareOp op) r) (ha:PE X a ta) (hb:PE X b tb) (hm:behindInMarks op b=false):PE X (.Compare a [op] [b] pos) (tOp r ta tb):=by
 intro pins s σ H Q I h
 exact wpAny_Compare1 (binT ha hb I h fun v u s2 x y H2 I2 rx ry q=>ho pins s2 σ H2 x y v u Q I2 rx ry q) hm
noncomputable def ZCd (t:TE):TT:=fun σ H Q=>t σ H fun x H'=>∃ k,x=.bl k /\ Q k H'
theorem ZAd {op:CmpOp} {r:R2} (ho:OpR X (compareOp op) r) (ha:PE X a ta) (hb:PE X b tb) (hm:behindInMarks op b=false):PT X (.Compare a [op] [b] pos) (ZCd (tOp r ta tb)):=by
 intro pins s σ H Q I h
 refine wpAny_isTrue_Compare1 (thn (ha pins s σ H _ I h) fun v s1 ⟨x,H1,I1,r1,q1⟩=>thn (hb pins s1 σ H1 _ I1 q1) fun u s2 ⟨y,H2,I2,r2,q2⟩=>
  thn (ho pins s2 σ H2 x y v u _ I2 r1 r2 q2) fun c s3 ⟨z,H3,I3,r3,k,e,q3⟩=>?_) hm
 subst e
 cases r3
 exact wpAny_truthy_bool ⟨H3,I3,q3⟩
noncomputable def tChain (r r':R2) (ta tb tc:TE):TE:=fun σ H Q=>ta σ H fun x H1=>tb σ H1 fun y H2=>r x y H2 fun z H3=>∃ k,z=.bl k /\
 (if k=true then tc σ H3 fun w' H4=>r' y w' H4 Q else Q (.bl false) H3)
theorem ZCU:(sizeLine:Nat) < 2 ^ 63:=by rw [sizeLine_eq];decide
theorem ZBV {x:V} {us:List Value} (r:Vals [x] us):∃ u,us=[u] /\ RelV x u:=by
 cases r with
 | cons r1 r2=>cases r2;exact ⟨_,rfl,r1⟩
theorem ZCc {x y:V} {us:List Value} (r:Vals [x,y] us):∃ u w',us=[u,w'] /\ RelV x u /\ RelV y w':=by
 cases r with
 | cons r1 r2=>
  cases r2 with
  | cons r3 r4=>cases r4;exact ⟨_,_,rfl,r1,r3⟩
theorem ZAb:ZBH X (.type "str") (fun xs H Q=>∃ i,xs=[.int i] /\ i.natAbs.log2 < 1920 /\ Q (.str (toString i)) H):=by
 intro pins s σ H xs us Q I r h
 obtain ⟨i,rfl,hz,q⟩:=h
 obtain ⟨u,rfl,t,rfl⟩:=ZBV r
 exact PySem.P.str_of_int hz ⟨.str _,H,I.tok _,⟨_,rfl⟩,q⟩
end
structure ObjM (h:Heap) (x dx C:Addr) (mA:Str->Option Value):Prop where
 obj:h.get? x=some (PySem.W.instObj C dx)
 ns:h.Ns1 dx mA
 ne:dx≠x
theorem lookIn_ns {h:Heap} {dx:Addr} {mA:Str->Option Value} (n:h.Ns1 dx mA):∃ od,h.get? dx=some od /\ ∀ name,PySem.W.lookIn name od=some (mA name):=by
 obtain ⟨o,es,ep,ho,hd,hk,_,hm⟩:=n
 refine ⟨o,ho,fun name=>?_⟩
 have e:=hm name
 unfold nsFind findBy at e
 rw [<- Array.find?_toList] at e
 unfold PySem.W.lookIn
 rw [hd]
 dsimp only
 split
 .rename_i y q
  rw [q] at e
  exact congrArg some e
 .rename_i q
  rw [q] at e
  have a:es.toList.any (·.refKey)=false:=by
   rw [List.any_eq_false]
   intro y hy
   obtain ⟨z,t,hkey⟩:=hk y (Array.mem_toList_iff.mp hy)
   simp [DictEntry.refKey,hkey]
  have a':¬ es.toList.any (·.refKey)=true:=by rw [a];exact yAI
  rw [if_neg a']
  exact congrArg some e
theorem ObjM.look {h:Heap} {x dx C:Addr} {mA:Str->Option Value} (I:ObjM h x dx C mA):∃ od,PySem.W.InstAt h x (PySem.W.instObj C dx) C (some od) /\ ∀ name,PySem.W.lookIn name od=some (mA name) :=
 let ⟨od,ho,hl⟩:=lookIn_ns I.ns
 ⟨od,⟨I.obj,rfl,rfl,ho⟩,hl⟩
section
variable {prog:Program} {w:World} {A:Around} {E:Value->Shared->Prop} {s:Shared} {K:W.Frag} {x dx C f:Addr} {mA:Str->Option Value} {name:Str} {v:Value}
end
noncomputable def putF (f:Str) (v:V):List (Str×V)->List (Str×V)
 | []=>[(f,v)]
 | (g,x)::r=>if g=f then (g,v)::r else (g,x)::putF f v r
section
variable {P:Program} {w:World} {H H':Hp} {h h':Heap} {a C dx:Addr} {fs fs':List (Str×V)}
theorem ins_get (hok:HOk P w H h) (e:H a=some (.ins C dx fs)):∃ mA,ObjM h a dx C mA /\ (∀ f,RelO (fs.lookup f) (mA f)) /\ PySem.Within mA (fs.map (·.1)) /\ fs.length <= 1000 /\ H dx=some (.own a):=by
 obtain ⟨d,z,ne,ob,mA,n,r,q⟩:=(show ObjOk P w H h a (.ins C dx fs) from hok a _ e)
 exact ⟨mA,⟨ob,n,ne⟩,r,q,z,d⟩
end
structure Cls (K:W.Frag) (C:Addr):Prop where
 pg:PySem.W.plainGet K C Str.empty=true
 hd:PySem.W.hasDictIn K C=true
 po:PySem.W.plainOver K C=true
 sa:W.findIn K (.ref C) "__setattr__"=some (some (.builtin "object.__setattr__"))
theorem Cls.get {K:W.Frag} {C:Addr} (c:Cls K C) (f:Str):PySem.W.plainGet K C f=true:=c.pg
noncomputable def ZBh (K:W.Frag) (C:Addr) (f:Str):Prop:=W.findIn K (.ref C) f=some none
section
variable {X:Cx} {pins:List (Addr×Obj)} {σ:St} {H:Hp} {s:Shared} {a C dx:Addr} {fs:List (Str×V)} {f:Str} {v:V} {A:Around} {E:Value->Shared->Prop}
end
noncomputable def tFld (K:W.Frag) (ta:TE) (f:Str):TE:=fun σ H Q=>ta σ H fun x H1=>∃ a C dx fs v,x=.ref a /\ H1 a=some (.ins C dx fs) /\ Cls K C /\ ZBh K C f /\ fs.lookup f=some v /\ Q v H1
noncomputable def sFld (K:W.Frag) (ta tv:TE) (f:Str):TS:=fun D σ H=>tv σ H fun y H1=>ta σ H1 fun x H2=>∃ a C dx fs,x=.ref a /\ H2 a=some (.ins C dx fs) /\ Cls K C /\ ZBh K C f /\ fs.length < 1000 /\
 D.nx σ (upd H2 a (.ins C dx (putF f y fs)))
noncomputable def sFldAug (K:W.Frag) (ta tv:TE) (rd:V->V->Hp->VK->Prop) (f:Str):TS:=fun D σ H=>ta σ H fun x H1=>∃ a C dx fs v,x=.ref a /\ H1 a=some (.ins C dx fs) /\ Cls K C /\ ZBh K C f /\ fs.lookup f=some v /\
 tv σ H1 fun y H2=>rd v y H2 fun z H3=>∃ dx' fs',H3 a=some (.ins C dx' fs') /\ fs'.length < 1000 /\ D.nx σ (upd H3 a (.ins C dx' (putF f z fs')))
section
variable {X:Cx} {o e value:Expr} {f:Str} {pos pos' tpos:Pos} {ta tv:TE}
end
section
variable {X:Cx} {pins:List (Addr×Obj)} {σ:St} {H:Hp} {s:Shared} {A:Around} {E:Value->Shared->Prop} {Q:Value->Shared->Prop} {c:Value} {b:Bool}
inductive TyOf (K:W.Frag) (H:Hp):V->Value->Prop where
 | non:TyOf K H .non (.type "NoneType")
 | bl (x:Bool):TyOf K H (.bl x) (.type "bool")
 | int (i:Int):TyOf K H (.int i) (.type "int")
 | str (x:Str):TyOf K H (.str x) (.type "str")
 | flt (x:UInt64):TyOf K H (.flt x) (.type "float")
 | lst {a:Addr} {xs:List V} (e:H a=some (.lst xs)):TyOf K H (.ref a) (.type "list")
 | frz {a:Addr} {o:Obj} {xs:List V} (e:H a=some (.frz o (.lst xs))):TyOf K H (.ref a) (.type "list")
 | tup {a:Addr} {xs:List V} (e:H a=some (.tup xs)):TyOf K H (.ref a) (.type "tuple")
 | dK {a:Addr} {kvs:List (Key×V)} (e:H a=some (.dK kvs)):TyOf K H (.ref a) (.type "dict")
 | dT {a:Addr} {kvs:List (List Key×V)} (e:H a=some (.dT kvs)):TyOf K H (.ref a) (.type "dict")
 | ins {a C dx:Addr} {fs:List (Str×V)} (e:H a=some (.ins C dx fs)) (cl:Cls K C) (ha:W.findIn K (.ref C) "__class__"=some (some (.builtin "object.__class__")))
   (hn:PySem.W.specialIn K (.builtin "object.__class__") "__get__"=some (some (.builtin "getset_descriptor.__get__"))) (htk:PySem.W.takesIn K (.builtin "object.__class__")=some true)
   (hm:PySem.W.mroIn K C (.type "object")=some true):TyOf K H (.ref a) (.ref C)
theorem isinst_ok {x:V} {u t:Value} (I:Inv X pins σ H s) (rx:RelV x u) (ty:TyOf X.K H x t) (e:PySem.W.kitOne X.K t c=some b) (h:∀ tk,Q (.bool b) { s with toks:=tk }) :
  wpAny (model X.prog X.w) A (call (.builtin "isinstance") [u,c]) Q E s:=by
 cases ty with
 | non=>cases (show u=Value.none from rx);exact PySem.W.kia_one PySem.W.kitx_none I.kIn True.intro e (fun z=>nomatch z) h
 | bl y=>cases (show u=Value.bool y from rx);exact PySem.W.kia_one PySem.W.kitx_bool I.kIn True.intro e (fun z=>nomatch z) h
 | int i=>obtain ⟨t,q⟩:=(show ∃ t,u=Value.int i t from rx);cases q;exact PySem.W.kia_one PySem.W.kitx_int I.kIn True.intro e (fun z=>nomatch z) h
 | str y=>obtain ⟨t,q⟩:=(show ∃ t,u=Value.str y t from rx);cases q;exact PySem.W.kia_one PySem.W.kitx_str I.kIn True.intro e (fun z=>nomatch z) h
 | flt y=>obtain ⟨t,q⟩:=(show ∃ t,u=Value.float y t from rx);cases q;exact PySem.W.kia_one PySem.W.kitx_float I.kIn True.intro e (fun z=>nomatch z) h
 | @lst a xs ea=>
  cases (show u=Value.ref a from rx)
  obtain ⟨_,_,n,_,h1⟩:=(show ObjOk X.prog X.w H s.heap a (.lst xs) from I.hok a _ ea)
  exact PySem.W.kia_one PySem.W.kitx_list I.kIn ⟨_,h1,rfl⟩ e (fun z=>nomatch z) h
 | @frz a ob xs ea=>
  cases (show u=Value.ref a from rx)
  obtain ⟨_,_,_,n,_,h1⟩:=(show ObjOk X.prog X.w H s.heap a (.frz ob (.lst xs)) from I.hok a _ ea)
  exact PySem.W.kia_one PySem.W.kitx_list I.kIn ⟨_,h1,rfl⟩ e (fun z=>nomatch z) h
 | @tup a xs ea=>
  cases (show u=Value.ref a from rx)
  obtain ⟨_,_,_,p⟩:=(show ObjOk X.prog X.w H s.heap a (.tup xs) from I.hok a _ ea)
  obtain ⟨o,h1,h2,_⟩:=p
  exact PySem.W.kia_one PySem.W.kitx_tuple I.kIn ⟨o,h1,h2⟩ e (fun z=>nomatch z) h
 | @dK a kvs ea=>
  cases (show u=Value.ref a from rx)
  obtain ⟨_,_,vs,_,p⟩:=(show ObjOk X.prog X.w H s.heap a (.dK kvs) from I.hok a _ ea)
  obtain ⟨o,es,ep,h1,h2,_⟩:=p
  exact PySem.W.kia_one PySem.W.kitx_dict I.kIn ⟨o,h1,h2.1⟩ e (fun z=>nomatch z) h
 | @dT a kvs ea=>
  cases (show u=Value.ref a from rx)
  obtain ⟨_,_,xs,_,o,es,ep,h1,h2,_⟩:=(show ObjOk X.prog X.w H s.heap a (.dT kvs) from I.hok a _ ea)
  exact PySem.W.kia_one PySem.W.kitx_dict I.kIn ⟨o,h1,h2.1⟩ e (fun z=>nomatch z) h
 | @ins a C dx fs ea cl ha hn htk hm=>
  cases (show u=Value.ref a from rx)
  obtain ⟨mA,O,_⟩:=ins_get I.hok ea
  obtain ⟨od,J,_⟩:=O.look
  exact PySem.W.kia_one (PySem.W.kitx_own (cl.get _) cl.hd ha hn htk hm) I.kIn J e (fun z=>nomatch z) h
end
structure Room (k:Nat) (A:Around):Prop where
 hd:A.handled=none
 dp:A.depth+3 * k+5 < recursionLimit
 un:A.units+16 * k+200 < cLine
 gd:A.guards=some []
theorem Room.mono {j k:Nat} {A:Around} (r:Room k A) (h:j <= k):Room j A:=⟨r.hd,by have:=r.dp;omega,by have:=r.un;omega,r.gd⟩
theorem Room.deeper {k:Nat} {A:Around} (r:Room (k+1) A) (env:Env):Room k (A.deeper env) :=
 ⟨r.hd,by have:=r.dp;show A.depth+1+3 * k+5 < _;omega,by have:=r.un;show A.units+3+16 * k+200 < _;omega,r.gd⟩
theorem Room.depth {k:Nat} {A:Around} (r:Room k A):A.depth < recursionLimit:=by have:=r.dp;omega
theorem Room.units {k:Nat} {A:Around} (r:Room k A):A.units+64 < cLine:=by have:=r.un;omega
noncomputable def tNil:TA:=fun _ H Q=>Q [] H
noncomputable def ZBI (ta:TE) (tr:TA):TA:=fun σ H Q=>ta σ H fun x H1=>tr σ H1 fun xs H2=>Q (x::xs) H2
section
variable {X:Cx} {e:Expr} {es:List Expr} {te:TE} {t:TA} {pos:Pos}
theorem ZAB:PA X [] tNil:=fun _ _ _ _ H Q I h=>Calls.spliced_nil ⟨[],H,I,.nil,h⟩
theorem ZAA (ha:PE X e te) (hr:PA X es t) (hs:starEach (e::es) X.env=(false,eval e X.env)::starEach es X.env:=by rfl):PA X (e::es) (ZBI te t):=by
 intro pos pins s σ H Q I h
 rw [hs]
 show wpAny _ _ (spliced ((false,eval e X.env)::backTo pos (starEach es X.env))) _ _ s
 refine Calls.spliced_cons (thn (ha pins s σ H _ I h) fun u s1 zz=>?_)
 obtain ⟨x,H1,I1,r1,q1⟩:=zz
 exact thn (hr pos pins s1 σ H1 _ I1 q1) fun us s2 ⟨xs,H2,I2,r2,q2⟩=>⟨x::xs,H2,I2,.cons r1 r2,q2⟩
noncomputable def tTup (t:TA):TE:=fun σ H Q=>t σ H fun xs H1=>xs.length <= sizeLine /\ ∀ p,H1 p=none->Q (.ref p) (upd H1 p (.tup xs))
noncomputable def tLst (t:TA):TE:=fun σ H Q=>t σ H fun xs H1=>xs.length <= sizeLine /\ ∀ p,H1 p=none->Q (.ref p) (upd H1 p (.lst xs))
theorem ZBQ (h:PA X es t):PE X (.List es pos) (tLst t):=by
 intro pins s σ H Q I hq
 refine wpAny_List_spliced (thn (h pos pins s σ H _ I hq) fun us s1 ⟨xs,H1,I1,r,z,q⟩=>⟨by rw [<- r.length];exact z,?_⟩)
 have hf:H1 s1.heap.objs.size=none:=I1.hok.fresh (yAB _)
 refine ⟨.ref s1.heap.objs.size,upd H1 s1.heap.objs.size (.lst xs),I1.laid (t':=s1.toks) (fun b u e=>Heap.get?_push_of_some _ e) (yAB _) ?_,rfl,q _ hf⟩
 exact ⟨z,us,0,r,Heap.get?_push_size _ rfl⟩
end
noncomputable abbrev Sp:=List V->Hp->VK->XK->Prop
noncomputable abbrev CXT:=List Env->Hp->Shared->XK->Value->Shared->Prop
structure Env0 (P:Program) (w:World) (K:W.Frag) (mg:Str->Option Value) (base:Heap) (A:Around) (outer:List Env) (s:Shared) (H:Hp):Prop where
 frames:A.frames=some outer
 mod:Mod K mg base
 bs:∀ b o,base.get? b=some o->s.heap.get? b=some o /\ H b=none
 bsz:base.objs.size <= s.heap.objs.size
 funs:s.heap.FunFrames base outer
 frf:∀ b∈frs outer,H b=none
 hok:HOk P w H s.heap
 bare:AllBare s.gens
noncomputable def CE (outer:List Env) (P:Program) (w:World) (H:Hp) (s:Shared) (Q:VK) (u:Value) (s':Shared):Prop :=
 ∃ v H',s'.os=s.os /\ AllBare s'.gens /\ Un (frs outer) [] H H' s.heap s'.heap /\ HOk P w H' s'.heap /\ RelV v u /\ Q v H'
noncomputable def CR (CX:CXT) (outer:List Env) (P:Program) (w:World) (H:Hp) (s:Shared) (Q:VK) (E:XK) (r:Result) (s':Shared):Prop :=
 match r with
 | .ok (.ret u)=>CE outer P w H s Q u s'
 | .ok _=>False
 | .error e=>CX outer H s E e s'
structure FnOk (P:Program) (w:World) (K:W.Frag) (mg:Str->Option Value) (base:Heap) (CX:CXT) (k:Nat) (f:Addr) (fd:FuncData) (ps:List Str) (sp:Sp):Prop where
 len:∀ vs H Q E,sp vs H Q E->vs.length=ps.length
 run:∀ (A:Around) (outer:List Env) (s:Shared) (H:Hp) (args:Args) (us:List Value) (vs:List V) (Q:VK) (E:XK),Room k A->Env0 P w K mg base A outer s H->BindsTo s fd args (ps.zip us)->Vals vs us->sp vs H Q E ->
  codeAny (model P w) A (.call (.ref f) args) (CR CX outer P w H s Q E) s
section
variable {X:Cx} {pins:List (Addr×Obj)} {σ:St} {H:Hp} {s s':Shared}
theorem Inv.env0 (I:Inv X pins σ H s):Env0 X.prog X.w X.K X.mg X.base X.A X.stack s H :=
 ⟨I.ok.frames,I.ok.mod,I.bs,yAC I.ok.bsz I.sz,I.stack,I.stkFree,I.hok,I.bare⟩
theorem Inv.after {Q:VK} {u:Value} (I:Inv X pins σ H s) (h:CE X.stack X.prog X.w H s Q u s'):EP X pins σ Q u s':=by
 obtain ⟨v,H',os,bare,un,hok,r,q⟩:=h
 obtain ⟨hh,g,d,t,os'⟩:=s'
 obtain rfl:os'=s.os:=os
 exact ⟨v,H',I.call (h':=hh) (g':=g) (d':=d) (t':=t) (ch:=[]) un hok bare (fun b z=>absurd z (by simp)),r,q⟩
end
noncomputable def ZCW (sp:Sp) (dvs:List V) (E:XK) (t:TA):TE:=fun σ H Q=>t σ H fun vs H1=>sp (vs++dvs) H1 Q E
noncomputable def tMeth (C:Addr) (m:Str) (sp:Sp) (dvs:List V) (E:XK) (ta:TE) (t:TA):TE:=fun σ H Q=>ta σ H fun x H1=>∃ a dx fs,x=.ref a /\ H1 a=some (.ins C dx fs) /\ fs.lookup m=none /\
 t σ H1 fun vs H2=>sp (x::(vs++dvs)) H2 Q E
noncomputable def tMake (C:Addr) (sp:Sp) (dvs:List V) (E:XK) (t:TA):TE:=fun σ H Q=>t σ H fun vs H1=>∀ x dx,H1 x=none->H1 dx=none->dx≠x ->
 sp (.ref x::(vs++dvs)) (upd (upd H1 dx (.own x)) x (.ins C dx [])) (fun v H2=>v=.non /\ Q (.ref x) H2) E
noncomputable def Binds (K:W.Frag) (fd:FuncData) (ps:List Str) (ds:List Value):Prop :=
 ∀ (s:Shared) (us:List Value),K.In s.heap->(us++ds).length=ps.length->BindsTo s fd ⟨us,[]⟩ (ps.zip (us++ds))
theorem Binds.all {K:W.Frag} {fd:FuncData} {ps:List Str} (h:∀ us:List Value,us.length=ps.length->bindArgs fd ⟨us,[]⟩=pure (ps.zip us)):Binds K fd ps []:=fun s us _ hl=>by
 rw [List.append_nil] at hl ⊢
 exact .of_eq (h us hl)
noncomputable def ZBm (CX:CXT) (X:Cx) (E:XK):Prop:=∀ (pins:List (Addr×Obj)) (σ:St) (H:Hp) (s:Shared) (e:Value) (s':Shared),Inv X pins σ H s->CX X.stack H s E e s'->X.xe e s'
section
variable {X:Cx} {CX:CXT} {k:Nat} {f C:Addr} {fd:FuncData} {ps:List Str} {sp:Sp} {dvs:List V} {ds:List Value} {E:XK} {x m:Str} {p pos apos:Pos} {e o:Expr} {es:List Expr} {ta:TE} {t:TA}
theorem run_fn {pins:List (Addr×Obj)} {σ:St} {H:Hp} {s:Shared} {Q:VK} {us:List Value} {vs:List V} (F:FnOk X.prog X.w X.K X.mg X.base CX k f fd ps sp) (hr:Room k X.A) (hb:Binds X.K fd ps ds) (hd:Vals dvs ds) (hx:ZBm CX X E)
  (I:Inv X pins σ H s) (r:Vals vs us) (h:sp (vs++dvs) H Q E):wpAny (model X.prog X.w) X.A (call (.ref f) us) (EP X pins σ Q) X.xe s:=by
 have r2:Vals (vs++dvs) (us++ds):=r.append hd
 have hl:(us++ds).length=ps.length:=by rw [<- r2.length];exact F.len _ _ _ _ h
 refine wpAny_call (codeAny_mono (F.run X.A X.stack s H ⟨us,[]⟩ (us++ds) (vs++dvs) Q E hr I.env0 (hb s us I.kIn hl) r2 h) fun r s' hq=>?_)
 cases r with
 | error e=>exact hx pins σ H s e s' I hq
 | ok fl=>
  cases fl with
  | ret u=>exact I.after hq
  | next=>exact False.elim hq
  | brk=>exact False.elim hq
  | cont=>exact False.elim hq
theorem pe_call (F:FnOk X.prog X.w X.K X.mg X.base CX k f fd ps sp) (hr:Room k X.A) (hg:Gl X x) (hm:X.mg x=some (.ref f)) (hk:W.keepIn X.K (.ref f)=true) (hb:Binds X.K fd ps ds) (hd:Vals dvs ds) (hx:ZBm CX X E)
  (ha:PA X (e::es) t) (hdb:(x == ("__debug__":Str))=false:=by decide) (he:starEach (e::es) X.env=(false,eval e X.env)::starEach es X.env:=by rfl) (hpl:(backTo pos (starEach es X.env)).any (·.1)=false:=by rfl) :
  PE X (.Call (.Name x p) (e::es) [] pos) (ZCW sp dvs E t):=by
 intro pins s σ H Q I h
 refine wpAny_Call_Name_kw (ZBf I hg hm ?_ hdb)
 refine PySem.W.callWith_K (h₀:=X.base) I.ok.mod.kin hk (thn (ha pos pins s σ H _ I h) fun us s1 ⟨vs,H1,I1,r,q⟩=>⟨I1.kIn,?_⟩) he hpl
 exact run_fn F hr hb hd hx I1 r q
end
section
variable {X:Cx} {CX:CXT} {k:Nat} {f C:Addr} {fd:FuncData} {ps ks:List Str} {sp:Sp} {E:XK} {x m:Str} {p pos apos kpos:Pos} {e o:Expr} {es:List Expr} {kws:List Keyword} {te ta:TE} {t tk:TA} {nm:Option Str}
variable {g:List Value->List Value->List Value} {gV:List V->List V->List V}
end
structure FnScope (N P:List Str) (sc:Scope):Prop where
 kind:sc.kind=.function
 co:sc.isCoroutine=false
 gen:sc.isGenerator=false
 nd:N.Nodup
 pre:N.take P.length=P
 par:∀ x∈P,sc.names.lookup x=some .local∨sc.names.lookup x=some .cell
 nofree:∀ y∈sc.names,y.2≠.free
theorem bindL_out {kindOf:Str->Option NameKind} {x:Str}:∀ {binds:List (Str×Value)} {m:Str->Option Value},(∀ v,(x,v)∉binds)->bindL kindOf binds m x=m x
 | [],_,_=>rfl
 | (n,v)::r,m,h=>by
  unfold bindL
  rw [bindL_out fun w hw=>h w (yAL _ hw)]
  split
  .have:x≠n:=by rintro rfl;exact h v yAK
   simp [this]
  .rfl
theorem bindC_out {kindOf:Str->Option NameKind} {x:Str}:∀ {binds:List (Str×Value)} {m:Str->Option Value},(∀ v,(x,v)∉binds)->bindC kindOf binds m x=m x
 | [],_,_=>rfl
 | (n,v)::r,m,h=>by
  unfold bindC
  rw [bindC_out fun w hw=>h w (yAL _ hw)]
  split
  .rfl
  .have:x≠n:=by rintro rfl;exact h v yAK
   simp [this]
theorem bindL_get {kindOf:Str->Option NameKind} {x:Str} {v:Value}:∀ {P:List Str} {vs:List Value} {i:Nat} {m:Str->Option Value},P.Nodup->P[i]?=some x->vs[i]?=some v->kindOf x=some .local ->
  bindL kindOf (P.zip vs) m x=some v
 | [],_,_,_,_,h,_,_=>by simp at h
 | _::_,[],_,_,_,_,h,_=>by simp at h
 | p::P,w::vs,0,m,nd,h1,h2,hk=>by
  simp at h1 h2;subst h1;subst h2
  show bindL kindOf ((p,w)::P.zip vs) m p=_
  unfold bindL
  rw [bindL_out fun v hv=>(List.nodup_cons.mp nd).1 (List.of_mem_zip hv).1,if_pos hk]
  simp
 | p::P,w::vs,i+1,m,nd,h1,h2,hk=>by
  show bindL kindOf ((p,w)::P.zip vs) m x=_
  unfold bindL
  exact bindL_get (i:=i) (List.nodup_cons.mp nd).2 (by simpa using h1) (by simpa using h2) hk
theorem bindC_get {kindOf:Str->Option NameKind} {x:Str} {v:Value}:∀ {P:List Str} {vs:List Value} {i:Nat} {m:Str->Option Value},P.Nodup->P[i]?=some x->vs[i]?=some v->kindOf x≠some .local ->
  bindC kindOf (P.zip vs) m x=some v
 | [],_,_,_,_,h,_,_=>by simp at h
 | _::_,[],_,_,_,_,h,_=>by simp at h
 | p::P,w::vs,0,m,nd,h1,h2,hk=>by
  simp at h1 h2;subst h1;subst h2
  show bindC kindOf ((p,w)::P.zip vs) m p=_
  unfold bindC
  rw [bindC_out fun v hv=>(List.nodup_cons.mp nd).1 (List.of_mem_zip hv).1,if_neg hk]
  simp
 | p::P,w::vs,i+1,m,nd,h1,h2,hk=>by
  show bindC kindOf ((p,w)::P.zip vs) m x=_
  unfold bindC
  exact bindC_get (i:=i) (List.nodup_cons.mp nd).2 (by simpa using h1) (by simpa using h2) hk
noncomputable def start (N:List Str) (vs:List V):St:=vs.map some++List.replicate (N.length-vs.length) none
noncomputable def cxOf (CX:CXT) (P:Program) (w:World) (K:W.Frag) (mg:Str->Option Value) (base:Heap) (N:List Str) (qual:Str) (scope:Scope) (f:Addr) (cd:Value) (A:Around) (outer:List Env) (s:Shared) (H:Hp) (E:XK):Cx where
 prog:=P
 w:=w
 K:=K
 mg:=mg
 base:=base
 A:=A.deeper (envOfC qual scope s.heap.objs.size f cd)
 N:=N
 s₀:=s
 H₀:=H
 env:=envOfC qual scope s.heap.objs.size f cd
 outer:=outer
 stack:=envOfC qual scope s.heap.objs.size f cd::outer
 ex:=[]
 calm:=true
 fn:=fun _=>true
 pn:=[]
 xe:=fun e s'=>wpAny (model P w) (A.deeper (envOfC qual scope s.heap.objs.size f cd)) (leaving (envOfC qual scope s.heap.objs.size f cd) e) (fun _ s''=>CX outer H s E e s'') (fun e' s''=>CX outer H s E e' s'') s'
theorem ZB2 {sc:Scope} {n:Nat} {x:Str} (h:sc.names.lookup x=some .cell):∃ c,(cellsFrom n sc.names []).lookup x=some c:=by
 have q:=PySem.W.cellsFrom_some sc.names n [] (.inl h)
 exact Option.isSome_iff_exists.mp q
theorem inv_start {CX:CXT} {P:Program} {w:World} {K:W.Frag} {mg:Str->Option Value} {base:Heap} {N ps:List Str} {qual:Str} {scope:Scope} {f:Addr} {cd:Value} {A:Around} {outer:List Env} {s s1:Shared} {H:Hp} {E:XK} {us:List Value} {vs:List V}
  (S:FnScope N ps scope) (hd:A.handled=none) (e0:Env0 P w K mg base A outer s H) (hl:vs.length=ps.length) (r:Vals vs us)
  (x:InCallC s s.heap.objs.size (bindL (envOfC qual scope s.heap.objs.size f cd).kindOf (ps.zip us) fun _=>none) (cellsFrom (s.heap.objs.size+1) scope.names []) (bindC (envOfC qual scope s.heap.objs.size f cd).kindOf (ps.zip us) fun _=>none) s1) :
  Inv (cxOf CX P w K mg base N qual scope f cd A outer s H E) [] (start N vs) H s1:=by
 have hpl:ps.length <= N.length:=by have:=congrArg List.length S.pre;rw [yAQ] at this;omega
 obtain ⟨h1,tk,rfl,hk⟩:=x.done
 have noA:∀ b:Addr,b∉(cxOf CX P w K mg base N qual scope f cd A outer s H E).ex:=fun b z=>absurd (show b∈([]:List Addr) from z) (by simp)
 refine ⟨⟨e0.mod,S.kind,rfl,rfl,yAB _,fun y z c h1 h2=>?_,fun y hy=>?_,fun y c _ h=>?_,fun _=>hd,Around.frames_deeper e0.frames,.inr ⟨rfl,rfl⟩,fun b z=>absurd z (noA b),e0.bs,e0.bsz,fun b _ _=>noA b,fun b z=>absurd z (noA b),e0.funs,e0.frf⟩,
  rfl,e0.bare,Un.kept hk,⟨_,x.toInCall.ns,fun i y v h1 h2 h3=>?_⟩,fun y c h=>⟨_,x.cell y c h⟩,e0.hok.fresh (yAB _),fun y c h=>?_,fun p hp=>absurd (show p∈([]:List (Addr×Obj)) from hp) (by simp),e0.hok.kept hk,?_⟩
 .exact name_of_addr x.apart (PySem.mem_of_lookup h1) (PySem.mem_of_lookup h2)
 .have hy:scope.names.lookup y=some .cell∨scope.names.lookup y=some .free:=hy
  rcases hy with hy | hy
  .exact ZB2 hy
  .exact absurd rfl (S.nofree _ (PySem.mem_of_lookup hy))
 .exact Nat.le_of_lt (x.above y c (PySem.mem_of_lookup h))
 .have hi:i < vs.length:=by
   unfold start at h2
   by_cases hi:i < vs.length
   .exact hi
   .rw [List.getElem?_append_right (by simpa using hi)] at h2
    rw [List.getElem?_replicate] at h2
    split at h2 <;> cases h2
  have ha:vs[i]?=some v:=by
   unfold start at h2
   rw [List.getElem?_append_left (by simpa using hi),yAR] at h2
   cases e:vs[i]? with
   | none=>rw [e] at h2;cases h2
   | some a=>rw [e] at h2;cases h2;rfl
  obtain ⟨u,hu,rv⟩:=r.get ha
  have hp:ps[i]?=some y:=by
   rw [<- S.pre,List.getElem?_take_of_lt (by omega)];exact h1
  have ndP:ps.Nodup:=by rw [<- S.pre];exact S.nd.sublist (List.take_sublist _ _)
  refine ⟨u,rv,?_⟩
  rcases S.par y (yAY hp) with k | k
  .exact .inl ⟨k,bindL_get ndP hp hu k⟩
  .obtain ⟨c,e⟩:=ZB2 (n:=s.heap.objs.size+1) k
   refine .inr ⟨.inl k,c,e,?_⟩
   have q:=x.cell y c e
   rw [bindC_get ndP hp hu (by show scope.names.lookup y≠_;rw [k];decide)] at q
   exact q
 .exact e0.hok.fresh (Nat.le_of_lt (x.above y c (PySem.mem_of_lookup h)))
 .unfold start
  show _=N.length
  rw [yAD,yAA,List.length_replicate]
  omega
theorem fn_of {CX:CXT} {P:Program} {w:World} {K:W.Frag} {mg:Str->Option Value} {base:Heap} {k:Nat} {f:Addr} {name qual:Str} {params:Arguments} {body:List Stmt} {scope:Scope} {dV kV doc pm cdv ct oc:Value} {an od:Option Addr}
  {osl:Array (Option Value)} {N ps:List Str} {sp:Sp} (lk:K.lookup f=some ⟨oc,od,.func (W.fnOf name qual params body scope dV kV doc pm an cdv ct),osl⟩) (hcd:W.codeIn K cdv qual=true) (S:FnScope N ps scope)
  (len:∀ vs H Q E,sp vs H Q E->vs.length=ps.length)
  (hbody:∀ (A:Around) (outer:List Env) (s:Shared) (H:Hp) (vs:List V) (Q:VK) (E:XK),Room k (A.deeper (envOfC qual scope s.heap.objs.size f cdv))->sp vs H Q E ->
   ∃ t,PSs (cxOf CX P w K mg base N qual scope f cdv A outer s H E) body t /\ t { nx:=fun _ H'=>Q .non H',rt:=Q } (start N vs) H) :
  FnOk P w K mg base CX (k+1) f (W.fnOf name qual params body scope dV kV doc pm an cdv ct) ps sp:=by
 refine ⟨len,fun A outer s H args us vs Q E hr e0 hb r hsp=>?_⟩
 have hl:=len _ _ _ _ hsp
 have KX:K.In s.heap:=e0.mod.kin.keeps fun b o e=>(e0.bs b o e).1
 have lim:s.heap.NoLimit:=e0.mod.nolimit.keeps fun b o e=>(e0.bs b o e).1
 have hkind:∀ y∈ps.zip us,scope.names.lookup y.1=some .local∨(scope.names.lookup y.1=some .cell /\ ((cellsFrom (s.heap.objs.size+1) scope.names []).lookup y.1).isSome=true):=fun ⟨n,v⟩ hy=>by
  rcases S.par n (List.of_mem_zip hy).1 with q | q
  .exact .inl q
  .exact .inr ⟨q,PySem.W.cellsFrom_some _ _ _ (.inl q)⟩
 refine codeAny_call_function hr.depth (KX _ _ lk) rfl S.co S.gen rfl (PySem.W.codeRec_of KX hcd) (hb _ _ _ _ ?_)
 refine wpAny_newFunctionEnv_cells S.kind hkind fun env he s1 x=>?_
 subst he
 refine ⟨lim.keeps x.toInCall.keep,codeAny_func ?_⟩
 obtain ⟨t,ht,hq⟩:=hbody A outer s H vs Q E (hr.deeper _) hsp
 have I:Inv (cxOf CX P w K mg base N qual scope f cdv A outer s H E) [] (start N vs) H s1:=inv_start S hr.hd e0 hl r x
 refine wpAny_mono (ht [] s1 (start N vs) H _ I hq) (fun fl s' hs=>?_) fun e s' hs=>hs
 have fin:∀ {σ':St} {H':Hp} {v:V} {u:Value},Inv (cxOf CX P w K mg base N qual scope f cdv A outer s H E) [] σ' H' s'->RelV v u->Q v H'->CE outer P w H s Q u s' :=
  fun {σ' H' v u} J rv q=>⟨v,H',J.os,J.bare,J.base,J.hok,rv,q⟩
 cases fl with
 | ret u=>
  obtain ⟨v,σ',H',J,rv,q⟩:=hs
  exact fin J rv q
 | next=>
  obtain ⟨σ',H',J,q⟩:=hs
  exact fin (v:=V.non) (u:=Value.none) J rfl q
 | brk=>
  obtain ⟨_,_,_,q⟩:=hs
  exact False.elim q
 | cont=>
  obtain ⟨_,_,_,q⟩:=hs
  exact False.elim q
section
variable {X:Cx} {x:Str} {p pos:Pos} {e:Expr} {es:List Expr} {t:TA} {id T:String} {r:List V->Hp->VK->Prop}
noncomputable def tCB (r:List V->Hp->VK->Prop) (t:TA):TE:=fun σ H Q=>t σ H fun vs H1=>r vs H1 Q
theorem ZAI (hc:ZBH X (.builtin id) r) (hg:Gl X x) (hm:X.mg x=none) (hv:bootBuiltins x=some (.builtin id)) (ha:PA X (e::es) t) (hn:x≠"__name__":=by decide) (hdb:(x == ("__debug__":Str))=false:=by decide)
  (he:starEach (e::es) X.env=(false,eval e X.env)::starEach es X.env:=by rfl) (hpl:(backTo pos (starEach es X.env)).any (·.1)=false:=by rfl):PE X (.Call (.Name x p) (e::es) [] pos) (tCB r t):=by
 intro pins s σ H Q I h
 refine wpAny_Call_Name_kw (ZCH I hg hm hv ?_ hn hdb)
 exact PyProof.Rows.callWith_builtin1 (thn (ha pos pins s σ H _ I h) fun us s1 ⟨vs,H1,I1,r1,q1⟩=>hc pins s1 σ H1 vs us Q I1 r1 q1) he hpl
theorem ZAQ (hc:ZBH X (.type T) r) (hg:Gl X x) (hm:X.mg x=none) (hv:bootBuiltins x=some (.type T)) (ha:PA X (e::es) t) (hn:x≠"__name__":=by decide) (hdb:(x == ("__debug__":Str))=false:=by decide)
  (he:starEach (e::es) X.env=(false,eval e X.env)::starEach es X.env:=by rfl) (hpl:(backTo pos (starEach es X.env)).any (·.1)=false:=by rfl):PE X (.Call (.Name x p) (e::es) [] pos) (tCB r t):=by
 intro pins s σ H Q I h
 refine wpAny_Call_Name_kw (ZCH I hg hm hv ?_ hn hdb)
 exact PyProof.Rows.callWith_type1 (thn (ha pos pins s σ H _ I h) fun us s1 ⟨vs,H1,I1,r1,q1⟩=>hc pins s1 σ H1 vs us Q I1 r1 q1) he hpl
end
end L2
namespace HT
open PySem PyProof.Rows
section
open PySem.SeqAt
open PySem.AutoSeq1 (wpAny_loadPart')
open PySem.MeetsSeq PySem.MeetsSeq2 PySem.MeetsSeq3
end
section
variable {prog:Program} {w:World} {A:Around} {E:Value->Shared->Prop} {s:Shared}
noncomputable def sIx (n d:Nat):Option Int->Nat
 | none=>d
 | some v=>if v < 0 then (v+(n:Int)).toNat else min v.toNat n
theorem sIx_none (n d:Nat):sIx n d none=d:=rfl
theorem sIx_nat (n d k:Nat):sIx n d (some (k:Int))=min k n:=by
 show (if (k:Int) < 0 then ((k:Int)+(n:Int)).toNat else min (k:Int).toNat n)=min k n
 rw [if_neg (by omega),Int.toNat_natCast]
end
end HT
namespace L2
open PySem PySem.Spec PyProof.Rows
noncomputable abbrev TO:=St->Hp->(Option Int->Hp->Prop)->Prop
noncomputable def PO (X:Cx) (e:Option Expr) (t:TO):Prop :=
 ∀ (pins:List (Addr×Obj)) (s:Shared) (σ:St) (H:Hp) (Q:Option Int->Hp->Prop),Inv X pins σ H s->t σ H Q ->
  wpAny (model X.prog X.w) X.A (evalPart e X.env) (fun u s'=>∃ o H',Inv X pins σ H' s' /\ IsPart u o /\ Q o H') X.xe s
noncomputable def ZB9:TO:=fun _ H Q=>Q none H
noncomputable def ZCe (t:TE):TO:=fun σ H Q=>t σ H fun x H1=>∃ i,x=.int i /\ Q (some i) H1
theorem intsAre_of {ns:List Int}:∀ {us:List Value},Vals (ns.map V.int) us->IntsAre us ns:=by
 induction ns with
 | nil=>intro us r;rw [yAZ] at r;cases r;exact .nil
 | cons n ns ih=>
  intro us r
  rw [yAJ] at r
  cases r with
  | cons r1 r2=>
   obtain ⟨t,e⟩:=r1
   subst e
   exact .cons n t (ih r2)
section
variable {X:Cx} {e:Expr} {te:TE} {lo hi:Option Expr} {tl th:TO} {pos p2:Pos}
theorem ZBt:PO X none ZB9:=by
 intro pins s σ H Q I h
 rw [evalPart_none]
 exact wpAny_pure ⟨none,H,I,.none,h⟩
theorem ZBO (h:PE X e te):PO X (some e) (ZCe te):=by
 intro pins s σ H Q I hw
 rw [evalPart_some]
 refine thn (h pins s σ H _ I hw) fun u s1 zz=>?_
 obtain ⟨x,H1,I1,r1,q1⟩:=zz
 obtain ⟨i,rfl,q⟩:=q1
 obtain ⟨t,rfl⟩:=r1
 exact ⟨some i,H1,I1,.int i t,q⟩
noncomputable def SlR (X:Cx) (r:V->Option Int->Option Int->Hp->VK->Prop):Prop :=
 ∀ (pins:List (Addr×Obj)) (s:Shared) (σ:St) (H:Hp) (x:V) (v vl vu:Value) (lo hi:Option Int) (sl:Addr) (Q:VK),Inv X pins σ H s->RelV x v->s.heap.IsSliceOf sl vl vu .none->IsPart vl lo->IsPart vu hi->r x lo hi H Q ->
  ∃ T id,typeLookup (.type T) "__getitem__"=pure (some (.builtin id)) /\ s.TypeIs v T /\ wpAny (model X.prog X.w) X.A (getItem v (.ref sl)) (EP X pins σ Q) X.xe s
noncomputable def tSl (r:V->Option Int->Option Int->Hp->VK->Prop) (te:TE) (tl th:TO):TE:=fun σ H Q=>te σ H fun x H1=>tl σ H1 fun l H2=>th σ H2 fun u H3=>r x l u H3 Q
theorem ZBF {r:V->Option Int->Option Int->Hp->VK->Prop} (hr:SlR X r) (he:PE X e te) (hl:PO X lo tl) (hu:PO X hi th):PE X (.Subscript e (.Slice lo hi none p2) pos) (tSl r te tl th):=by
 intro pins s σ H Q I h
 refine Subscript_ (thn (he pins s σ H _ I h) fun v s1 zz=>?_)
 obtain ⟨x,H1,I1,r1,q1⟩:=zz
 refine wpAny_Slice (thn (hl pins s1 σ H1 _ I1 q1) fun vl s2 ⟨l,H2,I2,pl,q2⟩=>thn (hu pins s2 σ H2 _ I2 q2) fun vu s3 zz=>?_)
 obtain ⟨u,H3,I3,pu,q3⟩:=zz
 rw [evalPart_none]
 refine wpAny_pure ?_
 have I4:Inv X pins σ H3 { s3 with heap:=s3.heap.push { cls:=.type "slice",data:=.fields #[vl,vu,.none] } }:=I3.kept (t':=s3.toks) fun b ob q=>Heap.get?_push_of_some _ q
 obtain ⟨T,id,hT,ht,hg⟩:=hr pins { s3 with heap:=s3.heap.push { cls:=.type "slice",data:=.fields #[vl,vu,.none] } } σ H3 x v vl vu l u s3.heap.objs.size Q I4 r1 (Heap.IsSliceOf.new ..) pl pu q3
 show wpAny (model X.prog X.w) X.A (subscriptTail e (.Slice lo hi none p2) v (.ref s3.heap.objs.size)) (EP X pins σ Q) X.xe { s3 with heap:=s3.heap.push { cls:=.type "slice",data:=.fields #[vl,vu,.none] } }
 exact tail_any (ops:=[.ref s3.heap.objs.size,v]) ht hT hg (by with_unfolding_all rfl)
noncomputable def cutV (xs:List V) (lo hi:Option Int):List V:=(xs.drop (HT.sIx xs.length 0 lo)).take (HT.sIx xs.length xs.length hi-HT.sIx xs.length 0 lo)
theorem cutV_length (xs:List V) (lo hi:Option Int):(cutV xs lo hi).length <= xs.length:=by
 unfold cutV
 rw [yAQ,yAW]
 omega
end
noncomputable def ixN (n:Nat) (i:Int):Option Nat:=if 0 <= i then (if i < n then some i.toNat else none) else if -(n:Int) <= i then some (i+n).toNat else none
noncomputable def atI {α:Type} (xs:List α) (i:Int):Option α:=(ixN xs.length i).bind fun j=>xs[j]?
theorem ixN_seq {n:Nat} {i:Int} {j:Nat} (h:ixN n i=some j):seqIndex? i n=some j /\ j < n /\ -(n:Int) <= i /\ i < n:=by
 unfold ixN at h
 by_cases h0:0 <= i
 .rw [if_pos h0] at h
  by_cases h1:i < n
  .rw [if_pos h1] at h
   have e:i.toNat=j:=Option.some.inj h
   exact ⟨by rw [seqIndex_of h0 h1,e],by omega,by omega,h1⟩
  .rw [if_neg h1] at h;cases h
 .rw [if_neg h0] at h
  by_cases h1:-(n:Int) <= i
  .rw [if_pos h1] at h
   have e:(i+n).toNat=j:=Option.some.inj h
   exact ⟨by rw [seqIndex_neg (by omega) h1,e],by omega,h1,by omega⟩
  .rw [if_neg h1] at h;cases h
theorem atI_get {α:Type} {xs:List α} {i:Int} {v:α} (h:atI xs i=some v):∃ j,seqIndex? i xs.length=some j /\ xs[j]?=some v /\ j < xs.length /\ -(xs.length:Int) <= i /\ i < xs.length:=by
 unfold atI at h
 cases e:ixN xs.length i with
 | none=>rw [e] at h;cases h
 | some j=>
  rw [e] at h
  obtain ⟨h1,h2,h3,h4⟩:=ixN_seq e
  exact ⟨j,h1,h,h2,h3,h4⟩
theorem atI_nat {α:Type} {xs:List α} {j:Nat} {v:α} (h:xs[j]?=some v):atI xs (j:Int)=some v:=by
 have hj:j < xs.length:=(yAT.mp h).1
 have e:ixN xs.length (j:Int)=some j:=by
  unfold ixN
  rw [if_pos (by omega),if_pos (by omega)];simp
 unfold atI;rw [e];exact h
noncomputable def PlainIx (b:Expr):Prop:=∀ o i,subscripted b false o i=operate [o,i] (getItem o i)
noncomputable def IxR (X:Cx) (r:R2):Prop :=
 ∀ (value slice:Expr) (pins:List (Addr×Obj)) (s:Shared) (σ:St) (H:Hp) (x y:V) (v u:Value) (Q:VK),Inv X pins σ H s->RelV x v->RelV y u->r x y H Q ->
  subscripted slice false v u=operate [v,u] (getItem v u)->wpAny (model X.prog X.w) X.A (subscriptTail value slice v u) (EP X pins σ Q) X.xe s
noncomputable def MtR (X:Cx) (id:String) (r:V->List V->Hp->VK->Prop):Prop :=
 ∀ (pins:List (Addr×Obj)) (s:Shared) (σ:St) (H:Hp) (x:V) (xs:List V) (v:Value) (us:List Value) (Q:VK),Inv X pins σ H s->RelV x v->Vals xs us->r x xs H Q ->
  wpAny (model X.prog X.w) X.A (call (.builtin id) (v::us)) (EP X pins σ Q) X.xe s
section
variable {X:Cx} {a b:Expr} {ta tb:TE} {pos:Pos}
theorem ZBi {r:R2} (hr:IxR X r) (ha:PE X a ta) (hb:PE X b tb) (hs:PlainIx b):PE X (.Subscript a b pos) (tOp r ta tb):=by
 intro pins s σ H Q I h
 exact Subscript_ (binT ha hb I h fun v u s2 x y H2 I2 rx ry q=>hr a b pins s2 σ H2 x y v u Q I2 rx ry q (hs _ _))
noncomputable def rIxL (K:W.Frag):R2:=fun x y H Q=>∃ p xs i v,x=.ref p /\ y=.int i /\ SqL K H p xs /\ atI xs i=some v /\ Q v H
theorem ZAl:IxR X (rIxL X.K):=by
 intro value slice pins s σ H x y v u Q I rx ry h hs
 obtain ⟨p,xs,i,z,rfl,rfl,hq,he,q⟩:=h
 cases rx
 obtain ⟨t,rfl⟩:=ry
 obtain ⟨its,r,pl,hz⟩:=I.list hq
 obtain ⟨j,h1,h2,h3,h4,h5⟩:=atI_get he
 obtain ⟨w,ew,rw'⟩:=r.get h2
 have hl:=r.length
 have hn:=ZCU
 have fin:EP X pins σ Q w s:=⟨z,H,I,rw',q⟩
 by_cases h0:0 <= i
 .have hj:i.toNat=j:=by
   rw [seqIndex_of h0 h5] at h1
   exact Option.some.inj h1
  exact item_listR pl.isList h0 (by omega) (by rw [hj];simpa using ew) fin hs
 .have hj:(i+(its.toArray.size:Int)).toNat=j:=by
   rw [seqIndex_neg (by omega) h4] at h1
   rw [yAF,<- hl]
   exact Option.some.inj h1
  exact subscriptTail_builtinR (x:=w) pl.isList.typeIs slot_list_getitem.lookup
   (wpAny_getItem_list_neg (Q:=fun r s'=>r=w /\ EP X pins σ Q r s') pl.isList (by omega) (by rw [yAF] <;> omega) (by omega) (by rw [hj];simpa using ew) ⟨rfl,fin⟩) hs
theorem slice_bounds (lo hi:Option Int) (n:Nat):(sliceBounds lo hi none n).1=((HT.sIx n 0 lo:Nat):Int) /\ (sliceBounds lo hi none n).2.1=((HT.sIx n n hi:Nat):Int) /\ (sliceBounds lo hi none n).2.2=1:=by
 refine ⟨?_,?_,rfl⟩
 .cases lo with
  | none=>simp [sliceBounds,HT.sIx]
  | some i=>
   simp only [sliceBounds,HT.sIx,Option.getD_none,show (1:Int) > 0 by decide,if_true]
   by_cases h:i < 0
   .simp only [h,if_true] <;> omega
   .simp only [h,if_false] <;> omega
 .cases hi with
  | none=>simp [sliceBounds,HT.sIx]
  | some i=>
   simp only [sliceBounds,HT.sIx,Option.getD_none,show (1:Int) > 0 by decide,if_true]
   by_cases h:i < 0
   .simp only [h,if_true] <;> omega
   .simp only [h,if_false] <;> omega
theorem slicePick_cut (its:List Value) (lo hi:Option Int):slicePick its.toArray lo hi none=((its.drop (HT.sIx its.length 0 lo)).take (HT.sIx its.length its.length hi-HT.sIx its.length 0 lo)).toArray:=by
 obtain ⟨h1,h2,h3⟩:=slice_bounds lo hi its.toArray.size
 unfold slicePick
 rw [h1,h2,h3]
 simp only [sliceRange_one,pick_run,yAF] <;> rfl
noncomputable def rSlL (K:W.Frag):V->Option Int->Option Int->Hp->VK->Prop:=fun x lo hi H Q=>∃ a xs,x=.ref a /\ SqL K H a xs /\ ∀ p,H p=none->Q (.ref p) (upd H p (.lst (cutV xs lo hi)))
theorem ZBb:SlR X (rSlL X.K):=by
 intro pins s σ H x v vl vu lo hi sl Q I rx hs pl pu h
 obtain ⟨a,xs,rfl,hx,q⟩:=h
 cases rx
 obtain ⟨its,r,ht,hz⟩:=I.list hx
 have hlen:=r.length
 refine ⟨"list",_,slot_list_getitem.lookup,ht.isList.typeIs,?_⟩
 refine wpAny_getItem_list_slice ht.isList hs pl pu .none (by simp) ?_ (by rw [yAF] <;> omega)
 rw [slicePick_cut,<- hlen]
 refine ⟨.ref s.heap.objs.size,_,I.laid (t':=s.toks) (o:=.lst (cutV xs lo hi)) (fun b ob q=>Heap.get?_push_of_some _ q) (yAB _) ?_,rfl,q _ (I.hok.fresh (yAB _))⟩
 exact ⟨yAC (cutV_length xs lo hi) hz,_,0,(r.drop (HT.sIx xs.length 0 lo)).take (HT.sIx xs.length xs.length hi-HT.sIx xs.length 0 lo),Heap.get?_push_size _ rfl⟩
theorem ZAR:ZBH X (.builtin "len") (fun xs H Q=>∃ p ys,xs=[.ref p] /\ (SqL X.K H p ys∨SqT X.K H p ys) /\ Q (.int ys.length) H):=by
 intro pins s σ H xs us Q I r h
 obtain ⟨p,ys,rfl,hq,q⟩:=h
 obtain ⟨u,rfl,rx⟩:=ZBV r
 cases rx
 have hn:=ZCU
 rcases hq with hq | hq
 .obtain ⟨its,r',pl,hz⟩:=I.list hq
  have hlen:=r'.length
  exact Calls.call_len_list pl.isList (by simp only [yAF] <;> omega) ⟨.int ys.length,H,I.tok _,⟨s.toks+1,by rw [yAF,hlen]⟩,q⟩
 .obtain ⟨its,r',pl,hz⟩:=I.tuple hq
  have hlen:=r'.length
  exact len_tuple pl (by simp only [yAF] <;> omega) ⟨.int ys.length,H,I.tok _,⟨s.toks+1,by rw [yAF,hlen]⟩,q⟩
theorem ZA4:ZBH X (.builtin "len") (fun xs H Q=>∃ z,xs=[.str z] /\ z.length <= sizeLine /\ Q (.int z.length) H):=by
 intro pins s σ H xs us Q I r h
 obtain ⟨z,rfl,hz,q⟩:=h
 obtain ⟨u,rfl,t,rfl⟩:=ZBV r
 have hn:=ZCU
 exact len_str (by omega) ⟨.int z.length,H,I.tok _,⟨_,rfl⟩,q⟩
theorem call_list_of:ZBH X (.type "list") (fun xs H Q=>∃ p ys,xs=[.ref p] /\ (SqL X.K H p ys∨SqT X.K H p ys) /\ ∀ l,H l=none->Q (.ref l) (upd H l (.lst ys))):=by
 intro pins s σ H xs us Q I r h
 obtain ⟨p,ys,rfl,hq,q⟩:=h
 obtain ⟨u,rfl,rx⟩:=ZBV r
 cases rx
 have fin:∀ (its:List Value),Vals ys its->ys.length <= sizeLine->∀ (h':Heap) (c':Nat),(∀ b o',s.heap.get? b=some o'->h'.get? b=some o') ->
   h'.get? s.heap.objs.size=some { cls:=.type "list",dict:=none,data:=.seq its.toArray c',slots:=#[] }->EP X pins σ Q (.ref s.heap.objs.size) { s with heap:=h' }:=fun its r' hz h' c' kp e=>
  ⟨.ref s.heap.objs.size,_,I.laid (t':=s.toks) kp (yAB _) (show ObjOk X.prog X.w _ h' _ (.lst ys) from ⟨hz,its,c',r',e⟩),rfl,q _ (I.hok.fresh (yAB _))⟩
 rcases hq with hq | hq
 .obtain ⟨its,r',pl,hz⟩:=I.list hq
  have hlen:=r'.length
  obtain ⟨o,ho,hc,n,hd⟩:=pl.isList
  exact call_list_seq p (.inl rfl) ho hc hd (fun h' c' kp e=>fin its r' hz h' c' kp e) (by simp only [yAF] <;> omega)
 .obtain ⟨its,r',pl,hz⟩:=I.tuple hq
  have hlen:=r'.length
  obtain ⟨o,ho,hc,n,hd⟩:=pl
  exact call_list_seq p (.inr rfl) ho hc hd (fun h' c' kp e=>fin its r' hz h' c' kp e) (by simp only [yAF] <;> omega)
theorem call_tuple_of:ZBH X (.type "tuple") (fun xs H Q=>∃ p ys,xs=[.ref p] /\ ((SqL X.K H p ys /\ ∀ l,H l=none->Q (.ref l) (upd H l (.tup ys)))∨(SqT X.K H p ys /\ Q (.ref p) H))):=by
 intro pins s σ H xs us Q I r h
 obtain ⟨p,ys,rfl,h⟩:=h
 obtain ⟨u,rfl,rx⟩:=ZBV r
 cases rx
 rcases h with ⟨hq,q⟩ | ⟨hq,q⟩
 .obtain ⟨its,r',pl,hz⟩:=I.list hq
  have hlen:=r'.length
  refine call_tuple_list pl.isList (fun h' kp=>?_) (by simp only [yAF] <;> omega)
  have I1:Inv X pins σ H { s with heap:=h' }:=I.kept (t':=s.toks) kp
  have I2:Inv X pins σ (upd H h'.objs.size (.tup ys)) { s with heap:=h'.push { cls:=.type "tuple",data:=.seq its.toArray } } :=
   I1.laid (t':=s.toks) (fun b o e=>Heap.get?_push_of_some _ e) (yAB _) (show ObjOk X.prog X.w _ _ _ (.tup ys) from ⟨hz,its,r',IsTup.new _ _⟩)
  exact ⟨.ref h'.objs.size,_,I2,rfl,q _ (I1.hok.fresh (yAB _))⟩
 .obtain ⟨its,r',pl,hz⟩:=I.tuple hq
  exact call_tuple_same pl ⟨.ref p,H,I,rfl,q⟩
noncomputable def tyV (K:W.Frag) (T:String) (x:V) (H:Hp):Prop:=match x with
 | .str _=>T="str"
 | .int _=>T="int"
 | .ref p=>(T="list" /\ ∃ xs,SqL K H p xs)∨(T="tuple" /\ ∃ o,K.lookup p=some o /\ o.cls=.type "tuple" /\ o.dict=none) ∨
   (T="dict" /\ ((∃ kvs,H p=some (.dK kvs))∨∃ kvs,H p=some (.dT kvs)))∨(T="set" /\ ∃ S n,H p=some (.set S n))
 | _=>False
theorem tyV_is {pins:List (Addr×Obj)} {σ:St} {H:Hp} {s:Shared} {T:String} {x:V} {v:Value} (I:Inv X pins σ H s) (r:RelV x v) (ty:tyV X.K T x H) :
  s.TypeIs v T /\ ∀ a,v=.ref a->∃ ob,s.heap.get? a=some ob /\ ob.dict=none:=by
 cases x with
 | str z=>
  obtain ⟨t,rfl⟩:=r
  cases (show T="str" from ty)
  exact ⟨typeIs_str s z t,fun _ e=>nomatch e⟩
 | int i=>
  obtain ⟨t,rfl⟩:=r
  cases (show T="int" from ty)
  exact ⟨typeIs_int s i t,fun _ e=>nomatch e⟩
 | ref p=>
  cases r
  rcases ty with ⟨rfl,xs,hq⟩ | ⟨rfl,o,hk,hc,hd⟩ | ⟨rfl,hk⟩ | ⟨rfl,S,n,hk⟩
  .obtain ⟨its,_,pl,_⟩:=I.list hq
   refine ⟨pl.isList.typeIs,fun a e=>?_⟩
   cases e
   obtain ⟨o,n,e,c,hd,_⟩:=pl
   exact ⟨o,e,hd⟩
  .refine ⟨⟨o,I.kIn p o hk,hc⟩,fun a e=>?_⟩
   cases e
   exact ⟨o,I.kIn _ o hk,hd⟩
  .have z:∃ o,s.heap.get? p=some o /\ o.ExactDict:=by
    rcases hk with ⟨kvs,hk⟩ | ⟨kvs,hk⟩
    .obtain ⟨_,_,_,_,o,_,_,e,ex,_⟩:=I.hok p _ hk
     exact ⟨o,e,ex⟩
    .obtain ⟨_,_,_,_,o,_,_,e,ex,_⟩:=I.hok p _ hk
     exact ⟨o,e,ex⟩
   obtain ⟨o,e,ex⟩:=z
   refine ⟨⟨o,e,ex.1⟩,fun a e2=>?_⟩
   cases e2
   exact ⟨o,e,ex.2.1⟩
  .obtain ⟨o,_,_,_,e,ex,_⟩:=I.hok p _ hk
   refine ⟨⟨o,e,ex.1⟩,fun a e2=>?_⟩
   cases e2
   exact ⟨o,e,ex.2.1⟩
 | _=>exact False.elim ty
noncomputable def tBM0 (K:W.Frag) (T:String) (r:V->List V->Hp->VK->Prop) (to:TE):TE:=fun σ H Q=>to σ H fun x H1=>tyV K T x H1 /\ r x [] H1 Q
noncomputable def tBM (K:W.Frag) (T:String) (r:V->List V->Hp->VK->Prop) (to:TE) (t:TA):TE:=fun σ H Q=>to σ H fun x H1=>tyV K T x H1 /\ t σ H1 fun xs H2=>r x xs H2 Q
variable {o e:Expr} {es:List Expr} {to:TE} {t:TA} {name:Str} {apos cpos:Pos} {T id:String} {r:V->List V->Hp->VK->Prop}
theorem ZCZ (pa:PlainAttrs T) (slot:Slot T name id) (hty:typeOf (.builtin id)=pure (.type "method_descriptor")) (hm:MtR X id r) (ho:PE X o to) (ha:PA X (e::es) t)
  (hbase:attributeBase o name X.env (eval o X.env)=eval o X.env:=by rfl)
  (hfew:((backTo cpos (starEach (e::es) X.env)).all (fun x=>!x.1) && (backToKw cpos (keywordEach [] X.env)).all (fun x=>x.1.isSome)
   && decide ((e::es).length+([]:List Keyword).length+(if ([]:List Keyword).isEmpty then 0 else 1) < 30))=true:=by rfl)
  (hline:(apos.endLine == cpos.line)=true:=by rfl) (hs:starEach (e::es) X.env=(false,eval e X.env)::starEach es X.env:=by rfl) (hplain:(backTo cpos (starEach es X.env)).any (·.1)=false:=by rfl) :
  PE X (.Call (.Attribute o name apos) (e::es) [] cpos) (tBM X.K T r to t):=by
 intro pins s σ H Q I h
 refine wpAny_Call_method_late hbase hfew hline rfl (thn (ho pins s σ H _ I h) fun v s1 zz=>?_)
 obtain ⟨x,H1,I1,r1,ty,q1⟩:=zz
 obtain ⟨h1,h2⟩:=tyV_is I1 r1 ty
 refine ⟨T,id,pa,slot,hty,h1,h2,?_⟩
 have hA:=ha cpos pins s1 σ H1 _ I1 q1
 rw [hs] at hA ⊢
 refine Calls.callWith_builtin (by show (false || (backTo cpos (starEach es X.env)).any (·.1))=false;rw [hplain] <;> rfl) (Calls.evalArgs_plain ?_)
 exact thn hA fun us s2 ⟨vs,H2,I2,r2,q2⟩=>hm pins s2 σ H2 x vs v us Q I2 r1 r2 q2
end
noncomputable def MtM (X:Cx) (id:String) (r:V->List V->Hp->VK->Prop):Prop :=
 ∀ (pins:List (Addr×Obj)) (s:Shared) (σ:St) (H:Hp) (x:V) (xs:List V) (v:Value) (us:List Value) (Q:VK),Inv X pins σ H s->RelV x v->Vals xs us->r x xs H Q ->
  wpAny (model X.prog X.w) X.A (call (.builtin id) (v::us)) (EP X pins σ Q) X.xe s
theorem Vals.two {x y:V} {us:List Value} (r:Vals [x,y] us):∃ u v,us=[u,v] /\ RelV x u /\ RelV y v:=ZCc r
section
variable {X:Cx} {pins:List (Addr×Obj)} {σ:St} {H:Hp} {s:Shared} {l b:Addr} {xs ys zs:List V}
theorem Inv.lset {its its':List Value} {n:Nat} {f:Array Value->Array Value} {t':Nat} (I:Inv X pins σ H s) (hH:H l=some (.lst xs))
  (e:s.heap.get? l=some { cls:=.type "list",data:=.seq its.toArray n }) (hf:f its.toArray=its'.toArray) (hv:Vals ys its') (hz:ys.length <= sizeLine) :
  Inv X pins σ (upd H l (.lst ys)) { s with heap:=s.heap.update l (Obj.mapSeq f),toks:=t' }:=by
 have q:=PySem.IsL.update e f
 rw [hf] at q
 refine I.write (x:=l) (e:=l) (by rw [hH];exact trivial) (.inl rfl) (fun b' u hb hu=>(Heap.get?_update_other s.heap (Obj.mapSeq f) (Ne.symm hb)).trans hu) ⟨_,q⟩ ?_
 exact ⟨hz,its',_,hv,q⟩
theorem Inv.lnew {its:List Value} {t':Nat} (I:Inv X pins σ H s) (hv:Vals ys its) (hz:ys.length <= sizeLine) :
  Inv X pins σ (upd H s.heap.objs.size (.lst ys)) { s with heap:=s.heap.push { cls:=.type "list",data:=.seq its.toArray },toks:=t' } :=
 I.laid (fun _ _ q=>Heap.get?_push_of_some _ q) (yAB _) ⟨hz,its,0,hv,Heap.get?_push_size _ rfl⟩
theorem Inv.fresh (I:Inv X pins σ H s):H s.heap.objs.size=none:=I.hok.fresh (yAB _)
theorem Inv.lstM (I:Inv X pins σ H s) (hH:H l=some (.lst xs)):xs.length <= sizeLine /\ ∃ (its:List Value) (n:Nat),Vals xs its /\ xs.length=its.length /\ s.heap.get? l=some { cls:=.type "list",data:=.seq its.toArray n }:=by
 obtain ⟨z,its,n,r,e⟩:=I.hok l _ hH
 exact ⟨z,its,n,r,r.length,e⟩
end
section
variable {X:Cx}
noncomputable def rCat:R2:=fun x y H Q=>∃ l b xs zs,x=.ref l /\ y=.ref b /\ H l=some (.lst xs) /\ H b=some (.lst zs) /\ xs.length+zs.length <= sizeLine /\ ∀ p,H p=none->Q (.ref p) (upd H p (.lst (xs++zs)))
theorem ZCG:OpR X (binaryOp .Add) rCat:=by
 intro pins s σ H x y v u Q I rx ry h
 obtain ⟨l,b,xs,zs,rfl,rfl,hH,hB,hz,q⟩:=h
 cases rx
 cases ry
 obtain ⟨z,its,n,r,hl,e⟩:=I.lstM hH
 obtain ⟨z2,its2,n2,r2,hl2,e2⟩:=I.lstM hB
 refine PySem.P.add_list e e2 ?_ (by rw [yAF,yAF];omega)
 have ea:its.toArray++its2.toArray=(its++its2).toArray:=by simp
 rw [ea]
 exact ⟨.ref _,_,I.lnew (t':=s.toks) (r.append r2) (by rw [yAD];omega),rfl,q _ I.fresh⟩
end
section
variable {prog:Program} {w:World} {A:Around} {E:Value->Shared->Prop} {s:Shared}
set_option maxRecDepth 100000 in
end
section
variable {X:Cx}
end
end L2
namespace Att
open PySem PySem.W PySem.Calls PyProof.Rows
theorem ints_of_wellAll {P:Params} {h:Heap}:∀ (ns:List Int) (vs:List Value),WellAll P h vs (ns.map WData.int)->IntsAre vs ns:=by
 intro ns
 induction ns with
 | nil=>
  intro vs w
  rw [yAZ] at w
  cases w
  exact .nil
 | cons n ns ih=>
  intro vs w
  rw [yAJ] at w
  cases w with
  | cons a b=>
   cases a
   exact .cons _ _ (ih _ b)
theorem script_of {l:OpenLaw} {n:Nat} (hn:l.most=some n) {P:Params} {h:Heap} {args:List WData} {vals:List Value}
  (hpre:l.row.toRowW.claim.pre args=true) (hwl:WellAll P h vals args) :
  ∃ a vs ns,vals=[Value.ref a] /\ args=[WData.list (ns.map WData.int)] /\ h.get? a=some { cls:=.type "list",data:=.seq vs.toArray } /\ IntsAre vs ns /\ ns.length <= n:=by
 have hsh:WShape.hasAll [] args [.list .int]=true:=(pre_splitW hpre).1
 have hc:l.pre.holds [] { args:=args }=true:=(pre_splitW hpre).2
 obtain ⟨d,r,rfl,h1,h2⟩:=hasAllW_cons hsh
 obtain rfl:=hasAllW_nil h2
 obtain ⟨xs,rfl,h3⟩:=hasW_list h1
 obtain ⟨ns,rfl⟩:=items_int h3
 have hlen:ns.length <= n:=by
  unfold OpenLaw.pre at hc
  have h4:(WTm.not (.lt (.lit (.int (n:Int))) (.len (.arg 0)))).holds [] { args:=[.list (ns.map .int)] }=true:=by
   have h4:=(holds_andW hc).1
   rw [hn] at h4
   exact h4
  have h5:=condW_of h4 (w_not (w_lt w_lit (w_len_list (w_arg rfl))))
  rw [yAA] at h5
  refine Nat.le_of_not_lt fun q=>?_
  have q':(n:Int) < ((ns.length:Nat):Int):=by omega
  first
   | (rw [decide_eq_true q'] at h5;exact absurd h5 (by decide))
   | (simp at h5;omega)
 cases hwl with
 | cons w1 w2=>
  cases w2
  cases w1 with
  | list ho hall=>exact ⟨_,_,ns,rfl,rfl,ho,ints_of_wellAll ns _ hall,hlen⟩
theorem post_true (l:OpenLaw) (args:List WData):l.row.toRowW.claim.post args (.bool true) args=true :=
 postW_of (r:=l.row.toRowW) (X:=(true == true))
  (show WShape.has [] (.bool true) .bool=true by first | rfl | decide | simp [WShape.has,WShape.arms,WShape.armsAll])
  (show (WTm.eq .res (.lit (.bool true))).value [] { args:=args,res:=some (.bool true),after:=args }=some (.bool (true == true)) from w_eq_bool (w_res rfl) w_lit) rfl
theorem attach_call {l:OpenLaw} {n:Nat} {q:Program} {loose:List Str} {XP:(Str->Option Value)->Heap->Prop} {YP:World->Heap->Prop} {d:DefRec}
  (hn:l.most=some n) (hdf:d.params.defaults=[])
  (call:∀ (w:World) (s₀ s₁:Shared) (mg mb:Str->Option Value) (fa:Addr) (o:Obj) (pm cd doc:Value) (a:Addr) (vs:List Value) (ns:List Int),
   Ground q loose [] XP w s₀ mg mb s₁.heap->YP w s₁.heap ->
   s₁.heap.get? fa=some o->o.data=.func (docDef d.name d.params d.body d.scope pm cd doc)->s₁.heap.CodeRec cd d.name->mg d.name=some (.ref fa) ->
   s₁.heap.get? a=some { cls:=.type "list",data:=.seq vs.toArray }->IntsAre vs ns->ns.length <= n->s₁.gens=#[] ->
   codeAny (model l.prog w) callerA (.call (.ref fa) ⟨[.ref a],[]⟩) (fun r s'=>r=.ok (.ret (.bool true)) /\ OldK s₁.heap s'.heap /\ s'.os=s₁.os /\ AllBare s'.gens) s₁) :
  WalkO q loose XP YP l.row.toRowW d [] (fun f vs=>PySem.call f vs):=by
 intro w s₀ s₁ mg mb G Y fa o pm cd doc dV kV ho hd hcd hD hmg hg args vals as hpre hlay hrd hwl hlo
 obtain rfl:dV=.none:=Dflts.none hD hdf
 obtain rfl:kV=.none:=Dflts.noKw hD
 obtain ⟨a,vs,ns,rfl,rfl,hobj,hints,hlen⟩:=script_of hn hpre hwl
 refine enter_call (codeAny_mono (call w s₀ s₁ mg mb fa o pm cd doc a vs ns G Y ho (fd_plain hd) hcd hmg hobj hints hlen hg) fun r s' hq=>?_)
 obtain ⟨rfl,h2,h3,h4⟩:=hq
 exact ⟨.inl ⟨.bool true,.bool true,[],rfl,fun _=>rfl,.bool true,post_true l _,fun _=>⟨List.Pairwise.nil,fun _ hm=>(nomatch hm)⟩⟩,h2,h3,h4⟩
section
variable {prog:Program} {w:World} {A:Around} {E:Value->Shared->Prop} {s:Shared} {K:Frag}
end
end Att
namespace L2
open PySem PySem.Spec PyProof.Rows
theorem ZBU:∀ {vs:List Value} {ns:List Int},IntsAre vs ns->Vals (ns.map V.int) vs
 | _,_,.nil=>.nil
 | _,_,.cons n t h=>.cons ⟨t,rfl⟩ (ZBU h)
noncomputable def Only (H:Hp):Prop:=∀ b,H b=none∨∃ o xs,H b=some (.frz o (.lst xs))
theorem law_call {P:Program} {w:World} {K:W.Frag} {mg mb:Str->Option Value} {CX:CXT} {k:Nat} {fa a:Addr} {fd:FuncData} {x:Str} {sp:Sp} {s₁:Shared} {vs:List Value} {ns:List Int}
  (KX:K.In s₁.heap) (hns:s₁.heap.Ns mainGlobals mg) (hb:s₁.heap.Ns builtinsNs mb) (hbb:∀ x:Str,x≠"__name__"->mb x=bootBuiltins x) (hlim:s₁.heap.NoLimit) (hg:s₁.gens=#[])
  (ha:s₁.heap.get? a=some { cls:=.type "list",data:=.seq vs.toArray }) (hi:IntsAre vs ns) (hl:ns.length <= sizeLine) (hr:Room k callerA)
  (F:∀ base:Heap,K.In base->base.Ns mainGlobals mg->FnOk P w K mg base CX k fa fd [x] sp) (hbind:∀ (s:Shared) (u:Value),BindsTo s fd ⟨[u],[]⟩ [(x,u)])
  (hsp:∀ H:Hp,Only H->SqL K H a (ns.map V.int)->sp [.ref a] H (fun v _=>v=.bl true) fun _ _ _=>False)
  (hCX:∀ H e s',CX [] H s₁ (fun _ _ _=>False) e s'->False) :
  codeAny (model P w) callerA (.call (.ref fa) ⟨[.ref a],[]⟩) (fun r s'=>r=.ok (.ret (.bool true)) /\ OldK s₁.heap s'.heap /\ s'.os=s₁.os /\ AllBare s'.gens) s₁:=by
 have rv:=ZBU hi
 have lenV:=hi.length
 have core:∀ H:Hp,Only H->SqL K H a (ns.map V.int)->HOk P w H s₁.heap->(∀ b,H b≠none->b=a)->(H a≠none->K.lookup a=none) ->
   codeAny (model P w) callerA (.call (.ref fa) ⟨[.ref a],[]⟩) (fun r s'=>r=.ok (.ret (.bool true)) /\ OldK s₁.heap s'.heap /\ s'.os=s₁.os /\ AllBare s'.gens) s₁:=by
  intro H hO hS hok hA hK
  have base_of:∀ {b:Addr} {o:Obj},s₁.heap.get? b=some o->H b=none->(hidT s₁.heap H).get? b=some o:=fun e n=>hidT_get e n
  have noA:∀ {b:Addr} {o:Obj} {es:Array DictEntry} {ep:Nat},s₁.heap.get? b=some o->o.data=.dict es ep->H b=none:=fun {b o es ep} e d=>by
   cases q:H b with
   | none=>rfl
   | some u=>
    have e':b=a:=hA b (by rw [q];simp)
    subst e'
    rw [ha] at e;cases e
    have d':Data.seq vs.toArray _=Data.dict es ep:=d
    cases d'
  have nsK:∀ {b:Addr} {m:Str->Option Value},s₁.heap.Ns b m->(hidT s₁.heap H).Ns b m:=fun {b m} ⟨o,es,ep,e,d,r⟩=>⟨o,es,ep,base_of e (noA e d),d,r⟩
  have hKb:K.In (hidT s₁.heap H):=fun b o e=>base_of (KX b o e) (by
   cases q:H b with
   | none=>rfl
   | some u=>
    have e':b=a:=hA b (by rw [q];simp)
    subst e'
    rw [hK (by rw [q];simp)] at e;cases e)
  have hM:Mod K mg (hidT s₁.heap H):=⟨hKb,nsK hns,⟨mb,nsK hb,hbb⟩,let ⟨mc,h1,h2⟩:=hlim;⟨mc,nsK h1,h2⟩⟩
  have e0:Env0 P w K mg (hidT s₁.heap H) callerA [] s₁ H:=⟨rfl,hM,fun b o e=>of_hidT e,Nat.le_of_eq (hidT_size _ _),trivial,fun b hb=>absurd (show b∈([]:List Addr) from hb) (by simp),hok,.of_eq hg⟩
  refine codeAny_mono ((F _ hKb (nsK hns)).run callerA [] s₁ H ⟨[.ref a],[]⟩ [.ref a] [.ref a] _ _ hr e0 (hbind s₁ (.ref a)) (.cons rfl .nil) (hsp H hO hS)) fun r s' h=>?_
  cases r with
  | error e=>exact (hCX H e s' h).elim
  | ok fl=>
   cases fl with
   | next=>exact False.elim h
   | brk=>exact False.elim h
   | cont=>exact False.elim h
   | ret u=>
    obtain ⟨v,H',os,bare,un,hok',r',q⟩:=h
    have q':v=.bl true:=q
    subst q'
    obtain rfl:u=Value.bool true:=r'
    refine ⟨rfl,OldK.of_keep fun b o e=>?_,os,bare⟩
    cases q:H b with
    | none=>exact un.keep b o e q (by intro z;exact absurd (show b∈([]:List Addr) from z) (by simp)) (by simp)
    | some u=>
     rcases hO b with z | ⟨ob,xs,z⟩
     .rw [q] at z;cases z
     .have z2:=un.frzs b ob _ z
      obtain ⟨e1,_⟩:=hok b _ z
      obtain ⟨e2,_⟩:=hok' b _ z2
      rw [e] at e1;cases e1
      exact e2
 cases hk:K.lookup a with
 | some o=>
  have e:=KX a o hk
  rw [ha] at e
  cases e
  refine core (fun _=>none) (fun _=>.inl rfl) (.inr ⟨_,vs.toArray,_,hk,rfl,rfl,rfl,by rw [yAF,lenV];exact hl,by simpa using rv⟩) (fun b u z=>by have z':(none:Option HO)=some u:=z;cases z') (fun b z=>absurd rfl z) fun z=>absurd rfl z
 | none=>
  refine core (fun b=>if b=a then some (.frz { cls:=.type "list",data:=.seq vs.toArray } (.lst (ns.map V.int))) else none) (fun b=>?_) (.inl (.inr ⟨{ cls:=.type "list",data:=.seq vs.toArray },if_pos rfl⟩)) (fun b u z=>?_) (fun b z=>?_) fun _=>hk
  .by_cases hb:b=a
   .exact .inr ⟨_,_,if_pos hb⟩
   .exact .inl (if_neg hb)
  .by_cases hb:b=a
   .have z':=(if_pos hb).symm.trans z
    cases z'
    subst hb
    exact ⟨ha,by rw [yAA];exact hl,vs,_,rv,ha⟩
   .have z':=(if_neg hb).symm.trans z
    cases z'
  .by_cases hb:b=a
   .exact hb
   .exact absurd (if_neg hb) z
theorem walk_of {l:PySem.W.OpenLaw} {n k:Nat} {q:Program} {loose:List Str} {XP:(Str->Option Value)->Heap->Prop} {YP:World->Heap->Prop} {d:DefRec} {K:Params->W.Frag} {CX:World->CXT} {sp:World->Sp} {x:Str}
  (hn:l.most=some n) (hn2:n <= sizeLine) (hdf:d.params.defaults=[]) (hr:Room k callerA)
  (hY:∀ (w:World) (h:Heap),YP w h->(K w.params).In h)
  (F:∀ (w:World) (mg:Str->Option Value) (fa:Addr) (h:Heap),(K w.params).In h->h.Ns mainGlobals mg->mg d.name=some (.ref fa) ->
   ∃ fd:FuncData,(∀ (s:Shared) (u:Value),BindsTo s fd ⟨[u],[]⟩ [(x,u)]) /\
    ∀ base:Heap,(K w.params).In base->base.Ns mainGlobals mg->FnOk l.prog w (K w.params) mg base (CX w) k fa fd [x] (sp w))
  (hsp:∀ (w:World) (H:Hp) (a:Addr) (ns:List Int),ns.length <= n->Only H->SqL (K w.params) H a (ns.map V.int)->sp w [.ref a] H (fun v _=>v=.bl true) fun _ _ _=>False)
  (hCX:∀ (w:World) (H:Hp) (s:Shared) (e:Value) (s':Shared),CX w [] H s (fun _ _ _=>False) e s'->False) :
  PySem.W.WalkO q loose XP YP l.row.toRowW d [] (fun f vs=>PySem.call f vs):=by
 refine Att.attach_call hn hdf fun w s₀ s₁ mg mb fa o pm cd doc a vs ns G Y ho hd hcd hmg hobj hints hlen hg=>?_
 have KX:=hY w _ Y
 obtain ⟨fd,hb,hF⟩:=F w mg fa _ KX G.T.g hmg
 exact law_call KX G.T.g G.T.b G.T.builtins G.T.nolimit hg hobj hints (yAC hlen hn2) hr hF hb (fun H hO hS=>hsp w H a ns hlen hO hS) fun H e s'=>hCX w H s₁ e s'
end L2
namespace L2
open PySem PySem.Spec PyProof.Rows
noncomputable def ZAS (s:Stmt):Arguments:=match s with
 | .FunctionDef _ a _ _ _ _ _ _ _ _=>a
 | _=>{ posonlyargs:=[],args:=[],vararg:=none,kwonlyargs:=[],kw_defaults:=[],kwarg:=none,defaults:=[] }
noncomputable def ZAP (s:Stmt):List Stmt:=match s with
 | .FunctionDef _ _ b _ _ _ _ _ _ _=>b
 | _=>[]
noncomputable def ZAC (s:Stmt):Scope:=match s with
 | .FunctionDef _ _ _ _ _ _ sc _ _ _=>sc
 | _=>{ kind:=.function,names:=[],isGenerator:=false,isCoroutine:=false }
noncomputable abbrev CX0:CXT:=fun _ _ _ _ _ _=>False
noncomputable abbrev E0:XK:=fun _ _ _=>False
theorem ZBB {X:Cx}:ZBm CX0 X E0:=fun _ _ _ _ _ _ _ h=>h.elim
structure Fun (K:W.Frag) (x qual:Str) (st:Stmt) (f:Addr) (fd:FuncData):Prop where
 ex:∃ (oc:Value) (od:Option Addr) (kV doc pm:Value) (an:Option Addr) (cdv ct:Value) (osl:Array (Option Value)),
  fd=W.fnOf x qual (ZAS st) (ZAP st) (ZAC st) .none kV doc pm an cdv ct /\ K.lookup f=some ⟨oc,od,.func fd,osl⟩ /\ W.codeIn K cdv qual=true
 kp:W.keepIn K (.ref f)=true
section
variable {P:Program} {w:World} {K:W.Frag} {mg:Str->Option Value} {base:Heap}
theorem Fun.ok {x qual:Str} {st:Stmt} {f:Addr} {fd:FuncData} {N ps:List Str} {k:Nat} {sp:Sp} (F:Fun K x qual st f fd) (S:FnScope N ps (ZAC st)) (len:∀ vs H Q E,sp vs H Q E->vs.length=ps.length)
  (hbody:∀ (cdv:Value) (A:Around) (outer:List Env) (s:Shared) (H:Hp) (vs:List V) (Q:VK) (E:XK),Room k (A.deeper (envOfC qual (ZAC st) s.heap.objs.size f cdv))->sp vs H Q E ->
   ∃ t,PSs (cxOf CX0 P w K mg base N qual (ZAC st) f cdv A outer s H E).nox (ZAP st) t /\ t { nx:=fun _ H'=>Q .non H',rt:=Q } (start N vs) H):FnOk P w K mg base CX0 (k+1) f fd ps sp:=by
 obtain ⟨oc,od,kV,doc,pm,an,cdv,ct,osl,rfl,lk,hcd⟩:=F.ex
 refine fn_of lk hcd S len fun A outer s H vs Q E hr hsp=>?_
 obtain ⟨t,h,q⟩:=hbody cdv A outer s H vs Q E hr hsp
 exact ⟨t,h.nox,q⟩
theorem Fun.binds {x qual:Str} {st:Stmt} {f:Addr} {fd:FuncData} {ps:List Str} (F:Fun K x qual st f fd)
  (h:∀ (kV doc pm:Value) (an:Option Addr) (cdv ct:Value) (us:List Value),us.length=ps.length->bindArgs (W.fnOf x qual (ZAS st) (ZAP st) (ZAC st) .none kV doc pm an cdv ct) ⟨us,[]⟩=pure (ps.zip us)):Binds K fd ps []:=by
 obtain ⟨oc,od,kV,doc,pm,an,cdv,ct,osl,rfl,lk,hcd⟩:=F.ex
 exact .all (h kV doc pm an cdv ct)
theorem ZAj {x qual:Str} {st:Stmt} {f:Addr} {oc:Value} {od an:Option Addr} {osl:Array (Option Value)} {kV doc pm cdv ct:Value} (l:K.lookup f=some ⟨oc,od,.func (W.fnOf x qual (ZAS st) (ZAP st) (ZAC st) .none kV doc pm an cdv ct),osl⟩)
  (c:W.codeIn K cdv qual=true) (k:W.keepIn K (.ref f)=true):Fun K x qual st f (W.fnOf x qual (ZAS st) (ZAP st) (ZAC st) .none kV doc pm an cdv ct):=⟨⟨oc,od,kV,doc,pm,an,cdv,ct,osl,rfl,l,c⟩,k⟩
end
theorem small1000 {n:Nat} (h:n <= 1000):n < sizeLine:=Nat.lt_of_le_of_lt h (by decide)
section
variable {X:Cx}
theorem pv (i:Nat) {x:Str} {pos:Pos} (hN:X.N[i]?=some x:=by rfl) (hv:Vis X.env.scope x:=by first | exact Or.inl rfl | exact Or.inr (Or.inl rfl) | exact Or.inr (Or.inr rfl)) (hd:(x == ("__debug__":Str))=false:=by decide)
  (hcd:(x == ("__classdict__":Str))=false:=by decide):PE X (.Name x pos) (tVar i):=pe_var hN hv hd hcd
end
noncomputable def Same (H H':Hp):Prop:=∀ b o,H b=some o->H' b=some o
theorem Same.refl (H:Hp):Same H H:=fun _ _ h=>h
theorem Same.trans {H H1 H2:Hp} (a:Same H H1) (b:Same H1 H2):Same H H2:=fun c o h=>b c o (a c o h)
theorem Same.free {H H':Hp} (e:Same H H') {l:Addr} (h:H' l=Option.none):H l=Option.none:=by
 cases q:H l with
 | none=>rfl
 | some o=>
  rw [e l o q] at h
  cases h
theorem Same.seq {K:W.Frag} {H H':Hp} {a:Addr} {xs:List V} (e:Same H H') (h:SqL K H a xs):SqL K H' a xs:=by
 rcases h with (h | ⟨o,h⟩) | h
 .exact .inl (.inl (e _ _ h))
 .exact .inl (.inr ⟨o,e _ _ h⟩)
 .exact .inr h
end L2
set_option maxHeartbeats 4000000
namespace L2
open PySem PySem.Spec PyProof.Rows
theorem natlt {a b:Addr} (h:a < b):@LT.lt Nat _ a b:=h
theorem ZBj {a b:Addr} {n:Nat} (h:a < n) (k:n <= b):a≠b:=yAH (yAE h k)
theorem ZAY:∀ (names:List (Str×NameKind)) (n:Nat) (acc:List (Str×Addr)),cellsFrom n names acc=cellsFrom n names []++acc
 | [],_,_=>rfl
 | (x,k)::r,n,acc=>by
  unfold cellsFrom
  split
  .rw [ZAY r (n+1) ((x,n)::acc),ZAY r (n+1) [(x,n)],List.append_assoc];rfl
  .exact ZAY r n acc
theorem ZAv:∀ (names:List (Str×NameKind)) (n:Nat) (acc:List (Str×Addr)) (y:Str) (c:Addr),(y,c)∈cellsFrom n names acc->(y,c)∈acc∨((y,NameKind.cell)∈names /\ n <= c)
 | [],_,_,_,_,h=>.inl h
 | (x,k)::r,n,acc,y,c,h=>by
  unfold cellsFrom at h
  split at h
  .rename_i hk
   have hk':k=.cell:=by simpa using hk
   rcases ZAv r (n+1) _ y c h with h | ⟨h,l⟩
   .rcases yAP.mp h with e | h
    .cases e;subst hk';exact .inr ⟨yAK,yAB _⟩
    .exact .inl h
   .exact .inr ⟨yAL _ h,Nat.le_of_succ_le l⟩
  .rcases ZAv r n _ y c h with h | ⟨h,l⟩
   .exact .inl h
   .exact .inr ⟨yAL _ h,l⟩
noncomputable def ZAM (cells:List (Str×Addr)):List (Str×NameKind)->List (Str×Addr)->List (Str×Addr)
 | [],acc=>acc
 | (x,k)::r,acc=>if k == .free then ZAM cells r ((x,(cells.lookup x).getD 0)::acc) else ZAM cells r acc
theorem ZA1 {cells:List (Str×Addr)}:∀ (names:List (Str×NameKind)) (acc:List (Str×Addr)) (y:Str) (c:Addr),(y,c)∈ZAM cells names acc->(y,c)∈acc∨((y,NameKind.free)∈names /\ c=(cells.lookup y).getD 0)
 | [],_,_,_,h=>.inl h
 | (x,k)::r,acc,y,c,h=>by
  unfold ZAM at h
  split at h
  .rename_i hk
   have hk':k=.free:=by simpa using hk
   rcases ZA1 r _ y c h with h | ⟨h,l⟩
   .rcases yAP.mp h with e | h
    .cases e;subst hk';exact .inr ⟨yAK,rfl⟩
    .exact .inl h
   .exact .inr ⟨yAL _ h,l⟩
  .rcases ZA1 r _ y c h with h | ⟨h,l⟩
   .exact .inl h
   .exact .inr ⟨yAL _ h,l⟩
theorem ZA3 {cells:List (Str×Addr)}:∀ (names:List (Str×NameKind)) (acc:List (Str×Addr)) (p:Str×Addr),p∈acc->p∈ZAM cells names acc
 | [],_,_,h=>h
 | (x,k)::r,acc,p,h=>by
  unfold ZAM
  split
  .exact ZA3 r _ p (yAL _ h)
  .exact ZA3 r _ p h
theorem ZA2 {cells:List (Str×Addr)}:∀ (names:List (Str×NameKind)) (acc:List (Str×Addr)) (y:Str),(y,NameKind.free)∈names->(y,(cells.lookup y).getD 0)∈ZAM cells names acc
 | [],_,_,h=>nomatch h
 | (x,k)::r,acc,y,h=>by
  unfold ZAM
  rcases yAP.mp h with e | h
  .cases e
   rw [if_pos (by rfl)]
   exact ZA3 r _ _ yAK
  .split
   .exact ZA2 r _ y h
   .exact ZA2 r _ y h
theorem ZAt {α:Type}:∀ {l:List (Str×α)} {y:Str} {c:α},(y,c)∈l->∃ c',l.lookup y=some c'
 | (k,v)::r,y,c,h=>by
  rw [yBA]
  cases hb:y == k with
  | true=>exact ⟨v,rfl⟩
  | false=>
   rcases yAP.mp h with e | h
   .cases e;rw [beq_self_eq_true] at hb;cases hb
   .exact ZAt h
theorem ZAu {env:Env} (f:Str×NameKind->List (Str×Addr)->Sem (ForInStep (List (Str×Addr))))
  (hf:∀ name kind cs,f (name,kind) cs=if kind == .free then (do let a <- cellOf env name;pure (.yield ((name,a)::cs))) else pure (.yield cs)) :
  ∀ (names:List (Str×NameKind)) (acc:List (Str×Addr)),(∀ x,(x,NameKind.free)∈names->∃ c,env.cells.lookup x=some c)->forIn names acc f=(pure (ZAM env.cells names acc):Sem (List (Str×Addr)))
 | [],acc,_=>by rw [List.forIn_nil];rfl
 | (x,k)::r,acc,h=>by
  have hr:∀ x,(x,NameKind.free)∈r->∃ c,env.cells.lookup x=some c:=fun y hy=>h y (yAL _ hy)
  rw [List.forIn_cons,hf]
  unfold ZAM
  split
  .rename_i hk
   have hk':k=.free:=by simpa using hk
   subst hk'
   obtain ⟨c,hc⟩:=h x yAK
   have e:cellOf env x=(pure c:Sem Addr):=by unfold cellOf;rw [hc]
   rw [e,hc]
   exact ZAu f hf r ((x,c)::acc) hr
  .exact ZAu f hf r acc hr
theorem closureFor_eq {scope:Scope} {env:Env} (h:∀ x,(x,NameKind.free)∈scope.names->∃ c,env.cells.lookup x=some c):closureFor scope env=pure (ZAM env.cells scope.names []):=by
 simp only [closureFor]
 rw [ZAu _ (fun name kind cs=>by cases hk:kind == NameKind.free <;> simp [hk]) scope.names [] h]
 rfl
section
variable {M:Model} {A:Around} {E:Value->Shared->Prop} {s:Shared}
theorem newEnv_comp {scope:Scope} {globals:Addr} {cl:List (Str×Addr)} {qual:Str} {env:Env} {Q:Env->Shared->Prop}
  (hQ:Q { scope:=scope,locals:=s.heap.objs.size,globals:=globals,cells:=cellsFrom (s.heap.objs.size+1) scope.names cl,qual:=qual,func:=none,code:=env.code,frame:=env.frame,builtins:=env.builtins }
   { s with heap:=pushCells (s.heap.push { cls:=.type "dict",data:=.dict #[] }) scope.names }) :
  wpAny M A (newFunctionEnv scope globals cl [] qual none .none (some env)) Q E s:=by
 simp only [newFunctionEnv,Option.isSome_some,if_true]
 refine wpAny_bind (wpAny_alloc ?_)
 refine wpAny_bind (wpAny_layCells _ (fun name kind cells=>by cases hkc:kind == NameKind.cell <;> simp [hkc]) _ _ _ _ ?_)
 rw [show ({ s with heap:=s.heap.push { cls:=.type "dict",data:=.dict #[] } }:Shared).heap.objs.size=s.heap.objs.size+1 from Heap.size_push ..]
 rw [List.forIn_nil]
 exact wpAny_bind (wpAny_pure (wpAny_pure hQ))
end
theorem relabel_lookup {scope:Scope} {env:Env} (x:Str):(relabel scope env).names.lookup x=(scope.names.lookup x).map fun k=>if (k == .free && env.scope.kind == .function && env.kindOf x == some .cell)=true then NameKind.cell else k:=by
 unfold relabel
 dsimp only
 generalize scope.names=names
 induction names with
 | nil=>rfl
 | cons p r ih=>
  obtain ⟨n,k⟩:=p
  rw [yAJ,yBA (as:=r)]
  cases hx:x == n with
  | true=>
   have e:x=n:=beq_iff_eq.mp hx
   subst e
   by_cases hc:(k == NameKind.free && env.scope.kind == .function && env.kindOf x == some .cell)=true
   .simp only [hc,if_true,yBA,hx,Option.map_some]
   .simp only [hc,Bool.false_eq_true,if_false,yBA,hx,Option.map_some]
  | false=>
   by_cases hc:(k == NameKind.free && env.scope.kind == .function && env.kindOf n == some .cell)=true
   .simp only [hc,if_true,yBA,hx];exact ih
   .simp only [hc,Bool.false_eq_true,if_false,yBA,hx];exact ih
noncomputable def ZBT (N:List Str) (osc:Scope) (k:Nat) (js:List Nat) (N':List Str) (sc:Scope):Bool :=
 decide (sc.kind=.function) && decide (N'.length=k+js.length) && decide N'.Nodup &&
 sc.names.all (fun p=>decide (sc.names.lookup p.1=some p.2) && (decide (p.2≠.free) || decide (osc.names.lookup p.1=some .cell) || decide (osc.names.lookup p.1=some .free))) &&
 (List.range js.length).all (fun i=>decide (js[i]?.bind (fun j=>N[j]?)=N'[k+i]?) && decide ((N'[k+i]?).bind (fun y=>sc.names.lookup y)=some .free))
structure CmpOk (N:List Str) (osc:Scope) (k:Nat) (js:List Nat) (N':List Str) (sc:Scope):Prop where
 kind:sc.kind=.function
 len:N'.length=k+js.length
 nd:N'.Nodup
 look:∀ p∈sc.names,sc.names.lookup p.1=some p.2
 fr:∀ y,(y,NameKind.free)∈sc.names->osc.names.lookup y=some .cell∨osc.names.lookup y=some .free
 js:∀ i j,js[i]?=some j->∃ y,N'[k+i]?=some y /\ N[j]?=some y /\ sc.names.lookup y=some .free
theorem cmpOk {N:List Str} {osc:Scope} {k:Nat} {js:List Nat} {N':List Str} {sc:Scope} (h:ZBT N osc k js N' sc=true):CmpOk N osc k js N' sc:=by
 unfold ZBT at h
 simp only [Bool.and_eq_true,decide_eq_true_eq,List.all_eq_true,Bool.or_eq_true,List.mem_range] at h
 obtain ⟨⟨⟨⟨h1,h2⟩,h3⟩,h4⟩,h5⟩:=h
 refine ⟨h1,h2,h3,fun p hp=>(h4 p hp).1,fun y hy=>?_,fun i j hj=>?_⟩
 .rcases (h4 _ hy).2 with (z | z) | z
  .exact absurd rfl z
  .exact .inl z
  .exact .inr z
 .have hi:i < js.length:=(yAT.mp hj).1
  obtain ⟨a,b⟩:=h5 i hi
  rw [hj] at a
  cases e:N'[k+i]? with
  | none=>rw [e] at b;cases b
  | some y=>
   rw [e] at a b
   exact ⟨y,rfl,a,b⟩
noncomputable def ZB1 (scope:Scope) (cl:List (Str×Addr)) (C:Addr) (env:Env):Env :=
 { scope:=relabel scope env,locals:=C,globals:=env.globals,cells:=cellsFrom (C+1) scope.names cl,qual:=env.qual,func:=none,code:=env.code,frame:=env.frame,builtins:=env.builtins }
noncomputable def ZAr (X:Cx) (N':List Str) (scope:Scope) (C:Addr) (fp:List Addr) (s2:Shared) (H2:Hp):Cx where
 prog:=X.prog
 w:=X.w
 K:=X.K
 mg:=X.mg
 base:=X.base
 A:=X.A
 N:=N'
 s₀:=s2
 H₀:=H2
 env:=ZB1 scope (ZAM X.env.cells scope.names []) C X.env
 outer:=X.stack
 stack:=X.stack
 ex:=fp
 fn:=fun x=>decide (scope.names.lookup x=some .cell)
 calm:=X.calm
 pn:=[]
 xe:=fun _ _=>False
noncomputable def up (k:Nat) (js:List Nat) (σ:St):St:=List.replicate k none++js.map fun j=>(σ[j]?).getD none
section
variable {X:Cx} {pins:List (Addr×Obj)} {σ:St} {H:Hp} {s2:Shared} {k:Nat} {js:List Nat} {N':List Str} {scope:Scope} {fp:List Addr}
theorem comp_inv (hc:CmpOk X.N X.env.scope k js N' scope) (I:Inv X pins σ H s2) (hfp:∀ b∈fp,FpOk X pins H b) (hlt:∀ b∈fp,b < s2.heap.objs.size) {h3:Heap} (hz:h3.objs.size=s2.heap.objs.size+1) (hk3:∀ b o,s2.heap.get? b=some o->h3.get? b=some o) :
  Inv (ZAr X N' scope (s2.heap.objs.size+1) fp s2 H) [] (up k js σ) H { s2 with heap:=pushCells (h3.push { cls:=.type "dict",data:=.dict #[] }) scope.names }:=by
 have frLook:∀ y,(y,NameKind.free)∈scope.names->∃ c,X.env.cells.lookup y=some c:=fun y hy=>I.ok.has y (hc.fr y hy)
 have ok0:=cellsFrom_ok scope.names (h3.push { cls:=.type "dict",data:=.dict #[] }) (s2.heap.objs.size+2) [] ⟨fun _ _ hm=>(nomatch hm),List.Pairwise.nil⟩ (by rw [Heap.size_push,hz];exact yAB _)
 rw [Heap.size_push,hz] at ok0
 have parts:∀ y c,(ZB1 scope (ZAM X.env.cells scope.names []) (s2.heap.objs.size+1) X.env).cells.lookup y=some c ->
   ((y,c)∈cellsFrom (s2.heap.objs.size+2) scope.names [] /\ (y,NameKind.cell)∈scope.names /\ s2.heap.objs.size+2 <= c)∨((y,NameKind.free)∈scope.names /\ X.env.cells.lookup y=some c):=fun y c e=>by
  have m:=PySem.mem_of_lookup e
  change (y,c)∈cellsFrom (s2.heap.objs.size+1+1) scope.names _ at m
  rw [ZAY] at m
  rcases yAV.mp m with m | m
  .rcases ZAv _ _ _ _ _ m with z | ⟨z,l⟩
   .cases z
   .exact .inl ⟨m,z,l⟩
  .rcases ZA1 _ _ _ _ m with z | ⟨z,l⟩
   .cases z
   .obtain ⟨c',e'⟩:=frLook y z
    rw [e'] at l
    exact .inr ⟨z,by rw [e'];exact congrArg some l.symm⟩
 have old:∀ y c,X.env.cells.lookup y=some c->c < s2.heap.objs.size:=fun y c e=>by
  obtain ⟨v,q⟩:=I.cell y c e
  exact q.lt
 have freeAt:∀ y,(y,NameKind.free)∈scope.names->∀ c,X.env.cells.lookup y=some c->(ZB1 scope (ZAM X.env.cells scope.names []) (s2.heap.objs.size+1) X.env).cells.lookup y=some c:=fun y hy c e=>by
  have m:(y,c)∈cellsFrom (s2.heap.objs.size+1+1) scope.names (ZAM X.env.cells scope.names []):=by
   rw [ZAY]
   have q:=ZA2 (cells:=X.env.cells) scope.names [] y hy
   rw [e] at q
   exact yAG _ q
  obtain ⟨c',q⟩:=ZAt m
  rcases parts y c' q with ⟨_,z,_⟩ | ⟨_,z⟩
  .have z1:=hc.look _ z
   have z2:=hc.look _ hy
   rw [z1] at z2
   cases z2
  .rw [e] at z
   cases z
   exact q
 have keepAll:∀ b o,s2.heap.get? b=some o->(pushCells (h3.push { cls:=.type "dict",data:=.dict #[] }) scope.names).get? b=some o:=fun b o e=>pushCells_keeps _ _ b o (Heap.get?_push_of_some _ (hk3 b o e))
 refine ⟨⟨I.ok.mod,hc.kind,I.ok.glob,I.ok.blt,yAN _,fun y z c h1 h2=>?_,fun y hy=>?_,fun y c h1 h2=>?_,I.ok.hd,I.ok.frames,.inl rfl,fun b hb=>⟨?_,fun y c e=>?_⟩,I.bs,yAC I.ok.bsz I.sz,fun b o e hb=>?_,fun b hb hs=>?_,I.stack,I.stkFree⟩,
  rfl,I.bare,Un.kept keepAll,⟨fun _=>none,?_,fun i y v e1 e2 e3=>?_⟩,fun y c e=>?_,I.hok.fresh (yAN _),fun y c e=>?_,fun p hp=>absurd (show p∈([]:List (Addr×Obj)) from hp) (by simp),I.hok.kept keepAll,?_⟩
 .
  rcases parts y c h1 with ⟨a,_,l⟩ | ⟨_,a⟩ <;> rcases parts z c h2 with ⟨b,_,l'⟩ | ⟨_,b⟩
  .exact name_of_addr ok0.apart a b
  .have:=natlt (old z c b);omega
  .have:=natlt (old y c a);omega
  .exact I.ok.inj y z c a b
 .
  have hy':(relabel scope X.env).names.lookup y=some .cell∨(relabel scope X.env).names.lookup y=some .free:=hy
  rw [relabel_lookup] at hy'
  have q:scope.names.lookup y=some .cell∨scope.names.lookup y=some .free:=by
   cases e:scope.names.lookup y with
   | none=>rw [e] at hy';rcases hy' with z | z <;> cases z
   | some kk=>
    rw [e] at hy'
    cases kk <;> first | exact .inl rfl | exact .inr rfl | (rcases hy' with z | z <;> simp at z)
  rcases q with q | q
  .obtain ⟨c,e⟩:=ZB2 (n:=s2.heap.objs.size+1+1) q
   have m:(y,c)∈cellsFrom (s2.heap.objs.size+1+1) scope.names (ZAM X.env.cells scope.names []):=by
    rw [ZAY]
    exact List.mem_append_left _ (PySem.mem_of_lookup e)
   exact ZAt m
  .have m:=PySem.mem_of_lookup q
   obtain ⟨c,e⟩:=frLook y m
   exact ⟨c,freeAt y m c e⟩
 .
  have h1':scope.names.lookup y=some .cell:=of_decide_eq_true h1
  rcases parts y c h2 with ⟨_,_,l⟩ | ⟨z,_⟩
  .show s2.heap.objs.size <= c
   omega
  .have:=hc.look _ z
   rw [h1'] at this
   cases this
 .
  exact ZBj (hlt b hb) (yAN _)
 .rcases parts y c e with ⟨_,_,l⟩ | ⟨_,z⟩
  .exact (ZBj (hlt b hb) (yAC (Nat.le_add_right _ 2) l)).symm
  .exact (hfp b hb).2.2.2.2.1 y c z
 .
  rcases (hfp b hb).2.2.2.1 with z | z
  .exact I.ok.noex b o e z
  .exact absurd (yAE (Heap.lt_size e) (yAC I.ok.bsz z)) (yAS _)
 .
  rcases yAP.mp (I.stkSub b hs) with z | z
  .exact (hfp b hb).2.1 z
  .exact (hfp b hb).2.2.1 z
 .
  have q:=(Heap.Ns.new h3 (.type "dict")).keeps (pushCells_keeps scope.names _)
  rw [hz] at q
  exact q
 .
  unfold up at e2
  have hik:k <= i:=by
   by_cases hi:i < k
   .rw [List.getElem?_append_left (by simpa using hi),List.getElem?_replicate] at e2
    rw [if_pos hi] at e2
    cases e2
   .omega
  rw [List.getElem?_append_right (by simpa using hik),List.length_replicate,yAR] at e2
  cases ej:js[i-k]? with
  | none=>rw [ej] at e2;cases e2
  | some j=>
   rw [ej] at e2
   have e2':(σ[j]?).getD none=some v:=Option.some.inj e2
   have e4:σ[j]?=some (some v):=by
    cases q:σ[j]? with
    | none=>rw [q] at e2';cases e2'
    | some z=>rw [q] at e2';exact congrArg some e2'
   obtain ⟨y',n1,n2,n3⟩:=hc.js _ _ ej
   rw [Nat.add_sub_cancel' hik] at n1
   have n0:N'[i]?=some y:=e1
   rw [n1] at n0
   cases n0
   have hm:=PySem.mem_of_lookup n3
   have hvis:Vis X.env.scope y:=.inr (hc.fr y hm)
   obtain ⟨m,hn,hl⟩:=I.loc
   obtain ⟨u,r,l⟩:=hl j y v n2 e4 hvis
   refine ⟨u,r,?_⟩
   rcases l with ⟨kk,_⟩ | ⟨kk,c,ec,ic⟩
   .have kk':X.env.scope.names.lookup y=some .local:=kk
    rcases hc.fr y hm with z | z <;> (rw [kk'] at z;cases z)
   .refine .inr ⟨?_,c,freeAt y hm c ec,ic.keeps keepAll⟩
    show (relabel scope X.env).names.lookup y=some .cell∨(relabel scope X.env).names.lookup y=some .free
    rw [relabel_lookup,n3]
    simp only [Option.map_some]
    split
    .exact .inl rfl
    .exact .inr rfl
 .
  rcases parts y c e with ⟨a,_,_⟩ | ⟨_,a⟩
  .exact ⟨none,(ok0.empty y c a).1⟩
  .obtain ⟨v,q⟩:=I.cell y c a
   exact ⟨v,q.keeps keepAll⟩
 .rcases parts y c e with ⟨_,_,l⟩ | ⟨_,a⟩
  .exact I.hok.fresh (by omega)
  .exact I.freeC y c a
 .unfold up
  show _=N'.length
  rw [yAD,List.length_replicate,yAA,hc.len]
theorem comp_end {σ':St} {H':Hp} {s':Shared} {C D:Addr} {its:List Value} {n:Nat} {ys:List V} (I:Inv X pins σ H s2) (hfp:∀ b∈fp,FpOk X pins H b) (hC:s2.heap.objs.size <= C) (hD:s2.heap.objs.size <= D) (hDC:D≠C)
  (I':Inv (ZAr X N' scope C fp s2 H) [(D,{ cls:=.type "list",data:=.seq its.toArray n })] σ' H' s') (hv:Vals ys its) (hz:ys.length <= sizeLine) :
  H' D=none /\ ∀ h',Heap.SameBut C s'.heap h'->Inv X pins σ (upd H' D (.lst ys)) { s' with heap:=h' }:=by
 obtain ⟨eD,nD,_,_,_⟩:=I'.pin (D,{ cls:=.type "list",data:=.seq its.toArray n }) (yAG _ yAK)
 dsimp only at eD nD
 have nC:H' C=none:=I'.free
 refine ⟨nD,fun h' hs=>?_⟩
 have neC:∀ b o,s2.heap.get? b=some o->b≠C:=fun b o e=>ZBj (Heap.lt_size e) hC
 have neD:∀ b o,s2.heap.get? b=some o->b≠D:=fun b o e=>ZBj (Heap.lt_size e) hD
 have tr:∀ b u,H' b=some u->b≠D:=fun b u e z=>by rw [z,nD] at e;cases e
 have trC:∀ b u,H' b=some u->b≠C:=fun b u e z=>by rw [z,nC] at e;cases e
 have B:=I'.base
 refine I.call' (s':={ s' with heap:=h' }) (ch:=fp) I'.os ⟨fun b o e nn hb hx=>?_,fun b o e nn hb hx=>?_,fun b o e nn hx=>?_,fun b o e hx=>?_,fun b xs e=>?_,fun b o u e=>?_,fun b ps e=>?_⟩ (fun b u e=>?_) I'.bare fun b hb=>?_
 .exact (hs.2 b (neC b o e)).trans (B.keep b o e nn hb hx)
 .obtain ⟨sl,q⟩:=B.slot b o e nn hb hx
  exact ⟨sl,(hs.2 b (neC b o e)).trans q⟩
 .rw [ZAL (neD b o e)]
  exact B.free b o e nn hx
 .obtain ⟨o',q⟩:=B.there b o e hx
  exact ⟨o',(hs.2 b (neC b o e)).trans q⟩
 .have q:=B.tups b xs e
  rw [ZAL (tr b _ q)]
  exact q
 .have q:=B.frzs b o u e
  rw [ZAL (tr b _ q)]
  exact q
 .obtain ⟨more,q⟩:=B.tbls b ps e
  exact ⟨more,by rw [ZAL (tr b _ q)];exact q⟩
 .by_cases hb:b=D
  .subst hb
   rw [ZAH] at e
   cases e
   exact ⟨hz,its,n,hv,(hs.2 b hDC).trans eD⟩
  .rw [ZAL hb] at e
   refine (I'.hok b u e).stay (fun c v hcc q=>(hs.2 c ?_).trans q) (fun c q=>by rw [ZAL (tr c _ q)];exact q) fun c xs q=>by rw [ZAL (tr c _ q)];exact q
   rcases hcc with rfl | hcc
   .exact trC c _ e
   .exact trC c _ hcc
 .obtain ⟨_,f1,_,f3,f4,f5⟩:=hfp b hb
  exact ⟨f3,f1,f4,f5⟩
end
section
variable {prog:Program} {w:World} {A:Around} {R:Result->Shared->Prop} {s:Shared}
theorem codeAny_compLoop_any {elt target iter:Expr} {ifs:List Expr} {scope:Scope} {pos:Pos} {it acc:Value} {env:Env} (I:Nat->Shared->Prop)
  (turn:∀ n s,I n s->wpAny (model prog w) A (pyNext it) (fun r s₁=>match r with
   | none=>R (.ok .next) s₁
   | some v=>wpAny (model prog w) A (letOwnedTupleGo target it v) (fun _ s₁'=>wpAny (model prog w) A (assign target env v) (fun _ s₂=>
     wpAny (model prog w) A (forIn ifs true fun c r=>if r=true then do let ok <- isTrue c env (eval c env);pure (ForInStep.yield ok) else pure (ForInStep.yield r)) (fun ok s₃=>
      if ok=true then wpAny (model prog w) A (eval elt env) (fun x s₄=>
       wpAny (model prog w) A (call (.builtin "list.append") [acc,x]) (fun _ s₅=>∃ m,m < n /\ I m s₅) (notedBy (model prog w) A env fun e s'=>R (.error e) s') s₄) (notedBy (model prog w) A env fun e s'=>R (.error e) s') s₃
      else ∃ m,m < n /\ I m s₃) (notedBy (model prog w) A env fun e s'=>R (.error e) s') s₂) (notedBy (model prog w) A env fun e s'=>R (.error e) s') s₁') (notedBy (model prog w) A env fun e s'=>R (.error e) s') s₁) (notedBy (model prog w) A env fun e s'=>R (.error e) s') s)
  (n:Nat) (h:I n s) :
  codeAny (model prog w) A (.compLoop (.ListComp elt [⟨target,iter,ifs,0⟩] scope pos) 0 it acc env) R s:=by
 refine codeAny_loop rfl I (fun n s hI=>?_) n h
 show wpAny _ A ((compTurn (.ListComp elt [⟨target,iter,ifs,0⟩] scope pos) 0 it acc env).onRaise (fun x=>do noteFrame x env;theTreesLotGoes x)) _ _ s
 refine wpAny_noted ?_
 rw [compTurn_list]
 refine wpAny_bind (wpAny_standAt (wpAny_bind (wpAny_mono (turn n s hI) (fun r s₁ h₁=>?_) fun _ _ h'=>h')))
 cases r with
 | none=>exact wpAny_pure h₁
 | some v=>
  refine wpAny_bind (wpAny_mono h₁ (fun _ s₁' h₁'=>?_) fun _ _ h'=>h')
  refine wpAny_bind (wpAny_mono h₁' (fun _ s₂ h₂=>wpAny_bind (wpAny_mono h₂ (fun ok s₃ h₃=>?_) fun _ _ h'=>h')) fun _ _ h'=>h')
  cases ok with
  | false=>exact wpAny_pure ⟨rfl,h₃⟩
  | true=>exact wpAny_bind (wpAny_bind (wpAny_mono h₃ (fun x s₄ h₄=>wpAny_bind (wpAny_mono h₄ (fun _ s₅ h₅=>wpAny_pure (wpAny_pure ⟨rfl,h₅⟩)) fun _ _ h'=>h')) fun _ _ h'=>h'))
end
noncomputable def PIfs (X:Cx) (ifs:List Expr) (t:TT):Prop :=
 ∀ (pins:List (Addr×Obj)) (s:Shared) (σ:St) (H:Hp) (Q:Bool->Hp->Prop),Inv X pins σ H s->t σ H Q ->
  wpAny (model X.prog X.w) X.A (forIn ifs true fun c r=>if r=true then do let ok <- isTrue c X.env (eval c X.env);pure (ForInStep.yield ok) else pure (ForInStep.yield r)) (TP X pins σ Q) X.xe s
noncomputable def tYes:TT:=fun _ H Q=>Q true H
theorem ZA7 {X:Cx}:PIfs X [] tYes:=fun _ _ _ H _ I h=>wpAny_tests_nil ⟨H,I,h⟩
noncomputable def ZB3 (k:Nat) (js:List Nat) (wi:TI) (g:TG) (tt:TT) (te:TE):TE:=fun σ H Q=>wi σ H fun J H1=>∃ W:Nat->Nat->List V->St->Hp->Prop,(∃ m,W 0 m [] (up k js σ) H1) /\ ∀ i m ys σ H,W i m ys σ H ->
 (J.stop i H /\ ys.length <= sizeLine /\ ∀ p,H p=none->Q (.ref p) (upd H p (.lst ys))) ∨
 (J.go i H /\ ys.length < sizeLine /\ ∀ x H',J.yld i H x H'->g x σ H' fun σ2 H2=>tt σ2 H2 fun b H3=>if b=true then te σ2 H3 fun y H4=>∃ m',m' < m /\ W (i+1) m' (ys++[y]) σ2 H4 else ∃ m',m' < m /\ W (i+1) m' ys σ2 H3)
section
variable {X:Cx} {k:Nat} {js:List Nat} {N':List Str} {scope:Scope} {tg iter elt:Expr} {ifs:List Expr} {wi:TI} {g:TG} {tt:TT} {te:TE} {pos:Pos}
theorem comp_core {use:Option (Value->Sem Unit)} {Q':Value->Shared->Prop} (hcalm:X.calm=true) (hc:CmpOk X.N X.env.scope k js N' scope) (hi:PI X tg iter wi)
  (hg:∀ C fp s2 H2,PG (ZAr X N' scope C fp s2 H2) tg g) (ht:∀ C fp s2 H2,PIfs (ZAr X N' scope C fp s2 H2) ifs tt) (he:∀ C fp s2 H2,PE (ZAr X N' scope C fp s2 H2) elt te)
  {pins:List (Addr×Obj)} {s:Shared} {σ:St} {H:Hp} {Q:VK} (I:Inv X pins σ H s) (h:ZB3 k js wi g tt te σ H Q)
  (fin:∀ (C D:Addr) (s':Shared) (m:Str->Option Value) (H':Hp) (ys:List V),s'.heap.Ns C m->C≠X.env.locals->C∉X.fs->D≠C->H' C=none->X.s₀.heap.objs.size <= C->(∀ x c,X.env.cells.lookup x=some c->c≠C)->(∀ p∈X.pn++pins,p.1≠C)->(∀ h',Heap.SameBut C s'.heap h'->Inv X pins σ (upd H' D (.lst ys)) { s' with heap:=h' })->Q (.ref D) (upd H' D (.lst ys)) ->
   compPost (model X.prog X.w) X.A X.xe use Q' (.ref D) C (.ok .next) s')
  (hs:∀ x,foldedSetIterable iter X.env x=pure x) (p':Pos) :
  wpAny (model X.prog X.w) X.A (comprehension (.ListComp elt [⟨tg,iter,ifs,0⟩] scope pos) scope X.env p' (newList []) false (eval iter X.env) use) Q' X.xe s:=by
 have hclos:closureFor scope X.env=pure (ZAM X.env.cells scope.names []):=closureFor_eq fun y hy=>I.ok.has y (hc.fr y hy)
 refine wpAny_comprehension_free (g:=⟨tg,iter,ifs,0⟩) (gs:=[]) rfl hs hclos hc.kind (fun x hx hl=>by rw [hc.look x hx,hl]) ?_
 refine thn (hi pins s σ H _ I h) fun v s1 h1=>thn h1 fun itv s2 h2=>?_
 obtain ⟨it,fp,tn,J,H2,e,I2,T,st2,f2,W,⟨m0,w0⟩,turn⟩:=h2
 subst e
 have hlt:∀ b∈fp,b < s2.heap.objs.size:=fun b hb=>by
  obtain ⟨o,e,_⟩:=T.obj _ _ st2 b hb
  exact Heap.lt_size e
 refine wpAny_newObj_type (newEnv_comp ?_)
 have hz3:(s2.heap.push { cls:=.type "list",dict:=none,data:=.seq ([]:List Value).toArray }).objs.size=s2.heap.objs.size+1:=Heap.size_push ..
 have I3:=comp_inv (h3:=s2.heap.push { cls:=.type "list",dict:=none,data:=.seq ([]:List Value).toArray }) hc I2 f2 hlt hz3 (fun b o e=>Heap.get?_push_of_some _ e)
 dsimp only
 rw [hz3]
 generalize hS4:({ s2 with heap:=pushCells ((s2.heap.push { cls:=.type "list",dict:=none,data:=.seq ([]:List Value).toArray }).push { cls:=.type "dict",data:=.dict #[] }) scope.names }:Shared)=s4 at I3 ⊢
 have keep4:∀ b o,s2.heap.get? b=some o->s4.heap.get? b=some o:=fun b o e=>by
  rw [<- hS4]
  exact pushCells_keeps _ _ b o (Heap.get?_push_of_some _ (Heap.get?_push_of_some _ e))
 have eD4:s4.heap.get? s2.heap.objs.size=some { cls:=.type "list",data:=.seq ([]:List Value).toArray 0 }:=by
  rw [<- hS4]
  exact pushCells_keeps _ _ _ _ (Heap.get?_push_of_some _ (Heap.get?_push_size _ rfl))
 generalize hX':ZAr X N' scope (s2.heap.objs.size+1) fp s2 H2=X' at I3
 have hC':X'.env.locals=s2.heap.objs.size+1:=by rw [<- hX'];rfl
 have hfs':X'.fs=frs X.stack:=by rw [<- hX'];rfl
 have nofsD:∀ a,s2.heap.objs.size <= a->a∉frs X.stack:=fun a ha hb=>by
  rcases yAP.mp (I2.stkSub a hb) with z | z
  .exact absurd z.symm (ZBj I2.lt ha)
  .exact I2.nofs ha z
 have cellD:∀ x c,X'.env.cells.lookup x=some c->c≠s2.heap.objs.size:=fun x c e z=>by
  obtain ⟨v,o,ho,hd⟩:=I3.cell x c e
  rw [z,eD4] at ho
  cases ho
  cases hd
 have pinD:∀ {σ':St} {H':Hp} {s':Shared} {its:List Value} {n:Nat},Inv X' [] σ' H' s'->s'.heap.get? s2.heap.objs.size=some { cls:=.type "list",data:=.seq its.toArray n }->H' s2.heap.objs.size=none ->
   Inv X' [(s2.heap.objs.size,{ cls:=.type "list",data:=.seq its.toArray n })] σ' H' s':=fun {σ' H' s' its n} J e nn=>J.pins_of fun p hp=>by
  have e':p=(s2.heap.objs.size,{ cls:=.type "list",data:=.seq its.toArray n }):=by simpa using hp
  subst e'
  refine ⟨e,nn,?_,?_,fun v z=>nomatch z⟩
  .rw [hC'];exact yAH (Nat.lt_succ_self _)
  .rw [hfs'];exact nofsD _ (yAB _)
 have I4:=pinD I3 eD4 (I2.hok.fresh (yAB _))
 have stat:∀ {H':Hp} {o:Obj},(∀ b∈fp,H' b=none)->∀ b∈fp,FpOk X' [(s2.heap.objs.size,o)] H' b:=fun {H' o} hn b hb=>by
  have hb':=hlt b hb
  refine ⟨hn b hb,?_,?_,.inl (by rw [<- hX'];exact hb),fun x c e z=>?_,fun p hp z=>?_⟩
  .rw [hC'];exact ZBj hb' (yAN _)
  .rw [hfs']
   intro z
   rcases yAP.mp (I2.stkSub b z) with q | q
   .exact (f2 b hb).2.1 q
   .exact (f2 b hb).2.2.1 q
  .have q:=I3.ok.exf b (by rw [<- hX'];exact hb)
   exact q.2 x c e z
  .rw [show X'.pn=[] by rw [<- hX'];rfl] at hp
   have e':p=(s2.heap.objs.size,o):=by simpa using hp
   subst e'
   exact absurd hb' (by rw [<- z];exact yAS _)
 have hfin:∀ {σ':St} {H':Hp} {s':Shared} {its:List Value} {n:Nat} {ys:List V},Inv X' [(s2.heap.objs.size,{ cls:=.type "list",data:=.seq its.toArray n })] σ' H' s'->Vals ys its->ys.length <= sizeLine->(∀ p,H' p=none->Q (.ref p) (upd H' p (.lst ys))) ->
   compPost (model X.prog X.w) X.A X.xe use Q' (.ref s2.heap.objs.size) (s2.heap.objs.size+1) (.ok .next) s':=fun {σ' H' s' its n ys} J hv hz hq=>by
  obtain ⟨m,hn,_⟩:=id J.loc
  rw [hC'] at hn
  have nC:H' (s2.heap.objs.size+1)=none:=by rw [<- hC'];exact J.free
  have J':Inv (ZAr X N' scope (s2.heap.objs.size+1) fp s2 H2) [(s2.heap.objs.size,{ cls:=.type "list",data:=.seq its.toArray n })] σ' H' s':=by rw [hX'];exact J
  obtain ⟨nD,E⟩:=comp_end I2 f2 (yAN _) (yAB _) (yAH (Nat.lt_succ_self _)) J' hv hz
  refine fin _ _ s' m H' ys hn ?_ (I2.nofs (yAN _)) (yAH (Nat.lt_succ_self _)) nC (yAC I2.sz (yAN _)) (fun x c e z=>?_) (fun p hp z=>?_) E (hq _ nD)
  .exact (ZBj I2.lt (yAN _)).symm
  .obtain ⟨v,q⟩:=I2.cell x c e
   exact absurd z (ZBj q.lt (yAN _))
  .exact absurd z (ZBj (Heap.lt_size (I2.pin p hp).1) (yAN _))
 have hprog:X'.prog=X.prog:=by rw [<- hX'];rfl
 have hw:X'.w=X.w:=by rw [<- hX'];rfl
 have hK:X'.K=X.K:=by rw [<- hX'];rfl
 have hcalm':X'.calm=true:=by rw [<- hX'];exact hcalm
 have hA:X'.A=X.A:=by rw [<- hX'];rfl
 have henv:ZB1 scope (ZAM X.env.cells scope.names []) (s2.heap.objs.size+1) X.env=X'.env:=by rw [<- hX'];rfl
 have hgX:=hg (s2.heap.objs.size+1) fp s2 H2
 have htX:=ht (s2.heap.objs.size+1) fp s2 H2
 have heX:=he (s2.heap.objs.size+1) fp s2 H2
 rw [hX'] at hgX htX heX
 have hxe:∀ e s',X'.xe e s'->False:=fun e s' z=>by rw [<- hX'] at z;exact z
 have hXA:X'.pn=[]:=by rw [<- hX'];rfl
 have hs0:X'.s₀.heap.objs.size=s2.heap.objs.size:=by rw [<- hX'];rfl
 have loop:codeAny (model X.prog X.w) X.A (.compLoop (.ListComp elt [⟨tg,iter,ifs,0⟩] scope pos) 0 (.ref it) (.ref s2.heap.objs.size) X'.env) (compPost (model X.prog X.w) X.A X.xe use Q' (.ref s2.heap.objs.size) (s2.heap.objs.size+1)) s4:=by
  refine codeAny_compLoop_any (fun n s'=>∃ i σ' H' its nn ys,Inv X' [(s2.heap.objs.size,{ cls:=.type "list",data:=.seq its.toArray nn })] σ' H' s' /\ tn i s'.heap /\ (∀ b∈fp,H' b=none) /\ Vals ys its /\ W i n ys σ' H') ?_ m0
   ⟨0,_,H2,[],0,[],I4,T.keep _ _ _ st2 (fun b _ o e=>keep4 b o e),fun b hb=>(f2 b hb).1,.nil,w0⟩
  rintro n s5 ⟨i,σ5,H5,its,nn,ys,I5,st5,fr5,hv,w5⟩
  rcases turn i n ys σ5 H5 w5 with ⟨stop,hz,hq⟩ | ⟨go,hz,step⟩
  .have d:=T.done X' hprog hw hK hcalm' i _ s5 σ5 H5 (fun _ _=>False) I5 (stat fr5) st5 stop
   rw [hA] at d
   refine wpAny_mono d (fun r s6 ⟨hr,I6⟩=>?_) fun _ _ z=>z.elim
   subst hr
   exact hfin I6 hv hz hq
  .have d:=T.item X' hprog hw hK hcalm' i _ s5 σ5 H5 (fun _ _=>False) I5 (stat fr5) st5 go
   rw [hA] at d
   refine wpAny_mono d (fun r s6 ⟨u,hr,h6⟩=>?_) fun _ _ z=>z.elim
   subst hr
   refine wpAny_mono h6 (fun _ s7 zz=>?_) fun _ _ z=>z.elim
   obtain ⟨x,H7,I7,r7,y7,st7,fr7⟩:=zz
   have I7':=I7.pinned (stat fr7) (T.obj _ _ st7)
   have a1:=hgX _ s7 σ5 H7 x u _ I7' r7 (step x H7 y7)
   rw [hprog,hw,hA] at a1
   refine wpAny_mono a1 (fun _ s8 zz=>?_) fun _ _ z=>(hxe _ _ z).elim
   obtain ⟨σ8,H8,I8,q8⟩:=zz
   have a2:=htX _ s8 σ8 H8 _ I8 q8
   rw [hprog,hw,hA] at a2
   refine wpAny_mono a2 (fun ok s9 ⟨H9,I9,q9⟩=>?_) fun _ _ z=>(hxe _ _ z).elim
   have back:∀ {σ':St} {H':Hp} {s':Shared},Inv X' ([(s2.heap.objs.size,({ cls:=.type "list",data:=.seq its.toArray nn }:Obj))]++ZB7 fp s7.heap) σ' H' s'->tn (i+1) s'.heap /\ (∀ b∈fp,H' b=none):=fun {σ' H' s'} J=>by
    refine ⟨T.keep _ _ _ st7 fun b hb o e=>(J.pin (b,o) (yAG _ (yAG _ (ZA8 hb e)))).1,fun b hb=>?_⟩
    obtain ⟨o,e,d⟩:=T.obj _ _ st7 b hb
    exact (J.pin (b,o) (yAG _ (yAG _ (ZA8 hb e)))).2.1
   cases ok with
   | false=>
    rw [if_neg yAI] at q9 ⊢
    obtain ⟨m',hm,w9⟩:=q9
    obtain ⟨t9,f9⟩:=back I9
    exact ⟨m',hm,i+1,σ8,H9,its,nn,ys,I9.unpinned,t9,f9,hv,w9⟩
   | true=>
    rw [if_pos rfl] at q9 ⊢
    have a3:=heX _ s9 σ8 H9 _ I9 q9
    rw [hprog,hw,hA] at a3
    refine wpAny_mono a3 (fun uy s10 zz=>?_) fun _ _ z=>(hxe _ _ z).elim
    obtain ⟨y,H10,I10,r10,m',hm,w10⟩:=zz
    obtain ⟨t10,f10⟩:=back I10
    have I11:=I10.unpinned
    obtain ⟨eD,nD,_,_,_⟩:=I11.pin (s2.heap.objs.size,{ cls:=.type "list",data:=.seq its.toArray nn }) (yAG _ yAK)
    dsimp only at eD nD
    have hsz:its.length < sizeLine:=by rw [<- hv.length];exact hz
    refine wpAny_list_append_plain ⟨nn,eD⟩ (fun h' hpl hsb=>?_) (by rw [yAF];omega)
    obtain ⟨n',e'⟩:=hpl
    have e'':h'.get? s2.heap.objs.size=some { cls:=.type "list",data:=.seq (its++[uy]).toArray n' }:=by rw [e'];simp
    have I12:Inv X' [] σ8 H10 s10:=I11.pins_of fun p hp=>absurd hp (by simp)
    have I13:=I12.turned (h':=h') (t':=s10.toks) (it:=s2.heap.objs.size) (fun b o hb e=>(hsb.2 b hb).trans e) nD (by rw [hC'];exact yAH (Nat.lt_succ_self _)) (.inr (by rw [hs0];exact yAB _)) cellD (fun p hp=>absurd hp (by rw [hXA];simp))
    refine ⟨m',hm,i+1,σ8,H10,its++[uy],n',ys++[y],pinD I13 e'' nD,T.keep _ _ _ t10 fun b hb o e=>?_,f10,hv.append (.cons r10 .nil),w10⟩
    exact (hsb.2 b (ZBj (hlt b hb) (yAB _))).trans e
 have hst:codeAny (model X.prog X.w) X.A (.compStart (.ListComp elt [⟨tg,iter,ifs,0⟩] scope pos) 0 (.ref it) (.ref s2.heap.objs.size) X'.env) (compPost (model X.prog X.w) X.A X.xe use Q' (.ref s2.heap.objs.size) (s2.heap.objs.size+1)) s4 :=
  codeAny_compStart_list loop (T.self X.A 0 s4 _ _ (T.keep _ _ _ st2 (fun b _ o e=>keep4 b o e)) loop)
 rw [<- henv] at hst
 exact hst
theorem ZBd (hcalm:X.calm=true) (hc:ZBT X.N X.env.scope k js N' scope=true) (hi:PI X tg iter wi)
  (hg:∀ C fp s2 H2,PG (ZAr X N' scope C fp s2 H2) tg g) (ht:∀ C fp s2 H2,PIfs (ZAr X N' scope C fp s2 H2) ifs tt) (he:∀ C fp s2 H2,PE (ZAr X N' scope C fp s2 H2) elt te)
  (hs:∀ x,foldedSetIterable iter X.env x=pure x:=by intro _;rfl):PE X (.ListComp elt [⟨tg,iter,ifs,0⟩] scope pos) (ZB3 k js wi g tt te):=by
 intro pins s σ H Q I h
 rw [eval_ListComp]
 refine comp_core (use:=none) hcalm (cmpOk hc) hi hg ht he I h (fun C D s' m H' ys hn _ _ _ _ _ _ _ E q=>?_) hs _
 exact ⟨m,hn,fun h' hsb=>⟨.ref D,_,E h' hsb,rfl,q⟩⟩
theorem ps_setComp {i:Nat} {x:Str} {px spos:Pos} (hN:X.N.Nodup) (hix:X.N[i]?=some x) (hx:Loc X.env.scope x) (hcalm:X.calm=true) (hc:ZBT X.N X.env.scope k js N' scope=true) (hi:PI X tg iter wi)
  (hg:∀ C fp s2 H2,PG (ZAr X N' scope C fp s2 H2) tg g) (ht:∀ C fp s2 H2,PIfs (ZAr X N' scope C fp s2 H2) ifs tt) (he:∀ C fp s2 H2,PE (ZAr X N' scope C fp s2 H2) elt te)
  (hs:∀ x,foldedSetIterable iter X.env x=pure x:=by intro _;rfl) (hsw:swapsWith (.ListComp elt [⟨tg,iter,ifs,0⟩] scope pos) (some (.Name x px)) spos.line X.env=pure true:=by rfl)
  (hf:X.fn x=true∨X.env.scope.names.lookup x=some .local:=by first | exact .inl rfl | exact .inr rfl | assumption) :
  PS X (.Assign [.Name x px] (.ListComp elt [⟨tg,iter,ifs,0⟩] scope pos) spos) (tAsg (ZB3 k js wi g tt te) (ZCK i)):=by
 intro pins s σ H D I h
 rw [exec_Assign_Name_used _ _ _ _ hsw]
 refine wpAny_bind (wpAny_standAt (wpAny_bind ?_))
 show wpAny _ X.A (do let _ <- comprehension (.ListComp elt [⟨tg,iter,ifs,0⟩] scope pos) scope X.env _ (newList []) false (eval iter X.env) (some (assign (.Name x px) X.env))) _ _ s
 refine wpAny_bind (wpAny_mono (comp_core (use:=some (assign (.Name x px) X.env)) (Q':=fun _ s'=>SP X pins D .next s') hcalm (cmpOk hc) hi hg ht he I h (fun C Dd s' m H' ys hn c1 c2 c3 c4 c5 c6 c7 E q=>?_) hs _) (fun _ s' hq=>wpAny_pure (wpAny_pure hq)) fun _ _ e=>e)
 have J:=E s'.heap (.refl ..)
 obtain ⟨oC,es,ep,eC,dC,rC⟩:=id hn
 have J':Inv X (pins++[(C,oC)]) σ (upd H' Dd (.lst ys)) s':=J.pins_of fun p hp=>by
  rcases yAV.mp hp with z | z
  .exact J.pin p (yAG _ z)
  .have e':p=(C,oC):=by simpa using z
   subst e'
   refine ⟨eC,?_,c1,c2,fun v z=>?_⟩
   .show upd H' Dd _ C=none
    rw [ZAL (Ne.symm c3)]
    exact c4
   .have z':oC.data=.cell v:=z
    rw [dC] at z'
    cases z'
 show wpAny _ X.A (assign (.Name x px) X.env (.ref Dd)) _ _ _
 refine wpAny_assign_Name (ZBn (Q:=fun _ s''=>∃ m,s''.heap.Ns C m /\ ∀ h',Heap.SameBut C s''.heap h'->SP X pins D .next { s'' with heap:=h' }) J' hN hix hx (v:=.ref Dd) (u:=.ref Dd) rfl (fun s'' K'=>?_) hf)
 obtain ⟨e2,n2,_,_,_⟩:=K'.pin (C,oC) (yAG _ (yAG _ yAK))
 dsimp only at e2 n2
 refine ⟨m,⟨oC,es,ep,e2,dC,rC⟩,fun h' hsb=>⟨_,_,K'.unpinned.turned (it:=C) (t':=s''.toks) (fun b o hb e=>(hsb.2 b hb).trans e) n2 c1 (.inr c5) c6 c7,q⟩⟩
end
mutual
noncomputable def Dp (K:W.Frag) (H:Hp):PyData->V->Prop
 | .none,v=>v=.non
 | .bool b,v=>v=.bl b
 | .int i,v=>v=.int i
 | .str x,v=>v=.str x
 | .list ds,v=>∃ a xs,v=.ref a /\ SqL K H a xs /\ DpAll K H ds xs
 | .tuple ds,v=>∃ a xs,v=.ref a /\ SqT K H a xs /\ DpAll K H ds xs
 | .dict _,_=>False
noncomputable def DpAll (K:W.Frag) (H:Hp):List PyData->List V->Prop
 | [],vs=>vs=[]
 | d::ds,vs=>∃ v r,vs=v::r /\ Dp K H d v /\ DpAll K H ds r
end
theorem DpAll.nil {K:W.Frag} {H:Hp}:DpAll K H [] []:=by unfold DpAll;rfl
theorem DpAll.cons {K:W.Frag} {H:Hp} {d:PyData} {ds:List PyData} {v:V} {vs:List V} (a:Dp K H d v) (t:DpAll K H ds vs):DpAll K H (d::ds) (v::vs):=by unfold DpAll;exact ⟨v,vs,rfl,a,t⟩
theorem DpAll.two {K:W.Frag} {H:Hp} {d e:PyData} {v u:V} (a:Dp K H d v) (b:Dp K H e u):DpAll K H [d,e] [v,u]:=.cons a (.cons b .nil)
theorem DpAll.ints {K:W.Frag} {H:Hp}:∀ (ns:List Int),DpAll K H (ns.map PyData.int) (ns.map V.int)
 | []=>.nil
 | n::r=>.cons (by unfold Dp;rfl) (DpAll.ints r)
theorem ZCV {K:W.Frag} {H:Hp} {a:Addr} {xs:List V} {ds:List PyData} (h:SqL K H a xs) (t:DpAll K H ds xs):Dp K H (.list ds) (.ref a):=by unfold Dp;exact ⟨a,xs,rfl,h,t⟩
theorem dp_tup {K:W.Frag} {H:Hp} {a:Addr} {xs:List V} {ds:List PyData} (h:SqT K H a xs) (t:DpAll K H ds xs):Dp K H (.tuple ds) (.ref a):=by unfold Dp;exact ⟨a,xs,rfl,h,t⟩
section
variable {X:Cx} {pins:List (Addr×Obj)} {σ:St} {H:Hp} {s:Shared}
mutual
theorem Inv.reads (I:Inv X pins σ H s):∀ {d:PyData} {v:V} {u:Value},Dp X.K H d v->RelV v u->∃ as,Reads s.heap u d as
 | .none,_,_,h,r=>by unfold Dp at h;subst h;cases (show _=Value.none from r);exact ⟨_,.none⟩
 | .bool b,_,_,h,r=>by unfold Dp at h;subst h;cases (show _=Value.bool b from r);exact ⟨_,.bool b⟩
 | .int i,_,_,h,r=>by unfold Dp at h;subst h;obtain ⟨t,q⟩:=(show ∃ t,_=Value.int i t from r);subst q;exact ⟨_,.int i t⟩
 | .str x,_,_,h,r=>by unfold Dp at h;subst h;obtain ⟨t,q⟩:=(show ∃ t,_=Value.str x t from r);subst q;exact ⟨_,.str x t⟩
 | .list ds,_,_,h,r=>by
  unfold Dp at h
  obtain ⟨a,xs,q,sq,t⟩:=h
  subst q
  cases (show _=Value.ref a from r)
  obtain ⟨its,rv,pl,_⟩:=I.list sq
  obtain ⟨as,ra⟩:=Inv.readsAll I t rv
  obtain ⟨o,n,e1,e2,_,e3⟩:=pl
  exact ⟨_,.list e1 e2 e3 (by simpa using ra)⟩
 | .tuple ds,_,_,h,r=>by
  unfold Dp at h
  obtain ⟨a,xs,q,sq,t⟩:=h
  subst q
  cases (show _=Value.ref a from r)
  obtain ⟨its,rv,pl,_⟩:=I.tuple sq
  obtain ⟨as,ra⟩:=Inv.readsAll I t rv
  obtain ⟨o,e1,e2,n,e3⟩:=pl
  exact ⟨_,.tuple e1 e2 e3 (by simpa using ra)⟩
 | .dict _,_,_,h,_=>by unfold Dp at h;exact h.elim
theorem Inv.readsAll (I:Inv X pins σ H s):∀ {ds:List PyData} {vs:List V} {us:List Value},DpAll X.K H ds vs->Vals vs us->∃ as,ReadsAll s.heap us ds as
 | [],_,_,h,r=>by unfold DpAll at h;subst h;cases r;exact ⟨_,.nil⟩
 | _::_,_,_,h,r=>by
  unfold DpAll at h
  obtain ⟨v,q,e,a,t⟩:=h
  subst e
  cases r with
  | cons r1 r2=>
   obtain ⟨as,h1⟩:=Inv.reads I a r1
   obtain ⟨bs,h2⟩:=Inv.readsAll I t r2
   exact ⟨_,.cons h1 h2⟩
end
noncomputable def rEqD (K:W.Frag):R2:=fun x y H Q=>∃ d e,Dp K H d x /\ Dp K H e y /\ d.canLay0=true /\ e.canLay0=true /\ d.depth <= 64 /\ Q (.bl (PyData.eqv d e)) H
theorem ZCT (hu:X.A.units+64 < cLine):OpR X (compareOp .Eq) (rEqD X.K):=by
 intro pins s σ H x y v u Q I rx ry h
 obtain ⟨d,e,h1,h2,c1,c2,dp,q⟩:=h
 obtain ⟨as,ra⟩:=I.reads h1 rx
 obtain ⟨bs,rb⟩:=I.reads h2 ry
 exact SeqAt.compareEq_reads ra rb c1 c2 (by omega) ⟨.bl _,H,I,rfl,q⟩
end
section
variable {X:Cx} {x:Str} {pos:Pos}
theorem pe_gcls {C:Addr} (hg:Gl X x) (h:X.mg x=some (.ref C)) (hd:(x == ("__debug__":Str))=false:=by decide):PE X (.Name x pos) (tC (.ref C)):=pe_glob hg h rfl hd
theorem ZCE {n:String} (hg:Gl X x) (hm:X.mg x=none) (hv:bootBuiltins x=some (.type n)) (hn:x≠"__name__":=by decide) (hd:(x == ("__debug__":Str))=false:=by decide):PE X (.Name x pos) (tC (.ty n)):=pe_bltn hg hm hv rfl hn hd
end
structure Fn (P:Program) (w:World) (K:W.Frag) (mg:Str->Option Value) (base:Heap) (CX:CXT) (x:Str) (k:Nat) (ps:List Str) (sp:Sp):Prop where
 ex:∃ f fd,FnOk P w K mg base CX k f fd ps sp /\ Binds K fd ps [] /\ W.keepIn K (.ref f)=true /\ mg x=some (.ref f)
section
variable {X:Cx} {CX:CXT} {k:Nat} {ps:List Str} {sp:Sp} {E:XK} {x m:Str} {C:Addr} {p pos apos:Pos} {e o:Expr} {es:List Expr} {ta:TE} {t:TA}
theorem ZAq (F:Fn X.prog X.w X.K X.mg X.base CX x k ps sp) (hr:Room k X.A) (hg:Gl X x) (hx:ZBm CX X E) (ha:PA X (e::es) t) (hdb:(x == ("__debug__":Str))=false:=by decide) (he:starEach (e::es) X.env=(false,eval e X.env)::starEach es X.env:=by rfl) (hpl:(backTo pos (starEach es X.env)).any (·.1)=false:=by rfl) :
  PE X (.Call (.Name x p) (e::es) [] pos) (ZCW sp [] E t):=by
 obtain ⟨f,fd,h1,h2,h3,h4⟩:=F.ex
 exact pe_call h1 hr hg h4 h3 h2 .nil hx ha hdb he hpl
end
noncomputable def ZBk:V->Bool
 | .ty _=>true
 | .ref _=>true
 | _=>false
noncomputable def cval:V->Value
 | .ty n=>.type n
 | .ref a=>.ref a
 | _=>.none
section
variable {X:Cx}
theorem ZAw:ZBH X (.builtin "isinstance") (fun xs H Q=>∃ x c ty b,xs=[x,c] /\ ZBk c=true /\ TyOf X.K H x ty /\ PySem.W.kitOne X.K ty (cval c)=some b /\ Q (.bl b) H):=by
 intro pins s σ H xs us Q I r h
 obtain ⟨x,c,ty,b,rfl,hc,hty,e,q⟩:=h
 obtain ⟨u,w',rfl,r1,r2⟩:=ZCc r
 have e2:w'=cval c:=by
  cases c <;> first | (cases hc;done) | exact r2
 subst e2
 exact isinst_ok I r1 hty e fun tk=>⟨.bl b,H,I.tok tk,rfl,q⟩
end
theorem ZAK {v:V} {σ:St} {H:Hp} {Q:VK}:tVar 0 (some v::σ) H Q=Q v H:=by
 apply propext;unfold tVar;simp
theorem ZAN {i:Nat} {a:Option V} {σ:St} {H:Hp} {Q:VK}:tVar (i+1) (a::σ) H Q=tVar i σ H Q:=by
 apply propext;unfold tVar;simp
theorem rI0_int {g:Int->Int->V} {i j:Int} {H:Hp} {Q:VK}:rI0 g (.int i) (.int j) H Q=Q (g i j) H:=by
 apply propext;unfold rI0;simp
theorem rI_int {C:Int->Int->Prop} {g:Int->Int->V} {i j:Int} {H:Hp} {Q:VK}:rI C g (.int i) (.int j) H Q=(C i j /\ Q (g i j) H):=by
 apply propext;unfold rI;simp
theorem rU_int {g:Int->V} {i:Int} {H:Hp} {Q:VK}:rU g (.int i) H Q=Q (g i) H:=by
 apply propext;unfold rU;simp
theorem rEq_int {i j:Int} {H:Hp} {Q:VK}:rEq (.int i) (.int j) H Q=Q (.bl (decide (i=j))) H:=by
 exact propext ⟨fun h=>by simpa using h.2,fun h=>⟨rfl,by simpa using h⟩⟩
theorem rNe_int {i j:Int} {H:Hp} {Q:VK}:rNe (.int i) (.int j) H Q=Q (.bl (!decide (i=j))) H:=by
 exact propext ⟨fun h=>by simpa using h.2,fun h=>⟨rfl,by simpa using h⟩⟩
theorem rEq_bl {i j:Bool} {H:Hp} {Q:VK}:rEq (.bl i) (.bl j) H Q=Q (.bl (decide (i=j))) H:=by
 exact propext ⟨fun h=>by simpa using h.2,fun h=>⟨rfl,by simpa using h⟩⟩
theorem rNe_bl {i j:Bool} {H:Hp} {Q:VK}:rNe (.bl i) (.bl j) H Q=Q (.bl (!decide (i=j))) H:=by
 exact propext ⟨fun h=>by simpa using h.2,fun h=>⟨rfl,by simpa using h⟩⟩
theorem rEq_str {i j:Str} {H:Hp} {Q:VK}:rEq (.str i) (.str j) H Q=Q (.bl (decide (i=j))) H:=by
 exact propext ⟨fun h=>by simpa using h.2,fun h=>⟨rfl,by simpa using h⟩⟩
theorem rNe_str {i j:Str} {H:Hp} {Q:VK}:rNe (.str i) (.str j) H Q=Q (.bl (!decide (i=j))) H:=by
 exact propext ⟨fun h=>by simpa using h.2,fun h=>⟨rfl,by simpa using h⟩⟩
theorem ex_bl {c:Bool} {Q:Bool->Prop}:(∃ k,V.bl c=V.bl k /\ Q k)=Q c:=by
 apply propext;simp
theorem ex_int {c:Int} {Q:Int->Prop}:(∃ k,V.int c=V.int k /\ Q k)=Q c:=by
 apply propext;simp
theorem ZAZ {n:Nat} (h:n <= 1000):n <= sizeLine:=Nat.le_of_lt (small1000 h)
theorem ZAG {H:Hp} {p:Addr} (h:H p=none) (o:HO):Same H (upd H p o):=fun b u q=>by rw [ZAL (ZAX q h)];exact q
noncomputable def getF (K:W.Frag) (f:Str) (x:V) (H:Hp) (Q:VK):Prop:=∃ a C dx fs v,x=.ref a /\ H a=some (.ins C dx fs) /\ Cls K C /\ ZBh K C f /\ fs.lookup f=some v /\ Q v H
theorem tFld_eq {K:W.Frag} {ta:TE} {f:Str} {σ:St} {H:Hp} {Q:VK}:tFld K ta f σ H Q=ta σ H (fun x H1=>getF K f x H1 Q):=rfl
noncomputable def setF (K:W.Frag) (f:Str) (x y:V) (H:Hp) (Q:Hp->Prop):Prop:=∃ a C dx fs,x=.ref a /\ H a=some (.ins C dx fs) /\ Cls K C /\ ZBh K C f /\ fs.length < 1000 /\ Q (upd H a (.ins C dx (putF f y fs)))
theorem sFld_eq {K:W.Frag} {ta tv:TE} {f:Str} {D:Ends} {σ:St} {H:Hp}:sFld K ta tv f D σ H=tv σ H (fun y H1=>ta σ H1 fun x H2=>setF K f x y H2 (D.nx σ)):=rfl
theorem ZA0 {K:W.Frag} {p:Addr} {xs:List V} {i:Int} {v:V} {H:Hp} {Q:VK} (h:SqL K H p xs) (e:atI xs i=some v) (q:Q v H):rIxL K (.ref p) (.int i) H Q:=⟨p,xs,i,v,rfl,rfl,h,e,q⟩
theorem ZA5 {α:Type} {xs:List α} {i:Int} {v:α} (h0:0 <= i) (h:xs[i.toNat]?=some v):atI xs i=some v:=by
 have q:=atI_nat h
 rwa [Int.toNat_of_nonneg h0] at q
theorem atI_ints {xs:List Int} {i:Int} {v:Int} (h0:0 <= i) (h:xs[i.toNat]?=some v):atI (xs.map V.int) i=some (.int v):=ZA5 h0 (by rw [yAR,h];rfl)
noncomputable def Nxt (P:Nat->List V->St->Hp->Prop) (n i:Nat) (ys:List V) (σ:St) (H:Hp):Prop:=∃ m',m' < n-i /\ m'=n-(i+1) /\ i+1 <= n /\ P (i+1) ys σ H
theorem Nxt.of {P:Nat->List V->St->Hp->Prop} {n i:Nat} {ys:List V} {σ:St} {H:Hp} (h:i < n) (p:P (i+1) ys σ H):Nxt P n i ys σ H:=⟨n-(i+1),by omega,rfl,h,p⟩
theorem comp_list {K:W.Frag} {a:Addr} {xs:List V} {g:TG} {tt:TT} {te:TE} {Q:VK} {σ0:St} {H:Hp} (P:Nat->List V->St->Hp->Prop) (h0:P 0 [] σ0 H) (hl:∀ i ys σ H,i <= xs.length->P i ys σ H->SqL K H a xs /\ ys.length <= i) (hz:xs.length <= sizeLine)
  (hs:∀ i ys x σ H,i < xs.length->xs[i]?=some x->P i ys σ H->g x σ H fun σ2 H2=>tt σ2 H2 fun b H3=>if b=true then te σ2 H3 fun y H4=>Nxt P xs.length i (ys++[y]) σ2 H4 else Nxt P xs.length i ys σ2 H3)
  (hd:∀ ys σ H,P xs.length ys σ H->∀ p,H p=none->Q (.ref p) (upd H p (.lst ys))) :
  ∃ W:Nat->Nat->List V->St->Hp->Prop,(∃ m,W 0 m [] σ0 H) /\ ∀ i m ys σ H,W i m ys σ H ->
   ((Itl K a).stop i H /\ ys.length <= sizeLine /\ ∀ p,H p=none->Q (.ref p) (upd H p (.lst ys))) ∨
   ((Itl K a).go i H /\ ys.length < sizeLine /\ ∀ x H',(Itl K a).yld i H x H'->g x σ H' fun σ2 H2=>tt σ2 H2 fun b H3=>if b=true then te σ2 H3 fun y H4=>∃ m',m' < m /\ W (i+1) m' (ys++[y]) σ2 H4 else ∃ m',m' < m /\ W (i+1) m' ys σ2 H3):=by
 refine ⟨fun i m ys σ H=>m=xs.length-i /\ i <= xs.length /\ P i ys σ H,⟨xs.length,by simp,yAU _,h0⟩,?_⟩
 rintro i m ys σ H ⟨rfl,hi,p⟩
 obtain ⟨q,ly⟩:=hl i ys σ H hi p
 by_cases hlt:i < xs.length
 .refine .inr ⟨⟨xs,xs[i],q,by simp [hlt]⟩,by omega,fun x H' y=>?_⟩
  obtain ⟨e,y⟩:=y
  subst e
  exact hs i ys x σ _ hlt (y xs q) p
 .have e:i=xs.length:=by omega
  subst e
  exact .inl ⟨⟨xs,q,yAB _⟩,by omega,hd ys σ H p⟩
theorem comp_range {lo:Int} {n:Nat} {g:TG} {tt:TT} {te:TE} {Q:VK} {σ0:St} {H:Hp} (P:Nat->List V->St->Hp->Prop) (h0:P 0 [] σ0 H) (hl:∀ i ys σ H,P i ys σ H->ys.length <= i) (hz:n <= sizeLine)
  (hs:∀ i ys σ H,i < n->P i ys σ H->g (.int (lo+i)) σ H fun σ2 H2=>tt σ2 H2 fun b H3=>if b=true then te σ2 H3 fun y H4=>Nxt P n i (ys++[y]) σ2 H4 else Nxt P n i ys σ2 H3)
  (hd:∀ ys σ H,P n ys σ H->∀ p,H p=none->Q (.ref p) (upd H p (.lst ys))) :
  ∃ W:Nat->Nat->List V->St->Hp->Prop,(∃ m,W 0 m [] σ0 H) /\ ∀ i m ys σ H,W i m ys σ H ->
   ((Itr lo n).stop i H /\ ys.length <= sizeLine /\ ∀ p,H p=none->Q (.ref p) (upd H p (.lst ys))) ∨
   ((Itr lo n).go i H /\ ys.length < sizeLine /\ ∀ x H',(Itr lo n).yld i H x H'->g x σ H' fun σ2 H2=>tt σ2 H2 fun b H3=>if b=true then te σ2 H3 fun y H4=>∃ m',m' < m /\ W (i+1) m' (ys++[y]) σ2 H4 else ∃ m',m' < m /\ W (i+1) m' ys σ2 H3):=by
 refine ⟨fun i m ys σ H=>m=n-i /\ i <= n /\ P i ys σ H,⟨n,by simp,yAU _,h0⟩,?_⟩
 rintro i m ys σ H ⟨rfl,hi,p⟩
 have ly:=hl i ys σ H p
 by_cases hlt:i < n
 .refine .inr ⟨hlt,by omega,fun x H' y=>?_⟩
  obtain ⟨e,y⟩:=y
  subst e y
  exact hs i ys σ _ hlt p
 .have e:i=n:=by omega
  subst e
  exact .inl ⟨yAB _,by omega,hd ys σ H p⟩
theorem Same.upd {H H':Hp} {p:Addr} {o:HO} (e:Same H H') (h:H p=none):Same H (upd H' p o):=fun b u q=>by rw [ZAL (ZAX q h)];exact e b u q
theorem Same.new {H H':Hp} {p:Addr} {o:HO} (e:Same H H') (h:H' p=none):Same H (L2.upd H' p o):=e.upd (e.free h)
theorem ZBy {K:W.Frag} {t:Value} (h:(t == t)=true):PySem.W.kitOne K t t=some true:=by unfold PySem.W.kitOne;rw [if_pos h]
theorem cutV_ints (ns:List Int) (lo hi:Option Int):cutV (ns.map V.int) lo hi=(((ns.drop (HT.sIx ns.length 0 lo)).take (HT.sIx ns.length ns.length hi-HT.sIx ns.length 0 lo)).map V.int):=by
 unfold cutV
 rw [yAA,List.map_take,List.map_drop]
theorem ZBS {ns:List Int} {i:Nat} {x:V} (h:(ns.map V.int)[i]?=some x):∃ n,ns[i]?=some n /\ x=.int n:=by
 rw [yAR] at h
 cases e:ns[i]? with
 | none=>rw [e] at h;cases h
 | some n=>rw [e] at h;exact ⟨n,rfl,(Option.some.inj h).symm⟩
theorem ZB4 {K:W.Frag} {a:Addr} {xs:List V} {lo hi:Option Int} {H:Hp} {Q:VK} (h:SqL K H a xs) (q:∀ p,H p=none->Q (.ref p) (upd H p (.lst (cutV xs lo hi)))):rSlL K (.ref a) lo hi H Q:=⟨a,xs,rfl,h,q⟩
noncomputable def forL (K:W.Frag) (g:TG) (tb:TS) (D:Ends) (σ:St) (x:V) (H1:Hp):Prop:=∃ a,x=.ref a /\ (∃ xs,SqL K H1 a xs) /\ ∃ W:Nat->Nat->St->Hp->Prop,(∃ m,W 0 m σ H1) /\ ∀ i m σ H,W i m σ H ->
 ((Itl K a).stop i H /\ D.nx σ H)∨((Itl K a).go i H /\ ∃ N:St->Hp->Prop,(∀ σ' H',N σ' H'->∃ m',m' < m /\ W (i+1) m' σ' H') /\ ∀ x H',(Itl K a).yld i H x H'->g x σ H' fun σ2 H2=>tb { D with nx:=N,ct:=N,bk:=D.nx } σ2 H2)
theorem tForL_eq {K:W.Frag} {tl:TE} {g:TG} {tb:TS} {D:Ends} {σ:St} {H:Hp}:tFor (ZCk K tl) g tb D σ H=tl σ H (fun x H1=>forL K g tb D σ x H1):=rfl
theorem forL_of {K:W.Frag} {g:TG} {tb:TS} {D:Ends} {σ:St} {H:Hp} {a:Addr} {xs:List V} (h:SqL K H a xs) (Pv:Nat->St->Hp->Prop) (h0:Pv 0 σ H) (hl:∀ i σ H,i <= xs.length->Pv i σ H->SqL K H a xs)
  (hs:∀ i x σ H,xs[i]?=some x->Pv i σ H->g x σ H fun σ2 H2=>tb { D with nx:=Pv (i+1),ct:=Pv (i+1),bk:=D.nx } σ2 H2) (hd:∀ σ H,Pv xs.length σ H->D.nx σ H):forL K g tb D σ (.ref a) H :=
 ⟨a,rfl,⟨xs,h⟩,for_list Pv h0 hl hs hd⟩
noncomputable def forR (lo:Int) (g:TG) (tb:TS) (D:Ends) (σ:St) (n:Nat) (H1:Hp):Prop:=∃ W:Nat->Nat->St->Hp->Prop,(∃ m,W 0 m σ H1) /\ ∀ i m σ H,W i m σ H ->
 ((Itr lo n).stop i H /\ D.nx σ H)∨((Itr lo n).go i H /\ ∃ N:St->Hp->Prop,(∀ σ' H',N σ' H'->∃ m',m' < m /\ W (i+1) m' σ' H') /\ ∀ x H',(Itr lo n).yld i H x H'->g x σ H' fun σ2 H2=>tb { D with nx:=N,ct:=N,bk:=D.nx } σ2 H2)
noncomputable def forR1 (g:TG) (tb:TS) (D:Ends) (σ:St) (x:V) (H1:Hp):Prop:=∃ j:Int,[x]=[.int j] /\ -(2 ^ 62) <= j /\ j < 2 ^ 62 /\ forR 0 g tb D σ j.toNat H1
noncomputable def forR2 (g:TG) (tb:TS) (D:Ends) (σ:St) (x y:V) (H1:Hp):Prop:=∃ i j:Int,[x,y]=[.int i,.int j] /\ (-(2 ^ 62) <= i /\ i < 2 ^ 62 /\ -(2 ^ 62) <= j /\ j < 2 ^ 62) /\ forR i g tb D σ (j-i).toNat H1
theorem tForR1_eq {t:TE} {g:TG} {tb:TS} {D:Ends} {σ:St} {H:Hp}:tFor (ZCj (ZBI t tNil)) g tb D σ H=t σ H (fun x H1=>forR1 g tb D σ x H1):=rfl
theorem tForR2_eq {t u:TE} {g:TG} {tb:TS} {D:Ends} {σ:St} {H:Hp}:tFor (iRng2 (ZBI t (ZBI u tNil))) g tb D σ H=t σ H (fun x H1=>u σ H1 fun y H2=>forR2 g tb D σ x y H2):=rfl
theorem forR_of {lo:Int} {n:Nat} {g:TG} {tb:TS} {D:Ends} {σ:St} {H:Hp} (Pv:Nat->St->Hp->Prop) (h0:Pv 0 σ H)
  (hs:∀ i σ H,i < n->Pv i σ H->g (.int (lo+i)) σ H fun σ2 H2=>tb { D with nx:=Pv (i+1),ct:=Pv (i+1),bk:=D.nx } σ2 H2) (hd:∀ σ H,Pv n σ H->D.nx σ H):forR lo g tb D σ n H:=for_range Pv h0 hs hd
theorem forR1_of {j:Int} {g:TG} {tb:TS} {D:Ends} {σ:St} {H:Hp} (h:-1000 <= j /\ j <= 1000) (q:forR 0 g tb D σ j.toNat H):forR1 g tb D σ (.int j) H:=⟨j,rfl,by omega,by omega,q⟩
noncomputable def ZCm (K:W.Frag) (g:TG) (tt:TT) (te:TE) (σ0:St) (Q:VK) (x:V) (H1:Hp):Prop:=∃ a,x=.ref a /\ (∃ xs,SqL K H1 a xs) /\ ∃ W:Nat->Nat->List V->St->Hp->Prop,(∃ m,W 0 m [] σ0 H1) /\ ∀ i m ys σ H,W i m ys σ H ->
 ((Itl K a).stop i H /\ ys.length <= sizeLine /\ ∀ p,H p=none->Q (.ref p) (upd H p (.lst ys))) ∨
 ((Itl K a).go i H /\ ys.length < sizeLine /\ ∀ x H',(Itl K a).yld i H x H'->g x σ H' fun σ2 H2=>tt σ2 H2 fun b H3=>if b=true then te σ2 H3 fun y H4=>∃ m',m' < m /\ W (i+1) m' (ys++[y]) σ2 H4 else ∃ m',m' < m /\ W (i+1) m' ys σ2 H3)
theorem tCompL_eq {k:Nat} {js:List Nat} {K:W.Frag} {tl:TE} {g:TG} {tt:TT} {te:TE} {σ:St} {H:Hp} {Q:VK}:ZB3 k js (ZCk K tl) g tt te σ H Q=tl σ H (fun x H1=>ZCm K g tt te (up k js σ) Q x H1):=rfl
theorem ZB0 {K:W.Frag} {a:Addr} {xs:List V} {g:TG} {tt:TT} {te:TE} {Q:VK} {σ0:St} {H:Hp} (h:SqL K H a xs) (hz:xs.length <= 1000) (P:Nat->List V->St->Hp->Prop) (h0:P 0 [] σ0 H) (hl:∀ i ys σ H,i <= xs.length->P i ys σ H->SqL K H a xs /\ ys.length <= i)
  (hs:∀ i ys x σ H,i < xs.length->xs[i]?=some x->P i ys σ H->g x σ H fun σ2 H2=>tt σ2 H2 fun b H3=>if b=true then te σ2 H3 fun y H4=>Nxt P xs.length i (ys++[y]) σ2 H4 else Nxt P xs.length i ys σ2 H3)
  (hd:∀ ys σ H,P xs.length ys σ H->∀ p,H p=none->Q (.ref p) (upd H p (.lst ys))):ZCm K g tt te σ0 Q (.ref a) H:=⟨a,rfl,⟨xs,h⟩,comp_list P h0 hl (ZAZ hz) hs hd⟩
noncomputable def compR (lo:Int) (g:TG) (tt:TT) (te:TE) (σ0:St) (Q:VK) (n:Nat) (H1:Hp):Prop:=∃ W:Nat->Nat->List V->St->Hp->Prop,(∃ m,W 0 m [] σ0 H1) /\ ∀ i m ys σ H,W i m ys σ H ->
 ((Itr lo n).stop i H /\ ys.length <= sizeLine /\ ∀ p,H p=none->Q (.ref p) (upd H p (.lst ys))) ∨
 ((Itr lo n).go i H /\ ys.length < sizeLine /\ ∀ x H',(Itr lo n).yld i H x H'->g x σ H' fun σ2 H2=>tt σ2 H2 fun b H3=>if b=true then te σ2 H3 fun y H4=>∃ m',m' < m /\ W (i+1) m' (ys++[y]) σ2 H4 else ∃ m',m' < m /\ W (i+1) m' ys σ2 H3)
noncomputable def compR1 (g:TG) (tt:TT) (te:TE) (σ0:St) (Q:VK) (x:V) (H1:Hp):Prop:=∃ j:Int,[x]=[.int j] /\ -(2 ^ 62) <= j /\ j < 2 ^ 62 /\ compR 0 g tt te σ0 Q j.toNat H1
theorem tCompR1_eq {k:Nat} {js:List Nat} {t:TE} {g:TG} {tt:TT} {te:TE} {σ:St} {H:Hp} {Q:VK}:ZB3 k js (ZCj (ZBI t tNil)) g tt te σ H Q=t σ H (fun x H1=>compR1 g tt te (up k js σ) Q x H1):=rfl
theorem compR1_of {j:Int} {g:TG} {tt:TT} {te:TE} {Q:VK} {σ0:St} {H:Hp} (h:-1000 <= j /\ j <= 1000) (P:Nat->List V->St->Hp->Prop) (h0:P 0 [] σ0 H) (hl:∀ i ys σ H,P i ys σ H->ys.length <= i)
  (hs:∀ i ys σ H,i < j.toNat->P i ys σ H->g (.int (0+i)) σ H fun σ2 H2=>tt σ2 H2 fun b H3=>if b=true then te σ2 H3 fun y H4=>Nxt P j.toNat i (ys++[y]) σ2 H4 else Nxt P j.toNat i ys σ2 H3)
  (hd:∀ ys σ H,P j.toNat ys σ H->∀ p,H p=none->Q (.ref p) (upd H p (.lst ys))):compR1 g tt te σ0 Q (.int j) H:=⟨j,rfl,by omega,by omega,comp_range P h0 hl (ZAZ (by omega)) hs hd⟩
section
variable {X:Cx}
end
theorem gCons_eq {t:TG} {u:TGs} {v:V} {r:List V} {σ:St} {H:Hp} {Q:St->Hp->Prop}:gCons t u (v::r) σ H Q=t v σ H (fun σ' H'=>u r σ' H' Q):=by
 apply propext;unfold gCons;constructor
 .rintro ⟨v',r',e,q⟩;cases e;exact q
 .exact fun q=>⟨v,r,rfl,q⟩
theorem gNil_eq {σ:St} {H:Hp} {Q:St->Hp->Prop}:gNil [] σ H Q=Q σ H:=by
 apply propext;unfold gNil;simp
section
variable {X:Cx} {tg l e o:Expr} {es:List Expr} {tl te to:TE} {t:TA} {pos apos cpos:Pos} {f:Str}
theorem ix_listK (K:W.Frag) (h:X.K=K:=by rfl):IxR X (rIxL K):=h ▸ ZAl
end
section
variable {X:Cx}
theorem tAug_eq {i:Nat} {te:TE} {ti:TIp} {D:Ends} {σ:St} {H:Hp}:tAug i te ti D σ H=tVar i σ H (fun x H0=>te σ H0 fun y H1=>ti x y H1 fun z H2=>D.nx (σ.set i (some z)) H2):=rfl
theorem ipI_int {f:Int->Int->Int} {i j:Int} {H:Hp} {Q:VK}:ipI f (.int i) (.int j) H Q=Q (.int (f i j)) H:=by
 refine propext ⟨?_,fun q=>⟨i,j,rfl,rfl,q⟩⟩
 rintro ⟨a,b,e1,e2,q⟩
 cases e1;cases e2;exact q
theorem cx_K {CX:CXT} {P:Program} {w:World} {K:W.Frag} {mg:Str->Option Value} {base:Heap} {N:List Str} {qual:Str} {scope:Scope} {f:Addr} {cd:Value} {A:Around} {outer:List Env} {s:Shared} {H:Hp} {E:XK}:(cxOf CX P w K mg base N qual scope f cd A outer s H E).K=K:=rfl
noncomputable def wBody (W:Nat->St->Hp->Prop) (m:Nat) (tb:TS) (D:Ends) (σ:St) (H1:Hp):Prop:=∃ N:St->Hp->Prop,(∀ σ' H',N σ' H'->∃ m',m' < m /\ W m' σ' H') /\ tb { D with nx:=N,ct:=N,bk:=D.nx } σ H1
theorem wBody_of {W:Nat->St->Hp->Prop} {m:Nat} {tb:TS} {D:Ends} {σ:St} {H1:Hp} (h:tb { D with nx:=fun σ' H'=>∃ m',m' < m /\ W m' σ' H',ct:=fun σ' H'=>∃ m',m' < m /\ W m' σ' H',bk:=D.nx } σ H1):wBody W m tb D σ H1:=⟨_,fun _ _ q=>q,h⟩
theorem while_of {c:TT} {tb:TS} {D:Ends} {σ:St} {H:Hp} (W:Nat->St->Hp->Prop) (h0:∃ m,W m σ H) (hs:∀ m σ H,W m σ H->c σ H fun b H1=>if b=true then wBody W m tb D σ H1 else D.nx σ H1):tWhile c tb D σ H:=⟨W,h0,hs⟩
noncomputable def insV (xs:List V) (i:Int) (y:V):List V:=let k:=if i < 0 then (i+(xs.length:Int)).toNat else min i.toNat xs.length;xs.take k++y::xs.drop k
noncomputable def rInsert:V->List V->Hp->VK->Prop:=fun x vs H Q=>∃ l xs i y,x=.ref l /\ vs=[.int i,y] /\ H l=some (.lst xs) /\ xs.length < sizeLine /\ (-(2 ^ 62) <= i /\ i < 2 ^ 62) /\ Q .non (upd H l (.lst (insV xs i y)))
theorem ins_arr (its:List Value) (k:Nat) (u:Value) (hk:k <= its.length):(its.toArray.extract 0 k).push u++its.toArray.extract k=(its.take k++u::its.drop k).toArray:=by
 apply Array.ext'
 simp
 exact yBC (by rw [yAW];exact yAB _)
theorem insV_length (xs:List V) (i:Int) (y:V):(insV xs i y).length=xs.length+1:=by
 unfold insV
 dsimp only
 rw [yAD,yAX,yAQ,yAW]
 omega
theorem Vals.ins {xs:List V} {us:List Value} {y:V} {u:Value} (r:Vals xs us) (q:RelV y u) (k:Nat):Vals (xs.take k++y::xs.drop k) (us.take k++u::us.drop k):=(r.take k).append (.cons q (r.drop k))
theorem mt_insert:MtM X "list.insert" rInsert:=by
 intro pins s σ H x vs v us Q I rx rv h
 obtain ⟨l,xs,i,y,rfl,rfl,hH,hz,hi,q⟩:=h
 cases rx
 obtain ⟨u,u2,rfl,ru,ru2⟩:=rv.two
 obtain ⟨t,rfl⟩:=ru
 obtain ⟨z,its,n,r,hl,e⟩:=I.lstM hH
 have hc0:¬(!Builtin.List.listFitsIndex i)=true:=by
  unfold Builtin.List.listFitsIndex
  have:(decide (-(2 ^ 63:Int) <= i) && decide (i < 2 ^ 63))=true:=by
   rw [Bool.and_eq_true];exact ⟨decide_eq_true (by omega),decide_eq_true (by omega)⟩
  simpa using this
 refine call_meets F.slot_list_insert ⟨_,e,rfl⟩ F.entry_list_insert (F.args_list_insert_3 _ _ _) (PySem.AutoListH.list_insert_list_int_val_1 l its.toArray n i t u2 hc0 (by rw [yAF];omega)) ⟨e,?_⟩
 have hk:(if i < 0 then (i+(its.length:Int)).toNat else min i.toNat its.length) <= its.length:=by split <;> omega
 refine ⟨.non,_,I.lset (its':=its.take (if i < 0 then (i+(its.length:Int)).toNat else min i.toNat its.length)++u2::its.drop (if i < 0 then (i+(its.length:Int)).toNat else min i.toNat its.length)) hH e ?_ (ys:=insV xs i y) ?_ ?_,rfl,q⟩
 .show (its.toArray.extract 0 _).push u2++its.toArray.extract _=_
  rw [yAF]
  exact ins_arr its _ u2 hk
 .unfold insV
  rw [hl]
  exact r.ins ru2 _
 .rw [insV_length];omega
end
structure Enc {α:Type} [DecidableEq α] (e:α->PyData) (n:Nat):Prop where
 eq:∀ a b,PyData.eqv (e a) (e b)=decide (a=b)
 lay:∀ a,(e a).canLay0=true
 dep:∀ a,(e a).depth <= n
theorem Enc.int:Enc PyData.int 0:=⟨fun a b=>by unfold PyData.eqv;rw [Bool.eq_iff_iff];simp,fun a=>by unfold PyData.canLay0;rfl,fun a=>by unfold PyData.depth;exact yAB _⟩
section
variable {α β γ:Type} [DecidableEq α] [DecidableEq β] [DecidableEq γ] {e:α->PyData} {f:β->PyData} {g:γ->PyData} {n m k:Nat}
theorem Enc.all (h:Enc e n):∀ xs ys:List α,PyData.eqvAll (xs.map e) (ys.map e)=decide (xs=ys)
 | [],[]=>by simp [PyData.eqvAll]
 | x::xs,[]=>by simp [PyData.eqvAll]
 | [],y::ys=>by simp [PyData.eqvAll]
 | x::xs,y::ys=>by
  rw [yAJ,yAJ]
  unfold PyData.eqvAll
  rw [h.eq,h.all xs ys,<- Bool.decide_and]
  exact decide_eq_decide.mpr (by rw [List.cons.injEq])
theorem Enc.layAll (h:Enc e n):∀ xs:List α,PyData.canLayAll0 (xs.map e)=true
 | []=>by simp [PyData.canLayAll0]
 | x::xs=>by rw [yAJ];unfold PyData.canLayAll0;rw [h.lay,h.layAll xs];rfl
theorem Enc.depAll (h:Enc e n):∀ xs:List α,PyData.depthAll (xs.map e) <= n
 | []=>by simp [PyData.depthAll]
 | x::xs=>by
  rw [yAJ];unfold PyData.depthAll
  have a:=h.dep x
  have b:=h.depAll xs
  omega
theorem Enc.list (h:Enc e n):Enc (fun xs:List α=>PyData.list (xs.map e)) (n+1) :=
 ⟨fun a b=>by unfold PyData.eqv;exact h.all a b,fun a=>by unfold PyData.canLay0;exact h.layAll a,fun a=>by unfold PyData.depth;have:=h.depAll a;omega⟩
theorem Enc.tuple (h:Enc e n):Enc (fun xs:List α=>PyData.tuple (xs.map e)) (n+1) :=
 ⟨fun a b=>by unfold PyData.eqv;exact h.all a b,fun a=>by unfold PyData.canLay0;exact h.layAll a,fun a=>by unfold PyData.depth;have:=h.depAll a;omega⟩
theorem eqD_of {K:W.Frag} {H:Hp} {x y:V} {a b:α} {Q:VK} (h:Enc e n) (hn:n <= 64) (dx:Dp K H (e a) x) (dy:Dp K H (e b) y) (q:Q (.bl (decide (a=b))) H):rEqD K x y H Q :=
 ⟨_,_,dx,dy,h.lay a,h.lay b,yAC (h.dep a) hn,by rw [h.eq];exact q⟩
end
theorem ZBg {K:W.Frag} {H:Hp} {a:Addr} {xs:List Int} (h:SqL K H a (xs.map V.int)):Dp K H (.list (xs.map PyData.int)) (.ref a):=ZCV h (DpAll.ints xs)
theorem dp_intsT {K:W.Frag} {H:Hp} {a:Addr} {xs:List Int} (h:SqT K H a (xs.map V.int)):Dp K H (.tuple (xs.map PyData.int)) (.ref a):=dp_tup h (DpAll.ints xs)
section
variable {K:W.Frag} {H:Hp} {R:Bool->Prop}
theorem ZBz {x c:V} {ty:Value} {b:Bool} (hc:ZBk c=true) (t:TyOf K H x ty) (k:PySem.W.kitOne K ty (cval c)=some b) (q:R b):∃ x' c' ty b,[x,c]=[x',c'] /\ ZBk c'=true /\ TyOf K H x' ty /\ PySem.W.kitOne K ty (cval c')=some b /\ R b:=⟨x,c,ty,b,rfl,hc,t,k,q⟩
theorem inst_int {i:Int} (q:R true):∃ x' c' ty b,[V.int i,V.ty "int"]=[x',c'] /\ ZBk c'=true /\ TyOf K H x' ty /\ PySem.W.kitOne K ty (cval c')=some b /\ R b:=ZBz rfl (.int i) (ZBy rfl) q
theorem inst_int_bl {i:Int} (k:PySem.W.kitOne K (.type "int") (.type "bool")=some false) (q:R false):∃ x' c' ty b,[V.int i,V.ty "bool"]=[x',c'] /\ ZBk c'=true /\ TyOf K H x' ty /\ PySem.W.kitOne K ty (cval c')=some b /\ R b:=ZBz rfl (.int i) k q
theorem inst_lst {a:Addr} {xs:List V} (h:H a=some (.lst xs)) (q:R true):∃ x' c' ty b,[V.ref a,V.ty "list"]=[x',c'] /\ ZBk c'=true /\ TyOf K H x' ty /\ PySem.W.kitOne K ty (cval c')=some b /\ R b:=ZBz rfl (.lst h) (ZBy rfl) q
end
section
variable {P:Program} {w:World} {K:W.Frag} {mg:Str->Option Value} {base:Heap}
end
section
variable {X:Cx} {CX:CXT} {k:Nat} {ps:List Str} {sp:Sp} {dvs:List V} {E:XK} {x m:Str} {C:Addr} {p pos apos:Pos} {e o:Expr} {es:List Expr} {ta:TE} {t:TA}
end
section
variable {X:Cx}
theorem all_range {bs:List Bool}:(List.range bs.length).all (fun i=>bs.getD i true)=bs.all id:=by
 induction bs with
 | nil=>rfl
 | cons b r ih=>
  rw [yAX,List.range_succ_eq_map,List.all_cons,List.all_map,List.all_cons]
  show (b && (List.range r.length).all fun i=>r.getD i true)=_
  rw [ih]
  rfl
theorem call_all (hc:X.calm=true):ZBH X (.builtin "all") (fun xs H Q=>∃ (p:Addr) (bs:List Bool),xs=[.ref p] /\ SqL X.K H p (bs.map V.bl) /\ Q (.bl (bs.all id)) H):=by
 intro pins s σ H xs us Q I r h
 obtain ⟨p,bs,rfl,hq,q⟩:=h
 obtain ⟨u,rfl,rx⟩:=ZBV r
 cases rx
 obtain ⟨its,r',pl,hz⟩:=I.list hq
 have hlen:=r'.length
 rw [yAA] at hlen
 have hh:X.A.handled=none:=I.ok.hd hc
 have hl:=pl.isList
 have hlt:p < s.heap.objs.size:=by obtain ⟨_,e,_⟩:=hl;exact Heap.lt_size e
 refine call_all_walk (wpAny_pyIter_list hl ⟨s.heap.objs.size,_,_,_,_,_,fun i=>bs.getD i true,rfl,Walks.list (A:=X.A.in1) hh s.heap.objs.size p (yAH hlt) its.toArray,⟨⟨_,Heap.get?_push_size _ rfl,rfl,rfl⟩,hl.push _⟩,?_,fun h' tk hk=>?_⟩)
 .intro i v s' Q' E' hP hQ
  have hP':its[i]?=some v:=by simpa using hP
  have hi:i < its.length:=(yAT.mp hP').1
  obtain ⟨b,hb⟩:∃ b,bs[i]?=some b:=⟨_,yAM (by omega)⟩
  obtain ⟨u,hu,ru⟩:=r'.get (i:=i) (x:=.bl b) (by rw [yAR,hb];rfl)
  rw [hP'] at hu
  cases hu
  cases ru
  have hQ':Q' b s':=by
   have e:bs.getD i true=b:=by rw [yBD,hb];rfl
   rw [<- e];exact hQ
  exact wpAny_truthy_bool hQ'
 .refine ⟨.bl (bs.all id),H,I.kept (t':=tk) (fun b o e=>hk b o ?_ (Heap.get?_push_of_some _ e)),?_,q⟩
  .intro z
   have:b=s.heap.objs.size:=by simpa using z
   exact absurd (Heap.lt_size e) (by rw [this];exact yAS _)
  .have:its.toArray.size=bs.length:=by simp [hlen]
   rw [this,all_range]
   rfl
theorem rng_ok {P:Program} {w:World} {H:Hp} {h:Heap} {a:Addr} {lo hi:Int} {t u v:Tok} (e:h.get? a=some { cls:=.type "range",data:=.fields #[.int lo t,.int hi u,.int 1 v] }):ObjOk P w H h a (.rng lo hi):=⟨t,u,v,e⟩
theorem call_rng1:ZBH X (.type "range") (fun xs H Q=>∃ n:Int,xs=[.int n] /\ ∀ p,H p=none->Q (.ref p) (upd H p (.rng 0 n))):=by
 intro pins s σ H xs us Q I r h
 obtain ⟨n,rfl,q⟩:=h
 obtain ⟨u,rfl,rx⟩:=ZBV r
 obtain ⟨t,rfl⟩:=rx
 exact call_range_1 ⟨.ref s.heap.objs.size,_,I.laid (fun b o e=>Heap.get?_push_of_some _ e) (yAB _) (rng_ok (Heap.get?_push_size _ rfl)),rfl,q _ (I.hok.fresh (yAB _))⟩
noncomputable def ZBE (lo hi:Int):List Int:=(List.range (hi-lo).toNat).map fun i:Nat=>lo+(i:Int)
theorem rints_length (lo hi:Int):(ZBE lo hi).length=(hi-lo).toNat:=by unfold ZBE;rw [yAA,List.length_range]
theorem rints_get {lo hi:Int} {i:Nat} (h:i < (hi-lo).toNat):(ZBE lo hi)[i]?=some (lo+i):=by unfold ZBE;rw [yAR,List.getElem?_range h];rfl
theorem call_list_rng (hc:X.calm=true):ZBH X (.type "list") (fun xs H Q=>∃ (p:Addr) (lo hi:Int),xs=[.ref p] /\ H p=some (.rng lo hi) /\ (-1000 <= lo /\ lo <= 1000 /\ -1000 <= hi /\ hi <= 1000) /\ ∀ l,H l=none->Q (.ref l) (upd H l (.lst ((ZBE lo hi).map V.int)))):=by
 intro pins s σ H xs us Q I r h
 obtain ⟨p,lo,hi,rfl,hp,hb,q⟩:=h
 obtain ⟨u,rfl,rx⟩:=ZBV r
 cases rx
 obtain ⟨t,u,v,e⟩:=I.hok p _ hp
 have hh:X.A.handled=none:=I.ok.hd hc
 refine call_list_range (n:=(hi-lo).toNat) hh e (small_one (by omega) (by omega) (by omega) (by omega)) (by rw [rangeSize_one];split <;> omega) (by omega) fun h' tk acc' c' hk hS hacc=>?_
 have hz:(ZBE lo hi).length <= 1000 * 2:=by rw [rints_length];omega
 refine ⟨.ref s.heap.objs.size,_,I.laid (t':=tk) hk (yAB _) (o:=.lst ((ZBE lo hi).map V.int)) ⟨?_,acc'.toList,c',?_,by simpa using hS⟩,rfl,q _ (I.hok.fresh (yAB _))⟩
 .rw [yAA]
  exact yAC hz (by decide)
 .have hsz:acc'.size=(hi-lo).toNat:=hacc.1
  have gen:∀ (vs:List Value) (k:Nat) (zs:List Int),vs.length=zs.length->(∀ (j:Nat) v z,vs[j]?=some v->zs[j]?=some z->∃ t,v=Value.int z t)->Vals (zs.map V.int) vs:=by
   intro vs
   induction vs with
   | nil=>intro k zs h1 _;cases zs with
    | nil=>exact .nil
    | cons _ _=>cases h1
   | cons v r ih=>intro k zs h1 h2;cases zs with
    | nil=>cases h1
    | cons z zr=>exact .cons (h2 0 v z rfl rfl) (ih 0 zr (by simpa using h1) fun j v' z' a b=>h2 (j+1) v' z' (by simpa using a) (by simpa using b))
  refine gen acc'.toList 0 (ZBE lo hi) (by rw [rints_length,Array.length_toList,hsz]) fun j v z a b=>?_
  have a':acc'[j]?=some v:=by simpa using a
  obtain ⟨t,rfl⟩:=hacc.2 j v a'
  have hj:j < (hi-lo).toNat:=by have:=(yBB.mp a').1;omega
  rw [rints_get hj] at b
  cases b
  exact ⟨t,by rw [Int.mul_one]⟩
theorem call_sorted:ZBH X (.builtin "sorted") (fun xs H Q=>∃ (p:Addr) (ns:List Int),xs=[.ref p] /\ SqL X.K H p (ns.map V.int) /\ ns.length < 64 /\ ∀ (l:Addr) (ms:List Int),H l=none->ms.Perm ns->ms.Pairwise (· <= ·)->Q (.ref l) (upd H l (.lst (ms.map V.int)))):=by
 intro pins s σ H xs us Q I r h
 obtain ⟨p,ns,rfl,hq,hn,q⟩:=h
 obtain ⟨u,rfl,rx⟩:=ZBV r
 cases rx
 obtain ⟨its,r',pl,hz⟩:=I.list hq
 have hlen:=r'.length
 rw [yAA] at hlen
 refine sorted_ints pl.isList (intsAre_of r') (by omega) fun out ns' a1 a2 a3=>?_
 obtain ⟨e,he⟩:=sortedAll_at s.heap its out
 have hl':ns'.length=ns.length:=a2.length_eq
 refine ⟨.ref (s.heap.objs.size+1),_,I.laid (t':=s.toks) (fun b o e=>sortedAll_old e) (yAN _) (o:=.lst (ns'.map V.int)) ⟨?_,out.toList,e,ZBU a1,by simpa using he⟩,rfl,q _ ns' (I.hok.fresh (yAN _)) a2 a3⟩
 rw [yAA]
 exact yAC (show ns'.length <= 1000 by omega) (by decide)
end
theorem Same.get {H H':Hp} {b:Addr} {o:HO} (s:Same H H') (h:H b=some o):H' b=some o:=s b o h
theorem newH {H:Hp} {p:Addr} (h:H p=none) (o:HO):∃ H',upd H p o=H' /\ Same H H' /\ H' p=some o:=⟨_,rfl,ZAG h o,ZAH⟩
section
variable {K:W.Frag} {a:Addr} {xs:List V} {te:TE} {Q:VK} {σ0 rest:St} {H:Hp}
theorem compL_gen (h:SqL K H a xs) (hz:xs.length <= 1000) (e0:σ0=none::rest) (R:V->V->Hp->Prop) (mono:∀ x y H1 H2,Same H1 H2->R x y H1->R x y H2)
  (hs:∀ (i:Nat) x H',xs[i]?=some x->Same H H'->∀ Q':VK,(∀ y H4,Same H' H4->R x y H4->Q' y H4)->te (some x::rest) H' Q')
  (hd:∀ ys H' p,ys.length=xs.length->(∀ (j:Nat) x y,xs[j]?=some x->ys[j]?=some y->R x y H')->Same H H'->H' p=none->Q (.ref p) (upd H' p (.lst ys))):ZCm K (ZCK 0) tYes te σ0 Q (.ref a) H:=by
 subst e0
 refine ZB0 h hz (fun i ys σ H'=>∃ v,σ=v::rest /\ Same H H' /\ ys.length=i /\ ∀ (j:Nat) x y,xs[j]?=some x->ys[j]?=some y->R x y H') ⟨_,rfl,.refl _,rfl,fun j x y _ q=>by cases q⟩ ?_ ?_ ?_
 .rintro i ys σ H' _ ⟨v,rfl,e,hl,_⟩
  exact ⟨e.seq h,Nat.le_of_eq hl⟩
 .rintro i ys x σ H' hi hx ⟨v,rfl,e,hl,hR⟩
  show te (some x::rest) H' _
  refine hs i x H' hx e _ fun y H4 q1 q2=>?_
  refine Nxt.of hi ⟨_,rfl,e.trans q1,by rw [yAD,hl];rfl,fun j x' y' hx' hy'=>?_⟩
  by_cases hj:j < ys.length
  .rw [List.getElem?_append_left hj] at hy'
   exact mono _ _ _ _ q1 (hR j x' y' hx' hy')
  .rw [List.getElem?_append_right (by omega)] at hy'
   have:j-ys.length=0:=by
    rcases Nat.eq_zero_or_pos (j-ys.length) with z | z
    .exact z
    .rw [List.getElem?_eq_none (show [y].length <= j-ys.length from z)] at hy'
     cases hy'
   rw [this] at hy'
   cases hy'
   rw [show j=i by omega,hx] at hx'
   cases hx'
   exact q2
 .rintro ys σ H' ⟨v,rfl,e,hl,hR⟩ p hp
  exact hd ys H' p hl hR e hp
end
section
variable {X:Cx} {pins:List (Addr×Obj)} {σ:St} {H:Hp} {s:Shared}
end
noncomputable def Ite (K:W.Frag) (a:Addr):It :=
 ⟨fun i H=>∃ xs x,SqL K H a xs /\ xs[i]?=some x,fun i H v H'=>∃ p x,H p=none /\ (∀ xs,SqL K H a xs->xs[i]?=some x) /\ H'=upd H p (.tup [.int i,x]) /\ v=.ref p,fun i H=>∃ xs,SqL K H a xs /\ xs.length <= i⟩
section
variable {X:Cx}
noncomputable def iEnum (K:W.Frag) (ta:TA):TI:=fun σ H R=>ta σ H fun vs H1=>∃ a,vs=[.ref a] /\ (∃ xs,SqL K H1 a xs) /\ R (Ite K a) H1
end
section
variable {K:W.Frag} {a:Addr} {xs:List V} {g:TG} {tb:TS} {D:Ends} {σ:St} {H:Hp}
noncomputable def forE (K:W.Frag) (g:TG) (tb:TS) (D:Ends) (σ:St) (x:V) (H1:Hp):Prop:=∃ a,[x]=[.ref a] /\ (∃ xs,SqL K H1 a xs) /\ ∃ W:Nat->Nat->St->Hp->Prop,(∃ m,W 0 m σ H1) /\ ∀ i m σ H,W i m σ H ->
 ((Ite K a).stop i H /\ D.nx σ H)∨((Ite K a).go i H /\ ∃ N:St->Hp->Prop,(∀ σ' H',N σ' H'->∃ m',m' < m /\ W (i+1) m' σ' H') /\ ∀ x H',(Ite K a).yld i H x H'->g x σ H' fun σ2 H2=>tb { D with nx:=N,ct:=N,bk:=D.nx } σ2 H2)
theorem tForE_eq {t:TE}:tFor (iEnum K (ZBI t tNil)) g tb D σ H=t σ H (fun x H1=>forE K g tb D σ x H1):=rfl
variable {tt:TT} {te:TE} {Q:VK} {σ0:St}
noncomputable def compE (K:W.Frag) (g:TG) (tt:TT) (te:TE) (σ0:St) (Q:VK) (x:V) (H1:Hp):Prop:=∃ a,[x]=[.ref a] /\ (∃ xs,SqL K H1 a xs) /\ ∃ W:Nat->Nat->List V->St->Hp->Prop,(∃ m,W 0 m [] σ0 H1) /\ ∀ i m ys σ H,W i m ys σ H ->
 ((Ite K a).stop i H /\ ys.length <= sizeLine /\ ∀ p,H p=none->Q (.ref p) (upd H p (.lst ys))) ∨
 ((Ite K a).go i H /\ ys.length < sizeLine /\ ∀ x H',(Ite K a).yld i H x H'->g x σ H' fun σ2 H2=>tt σ2 H2 fun b H3=>if b=true then te σ2 H3 fun y H4=>∃ m',m' < m /\ W (i+1) m' (ys++[y]) σ2 H4 else ∃ m',m' < m /\ W (i+1) m' ys σ2 H3)
theorem tCompE_eq {k:Nat} {js:List Nat} {t:TE}:ZB3 k js (iEnum K (ZBI t tNil)) g tt te σ H Q=t σ H (fun x H1=>compE K g tt te (up k js σ) Q x H1):=rfl
end
noncomputable abbrev FZ (o:Obj):HO:=.frz o (.ext fun _=>True)
open Classical in
noncomputable def hid (cl:List (Str×Addr)) (H:Hp):Hp:=fun b=>if ∃ x,cl.lookup x=some b then none else H b
open Classical in
noncomputable def back (cl:List (Str×Addr)) (H H1:Hp):Hp:=fun b=>if ∃ x,cl.lookup x=some b then H b else H1 b
noncomputable def startC (N:List Str) (vs cs:List V):St:=vs.map some++(List.replicate (N.length-vs.length-cs.length) none++cs.map some)
noncomputable def cxClo (P:Program) (w:World) (K:W.Frag) (mg:Str->Option Value) (base:Heap) (N:List Str) (qual:Str) (scope:Scope) (f:Addr) (cd:Value) (cl:List (Str×Addr)) (A:Around) (outer:List Env) (s:Shared) (H:Hp):Cx where
 prog:=P
 w:=w
 K:=K
 mg:=mg
 base:=base
 A:=A.deeper (PySem.W.envX qual scope s.heap.objs.size f cd cl)
 N:=N
 s₀:=s
 H₀:=H
 env:=PySem.W.envX qual scope s.heap.objs.size f cd cl
 outer:=outer
 stack:=PySem.W.envX qual scope s.heap.objs.size f cd cl::outer
 ex:=[]
 calm:=true
 fn:=fun _=>false
 pn:=[]
 xe:=fun _ _=>False
section
variable {P:Program} {w:World} {K:W.Frag} {mg:Str->Option Value} {base:Heap} {A:Around} {outer:List Env} {s:Shared} {H:Hp} {g:Addr} {iname iq:Str} {ip:Arguments} {ib:List Stmt} {isc:Scope} {N ps fr:List Str} {cs vs:List V} {us:List Value} {cl:List (Str×Addr)} {k:Nat}
end
noncomputable def tCallV (r:V->List V->Hp->VK->Prop) (ta:TE) (t:TA):TE:=fun σ H Q=>ta σ H fun f H1=>(∃ g o,f=.ref g /\ H1 g=some (FZ o) /\ ∃ fd,o.data=.func fd) /\ t σ H1 fun vs H2=>r f vs H2 Q
section
variable {X:Cx} {pins:List (Addr×Obj)} {σ:St} {H:Hp} {s:Shared}
end
theorem cx_cloK {P:Program} {w:World} {K:W.Frag} {mg:Str->Option Value} {base:Heap} {N:List Str} {qual:Str} {scope:Scope} {f:Addr} {cd:Value} {cl:List (Str×Addr)} {A:Around} {outer:List Env} {s:Shared} {H:Hp}:(cxClo P w K mg base N qual scope f cd cl A outer s H).K=K:=rfl
section
variable {prog:Program} {w:World} {A:Around} {R:Result->Shared->Prop} {I:Addr} {fp wr:List Addr} {n:Nat} {P:Nat->Value->Prop} {St:Nat->Heap->Prop}
end
section
variable {prog:Program} {w:World} {A:Around} {E:Value->Shared->Prop} {s:Shared} {l:Addr}
end
noncomputable def maxD (d:Int):List Int->Int
 | []=>d
 | x::r=>r.foldl (fun m y=>if m < y then y else m) x
section
variable {X:Cx} {e d:Expr} {te td:TE} {p pos:Pos} {kpos:Pos}
noncomputable def tMaxD (K:W.Frag) (te td:TE):TE:=fun σ H Q=>te σ H fun x H1=>td σ H1 fun y H2=>∃ a ns dd,x=.ref a /\ y=.int dd /\ SqL K H2 a (ns.map V.int) /\ Q (.int (maxD dd ns)) H2
end
theorem lkc {k k':Str} {v:V} {r:List (Str×V)}:List.lookup k ((k',v)::r)=if k=k' then some v else List.lookup k r:=by
 rw [yBA]
 by_cases h:k=k'
 .subst h;simp
 .have:(k == k')=false:=by simpa using h
  rw [this,if_neg h]
section
variable {K:W.Frag} {f:Str} {a C:Addr} {fl:List (Str×V)} {v:V} {H:Hp}
end
noncomputable def augA (K:W.Frag) (tv:TE) (rd:V->V->Hp->VK->Prop) (f:Str) (D:Ends) (σ:St) (x:V) (H1:Hp):Prop:=∃ a C dx fs v,x=.ref a /\ H1 a=some (.ins C dx fs) /\ Cls K C /\ ZBh K C f /\ fs.lookup f=some v /\
 tv σ H1 fun y H2=>rd v y H2 fun z H3=>∃ dx' fs',H3 a=some (.ins C dx' fs') /\ fs'.length < 1000 /\ D.nx σ (upd H3 a (.ins C dx' (putF f z fs')))
theorem sFldAug_eq {K:W.Frag} {ta tv:TE} {rd:V->V->Hp->VK->Prop} {f:Str} {D:Ends} {σ:St} {H:Hp}:sFldAug K ta tv rd f D σ H=ta σ H (fun x H1=>augA K tv rd f D σ x H1):=rfl
section
variable {X:Cx}
end
end L2
namespace PySem
namespace F
end F
section
variable {prog:Program} {w:World} {A:Around} {s:Shared} {R:Result->Shared->Prop}
variable {I:Addr} {fp wr:List Addr} {G:Array GenState->Array GenState->Prop} {n:Nat} {P:Nat->Value->Prop} {St:Nat->Shared->Prop}
end
section
variable {prog:Program} {w:World} {A:Around} {E:Value->Shared->Prop} {s:Shared}
variable {I:Addr} {fp wr:List Addr} {G:Array GenState->Array GenState->Prop} {n:Nat} {P:Nat->Value->Prop} {St:Nat->Shared->Prop}
end
end PySem
namespace L2
open PySem PySem.Spec PyProof.Rows
noncomputable def tRevL (K:W.Frag) (t:TA):TE:=fun σ H Q=>t σ H fun vs H1=>∃ (l:Addr) (ys:List V),vs=[.ref l] /\ SqL K H1 l ys /\ ∀ r,H1 r=none->Q (.ref r) (upd H1 r (.lst ys.reverse))
section
variable {X:Cx} {e:Expr} {ta:TA} {p p2 pos pos2:Pos}
end
theorem eqD_refl {K:W.Frag} {H:Hp} {x y:V} {d:PyData} {Q:VK} (hx:Dp K H d x) (hy:Dp K H d y) (hc:d.canLay0=true) (hd:d.depth <= 64) (q:Q (.bl true) H):rEqD K x y H Q :=
 ⟨d,d,hx,hy,hc,hc,hd,by rw [PySem.SeqAt.eqv_refl d hc];exact q⟩
noncomputable def compR2 (g:TG) (tt:TT) (te:TE) (σ0:St) (Q:VK) (x y:V) (H1:Hp):Prop:=∃ i j:Int,[x,y]=[.int i,.int j] /\ (-(2 ^ 62) <= i /\ i < 2 ^ 62 /\ -(2 ^ 62) <= j /\ j < 2 ^ 62) /\ compR i g tt te σ0 Q (j-i).toNat H1
theorem tCompR2_eq {k:Nat} {js:List Nat} {t u:TE} {g:TG} {tt:TT} {te:TE} {σ:St} {H:Hp} {Q:VK}:ZB3 k js (iRng2 (ZBI t (ZBI u tNil))) g tt te σ H Q=t σ H (fun x H1=>u σ H1 fun y H2=>compR2 g tt te (up k js σ) Q x y H2):=rfl
section
variable {X:Cx}
end
noncomputable def Itz (K:W.Frag) (a b:Addr):It :=
 ⟨fun i H=>∃ xs x ys y,SqL K H a xs /\ xs[i]?=some x /\ SqL K H b ys /\ ys[i]?=some y,fun i H v H'=>∃ p x y,H p=none /\ (∀ xs,SqL K H a xs->xs[i]?=some x) /\ (∀ ys,SqL K H b ys->ys[i]?=some y) /\ H'=upd H p (.tup [x,y]) /\ v=.ref p,fun i H=>∃ xs ys,SqL K H a xs /\ SqL K H b ys /\ (xs.length <= i∨ys.length <= i)⟩
section
variable {X:Cx}
noncomputable def iZip (K:W.Frag) (ta:TA):TI:=fun σ H R=>ta σ H fun vs H1=>∃ a b,vs=[.ref a,.ref b] /\ (∃ xs,SqL K H1 a xs) /\ (∃ xs,SqL K H1 b xs) /\ R (Itz K a b) H1
end
section
variable {K:W.Frag} {a b:Addr} {xs ys:List V} {g:TG} {tb:TS} {D:Ends} {σ:St} {H:Hp}
noncomputable def forZ (K:W.Frag) (g:TG) (tb:TS) (D:Ends) (σ:St) (x y:V) (H1:Hp):Prop:=∃ a b,[x,y]=[.ref a,.ref b] /\ (∃ xs,SqL K H1 a xs) /\ (∃ xs,SqL K H1 b xs) /\ ∃ W:Nat->Nat->St->Hp->Prop,(∃ m,W 0 m σ H1) /\ ∀ i m σ H,W i m σ H ->
 ((Itz K a b).stop i H /\ D.nx σ H)∨((Itz K a b).go i H /\ ∃ N:St->Hp->Prop,(∀ σ' H',N σ' H'->∃ m',m' < m /\ W (i+1) m' σ' H') /\ ∀ x H',(Itz K a b).yld i H x H'->g x σ H' fun σ2 H2=>tb { D with nx:=N,ct:=N,bk:=D.nx } σ2 H2)
theorem tForZ_eq {t u:TE}:tFor (iZip K (ZBI t (ZBI u tNil))) g tb D σ H=t σ H (fun x H1=>u σ H1 fun y H2=>forZ K g tb D σ x y H2):=rfl
end
section
open PySem.SeqAt
open PySem.AutoSeq1 (wpAny_loadPart')
open PySem.MeetsSeq PySem.MeetsSeq2 PySem.MeetsSeq3 HT
end
section
variable {prog:Program} {w:World} {A:Around} {E:Value->Shared->Prop} {s:Shared}
end
section
variable {X:Cx}
end
end L2
namespace PySem
open Sem (wp)
theorem dict_mapFieldsD (o : Obj) (f) : (o.mapFields f).dict = o.dict := by
  unfold Obj.mapFields
  split <;> rfl
structure Kpo (o o' : Obj) : Prop where
  fr : o'.isFreed = o.isFreed
  di : o'.dict = o.dict
theorem Kpo.refl (o : Obj) : Kpo o o := ⟨rfl, rfl⟩
theorem Kpo.set (i : Nat) (v : Value) (o : Obj) : Kpo o (o.mapFields (·.setIfInBounds i v)) := by
  unfold Obj.mapFields
  split
  · exact ⟨rfl, rfl⟩
  · exact .refl _
def Kph (h h' : Heap) : Prop := ∀ b o, h.get? b = some o → ∃ u, h'.get? b = some u ∧ Kpo o u
theorem Kph.trans {h h' k : Heap} (x : Kph h h') (y : Kph h' k) : Kph h k := fun b o e => by
  obtain ⟨u, e1, q1⟩ := x b o e
  obtain ⟨w, e2, q2⟩ := y b u e1
  exact ⟨w, e2, q2.fr.trans q1.fr, q2.di.trans q1.di⟩
theorem Kph.upd (h : Heap) (a : Addr) {f : Obj → Obj} (hf : ∀ o, Kpo o (f o)) : Kph h (h.update a f) := fun b o e => by
  by_cases q : a = b
  · subst q
    exact ⟨_, Heap.get?_update_self f e ((hf o).fr.trans (Heap.get?_some_iff.mp e).2), hf o⟩
  · exact ⟨o, (Heap.get?_update_other h f q).trans e, .refl o⟩
inductive Tame {α : Type} : Sem α → Prop
  | pure (a) : Tame (.pure a)
  | no (w) : Tame (.unsupported w)
  | load {a p k} : (∀ o, Tame (k o)) → Tame (.load a p k)
  | upd {a p f k} : (∀ o, Kpo o (f o)) → Tame (k ()) → Tame (.update a p f k)
  | new {o k} : (∀ a, Tame (k a)) → Tame (.alloc o k)
  | stack {k} : (∀ l, Tame (k l)) → Tame (.stack k)
section
variable {α β : Type} {M : Model} {Γ : Ctx} {A : Around} {E : Value → Shared → Prop} {s : Shared}
theorem Tame.wp {t : Sem α} (T : Tame t) {Q : α → Pos → Shared → Prop} {E : Value → Pos → Shared → Prop} {p : Pos} : ∀ {s : Shared}, wp M Γ t Q E p s → wp M Γ t (fun a p z => Q a p z ∧ Kph s.heap z.heap) E p s := by
  have go : ∀ {t : Sem α} {s s1 : Shared}, Kph s.heap s1.heap → (∀ {s : Shared}, Sem.wp M Γ t Q E p s → Sem.wp M Γ t (fun a p z => Q a p z ∧ Kph s.heap z.heap) E p s) → Sem.wp M Γ t Q E p s1 → Sem.wp M Γ t (fun a p z => Q a p z ∧ Kph s.heap z.heap) E p s1 :=
    fun k ih h => Sem.wp_mono M Γ _ (fun _ _ _ z => ⟨z.1, k.trans z.2⟩) (fun _ _ _ z => z) _ _ (ih h)
  induction T with
  | pure => exact fun h => ⟨h, fun b o e => ⟨o, e, .refl o⟩⟩
  | no => exact id
  | load _ ih => exact fun ⟨o, e, h⟩ => ⟨o, e, ih o h⟩
  | upd f _ ih => exact fun ⟨e, h⟩ => ⟨e, go (Kph.upd _ _ f) ih h⟩
  | @new o k _ ih => exact fun {s} h => go (t := k s.heap.objs.size) (s1 := { s with heap := s.heap.push o }) (fun b u e => ⟨u, Heap.get?_push_of_some _ e, .refl u⟩) (ih _) h
  | stack _ ih => exact fun h => ih _ h
theorem Tame.any {t : Sem α} (T : Tame t) {Q : α → Shared → Prop} (h : wpAny M A t Q E s) : wpAny M A t (fun a z => Q a z ∧ Kph s.heap z.heap) E s := fun Γ p hΓ => T.wp (h Γ p hΓ)
theorem Tame.bind {m : Sem α} {f : α → Sem β} (x : Tame m) (y : ∀ a, Tame (f a)) : Tame (m >>= f) := by
  show Tame (m.bind f)
  induction x with
  | pure a => exact y a
  | no w => exact .no w
  | load _ ih => exact .load ih
  | upd h _ ih => exact .upd h ih
  | new _ ih => exact .new ih
  | stack _ ih => exact .stack ih
theorem Tame.ite {c : Prop} [Decidable c] {x y : Sem α} (hx : Tame x) (hy : Tame y) : Tame (if c then x else y) := by split <;> assumption
theorem tame_field (v : Value) (i : Nat) : Tame (field v i) := by
  refine .bind (m := fieldsOf v) ?_ fun a => ?_
  · unfold fieldsOf
    split
    · refine .bind (.load fun o => .pure o) fun o => ?_
      split
      · exact .pure _
      · exact .no _
    · exact .no _
  · split
    · exact .pure _
    · exact .no _
theorem tame_setField (i : Nat) (v x : Value) : Tame (setField v i x) := by
  unfold setField
  split
  · unfold updateField
    refine .bind (.load fun o => .pure o) fun o => ?_
    split
    · exact .ite (.upd (Kpo.set i x) (.pure _)) (.no _)
    · exact .no _
  · exact .no _
theorem tame_ready (l : List Env) : Tame (readyFrames l) := by
  induction l with
  | nil => exact .pure _
  | cons env r ih =>
    unfold readyFrames
    split
    next f hf =>
      refine .bind (.load fun o => .pure o) fun o => .ite (.pure _) (.bind ?_ fun b => .bind ?_ fun c => .bind (.upd (fun o => ⟨by cases o with | mk a b d c => cases d <;> rfl, rfl⟩) (.pure _)) fun _ => ih)
      · unfold behindIsImport
        exact .ite (.pure _) (.ite (.pure _) (.bind (tame_field _ _) fun _ => .pure _))
      · unfold keptBack
        split
        · exact .ite (.pure _) (.bind (.bind (.stack fun l => .pure l) fun _ => .pure _) fun _ => .pure _)
        · exact .pure _
    · exact .no _
theorem tame_note (e : Value) (env : Env) : Tame (noteFrame e env) := by
  unfold noteFrame
  split
  next f hf =>
    have rest : ∀ head b, Tame (do setField e 1 (← EntryCells.newEntry head (← frameOf env) .none (rawInt f) .none (← entryPlaceOf f b))) := fun head b => by
      refine .bind ?_ fun a => .bind ?_ fun pl => .bind ?_ fun n => tame_setField _ _ _
      · unfold frameOf
        refine .bind (.bind (.stack fun l => .pure l) fun _ => .pure _) fun l => .bind ?_ fun o => ?_
        · unfold frameObject
          split
          · exact .pure _
          · exact .bind (tame_ready _) fun _ => .pure _
        · split
          · exact .pure _
          · exact .no _
      · unfold entryPlaceOf
        refine .bind (.stack fun l => .pure l) fun l => ?_
        split <;> exact .pure _
      · unfold EntryCells.newEntry newFields newObj
        exact .ite (.bind (.no _) fun _ => .bind (.new fun a => .pure a) fun a => .pure _) (.bind (.new fun a => .pure a) fun a => .pure _)
    refine .bind (tame_field _ _) fun head => .ite (.bind (tame_field _ _) fun y => .ite (.pure _) (.bind (tame_setField _ _ _) fun _ => rest _ _)) (rest _ _)
  · exact .no _
theorem tame_flight (e : Value) (o : Option Addr) : Tame (setFlight e o) := .bind (tame_field _ _) fun _ => .ite (tame_setField _ _ _) (.pure _)
theorem tame_leaving (env : Env) (e : Value) : Tame (leaving env e) := .bind (tame_note _ _) fun _ => tame_flight _ _
def Heap.Dx (h : Heap) (e : Addr) (d : Option Addr) : Prop := ∃ o, h.get? e = some o ∧ o.dict = d
theorem Heap.Dx.kept {h h' : Heap} {e : Addr} {d : Option Addr} (x : h.Dx e d) (k : Kph h h') : h'.Dx e d := by
  obtain ⟨o, h1, h3⟩ := x
  obtain ⟨u, h5, q⟩ := k e o h1
  exact ⟨u, h5, q.di.trans h3⟩
def Heap.TracedAtD (h base : Heap) (e : Addr) (cls : Value) (a0 : Value × Option Addr) (fl : Value) : Prop := h.TracedAtW base e cls a0.1 fl ∧ h.Dx e a0.2
abbrev Heap.TracedD (h base : Heap) (e : Addr) (cls : Value) (a0 : Value × Option Addr) : Prop := h.TracedAtD base e cls a0 .none
abbrev Heap.FlyD (base : Heap) (l : List Env) (e : Addr) (cls : Value) (a0 : Value × Option Addr) (fl : Value) (h : Heap) : Prop := base.StaysIn h ∧ base.get? e = none ∧ h.FunFrames base l ∧ h.TracedAtD base e cls a0 fl
abbrev Heap.FlyingD (base : Heap) (l : List Env) (e : Addr) (cls : Value) (a0 : Value × Option Addr) (h : Heap) : Prop := Heap.FlyD base l e cls a0 .none h
abbrev Heap.HeldD (base : Heap) (l : List Env) (e : Addr) (cls : Value) (a0 : Value × Option Addr) (L : Addr) (h : Heap) : Prop := Heap.FlyD base l e cls a0 (rawInt L) h
theorem Heap.FlyingD.thereD {base h : Heap} {l : List Env} {e : Addr} {cls : Value} {a0 : Value × Option Addr} (x : Heap.FlyingD base l e cls a0 h) : ∃ ob, h.get? e = some ob ∧ ob.cls = cls ∧ ob.dict = a0.2 ∧ ∃ vs, ob.data = .fields vs := by
  obtain ⟨_, _, _, ⟨oe, vs, _, _, _, he, hc, hd, _⟩, o, h1, h2⟩ := x
  rw [he] at h1
  cases h1
  exact ⟨oe, he, hc.1, h2, vs, hd⟩
theorem Heap.FlyingD.there {base h : Heap} {l : List Env} {e : Addr} {cls : Value} {a0 : Value × Option Addr} (x : Heap.FlyingD base l e cls a0 h) : ∃ ob, h.get? e = some ob ∧ ob.cls = cls :=
  let ⟨ob, h1, h2, _⟩ := Heap.FlyingD.thereD x
  ⟨ob, h1, h2⟩
variable {base : Heap} {env : Env} {l outer : List Env} {L e : Addr} {cls : Value} {a0 : Value × Option Addr} {Q : Unit → Shared → Prop}
theorem Tame.go {t : Sem Unit} (T : Tame t) {P : Heap → Prop} (w : wpAny M A t (fun _ z => ∃ h', z = { s with heap := h' } ∧ P h') E s) (hQ : ∀ h', P h' → Kph s.heap h' → Q () { s with heap := h' }) : wpAny M A t Q E s :=
  wpAny_mono (T.any w) (fun _ _ z => by
    obtain ⟨⟨h', rfl, p⟩, k⟩ := z
    exact hQ h' p k) fun _ _ z => z
theorem wpAny_leaves_onD (hfr : A.frames = some (env :: outer)) (hf : env.frame = some L) (x : Heap.FlyingD base (env :: outer) e cls a0 s.heap) (hQ : ∀ h', Heap.FlyingD base outer e cls a0 h' → s.heap.UpToSlots h' → Q () { s with heap := h' }) : wpAny M A (leaving env (.ref e)) Q E s := by
  obtain ⟨f1, f2, f3, f4, d⟩ := x
  refine (tame_leaving _ _).go (P := fun h' => Heap.FlyingW base outer e cls a0.1 h' ∧ s.heap.UpToSlots h') (wpAny_leaves_onW hfr hf ⟨f1, f2, f3, f4⟩ fun h' y u => ⟨h', rfl, y, u⟩) fun h' ⟨⟨y1, y2, y3, y4⟩, u⟩ k => hQ h' ⟨y1, y2, y3, y4, d.kept k⟩ u
theorem wpAny_looks_onD (hfr : A.frames = some (env :: outer)) (hf : env.frame = some L) (x : Heap.FlyingD base (env :: outer) e cls a0 s.heap) (hQ : ∀ h', Heap.HeldD base (env :: outer) e cls a0 L h' → s.heap.UpToSlots h' → Q () { s with heap := h' }) : wpAny M A (noteFrame (.ref e) env) Q E s := by
  obtain ⟨f1, f2, f3, f4, d⟩ := x
  refine (tame_note _ _).go (P := fun h' => Heap.HeldW base (env :: outer) e cls a0.1 L h' ∧ s.heap.UpToSlots h') (wpAny_looks_onW hfr hf ⟨f1, f2, f3, f4⟩ fun h' y u => ⟨h', rfl, y, u⟩) fun h' ⟨⟨y1, y2, y3, y4⟩, u⟩ k => hQ h' ⟨y1, y2, y3, y4, d.kept k⟩ u
theorem flightD_ {fl : Value} (o : Option Addr) (f1 : base.StaysIn s.heap) (f3 : s.heap.FunFrames base l) (f4 : s.heap.TracedAtD base e cls a0 fl)
    (hQ : ∀ h', base.StaysIn h' → h'.FunFrames base l → h'.TracedAtD base e cls a0 (o.elim .none fun f => rawInt f) → (∀ b o, s.heap.get? b = some o → (∀ vs, o.data ≠ .fields vs) → h'.get? b = some o) → Q () { s with heap := h' }) : wpAny M A (setFlight (.ref e) o) Q E s := by
  obtain ⟨⟨oe, vs, T, oT, ts, he, hc, hd, h1, hnT, hTe, hT, hdT, h3⟩, d⟩ := f4
  refine (tame_flight _ _).go (P := fun h' => h' = s.heap.update T (Obj.mapFields (·.setIfInBounds 3 (o.elim .none fun f => rawInt f)))) ?_ fun h' z k => ?_
  · refine wpAny_bind (wpAny_field he hd h1 ?_)
    show wpAny M A (setField (.ref T) 3 _) _ E s
    exact wpAny_setField hT hdT (Array.getElem?_eq_some_iff.mp h3).1 ⟨_, rfl, rfl⟩
  · subst z
    have ot : ∀ b u, s.heap.get? b = some u → b ≠ T → (s.heap.update T (Obj.mapFields (·.setIfInBounds 3 (o.elim .none fun f => rawInt f)))).get? b = some u := fun b u h n => (Heap.get?_update_other _ _ (Ne.symm n)).trans h
    have nt : ∀ b u, s.heap.get? b = some u → (∀ vs, u.data ≠ .fields vs) → b ≠ T := fun b u h n z => by
      subst z
      rw [hT] at h
      cases h
      exact n ts hdT
    exact hQ _ (fun b u h => ot b u (f1 b u h) (fun z => by subst z; rw [hnT] at h; cases h)) (f3.of_keeps fun b u h n => ⟨u, ot b u h (nt b u h n), rfl⟩)
      ⟨⟨oe, vs, T, _, _, ot e oe he (Ne.symm hTe), hc, hd, h1, hnT, hTe, Heap.get?_update_self _ hT (Obj.isFreed_of_fields (Obj.data_mapFields hdT _)), Obj.data_mapFields hdT _, by
        have := (Array.getElem?_eq_some_iff.mp h3).1
        simp [this]⟩, d.kept k⟩ fun b u h n => ot b u h (nt b u h n)
theorem wpAny_landsD (hh : Heap.HeldD base l e cls a0 L s.heap) (hQ : ∀ h', Heap.FlyingD base l e cls a0 h' → s.heap.UpToSlots h' → Q () { s with heap := h' }) : wpAny M A (setFlight (.ref e) none) Q E s :=
  flightD_ none hh.1 hh.2.2.1 hh.2.2.2 fun h' k1 k2 k3 k4 => hQ h' ⟨k1, hh.2.1, k2, k3⟩ fun b o y n => ⟨o.slots, k4 b o y n⟩
theorem LANDS2_ (hh : Heap.FlyingD base l e cls a0 s.heap) (hQ : ∀ h', Heap.FlyingD base l e cls a0 h' → s.heap.UpToSlots h' → Q () { s with heap := h' }) : wpAny M A (setFlight (.ref e) none) Q E s :=
  flightD_ none hh.1 hh.2.2.1 hh.2.2.2 fun h' k1 k2 k3 k4 => hQ h' ⟨k1, hh.2.1, k2, k3⟩ fun b o y n => ⟨o.slots, k4 b o y n⟩
theorem wpAny_leaving_firstD {oe : Obj} {vs : Array Value} (hfr : A.frames = some (env :: outer)) (hl : s.heap.FunFrames base (env :: outer)) (hf : env.frame = some L) (he : s.heap.get? e = some oe) (hkb : base.StaysIn s.heap) (hen : base.get? e = none) (hd : oe.data = .fields vs) (h1 : vs[1]? = some .none)
    (h0 : vs[0]? = some a0.1 ∧ oe.dict = a0.2) (hQ : ∀ h', (base.StaysIn h' ∧ h'.FunFrames base (env :: outer) ∧ h'.TracedD base e oe.cls a0 ∧ s.heap.UpToSlots h') → Q () { s with heap := h' }) : wpAny M A (leaving env (.ref e)) Q E s :=
  (tame_leaving _ _).go (P := fun h' => Heap.LeftW base (env :: outer) e oe.cls a0.1 s.heap h') (wpAny_leaving_firstW hfr hl hf he hkb hen hd h1 h0.1 fun h' y => ⟨h', rfl, y⟩) fun h' ⟨y1, y2, y3, y4⟩ k => hQ h' ⟨y1, y2, ⟨y3, Heap.Dx.kept ⟨oe, he, h0.2⟩ k⟩, y4⟩
end
end PySem
namespace L2
open PySem PySem.Spec PyProof.Rows
noncomputable def Fly (l:List Env) (H:Hp) (h0:Heap) (e:Addr) (cls:Value) (dd:Option Addr) (h:Heap):Prop :=
 ∃ B a0,Heap.FlyingD B l e cls (a0,dd) h /\ H e=none /\ h0.get? e=none /\ ∀ b o,h.get? b=some o->b∉frs l->(H b≠none∨∃ o0,h0.get? b=some o0)->B.get? b=some o
noncomputable def CXE (P:Program) (w:World):CXT:=fun outer H s E e s'=>
 ∃ ea cls dd H',e=.ref ea /\ s'.os=s.os /\ AllBare s'.gens /\ Un (frs outer) [] H H' s.heap s'.heap /\ HOk P w H' s'.heap /\ Fly outer H' s.heap ea cls dd s'.heap /\ E cls dd H'
theorem ZCa {P:Program} {w:World} {X:Cx}:ZBm (CXE P w) X E0:=fun _ _ _ _ _ _ _ z=>by
 obtain ⟨_,_,_,_,_,_,_,_,_,_,h⟩:=z
 exact h.elim
section
variable {P:Program} {w:World} {l:List Env} {H H':Hp} {h h1 h2 B base:Heap}
theorem Un.fly (u:Un (frs l) [] H H' h h1) (hB:∀ b o,h1.get? b=some o->b∉frs l->(H' b≠none∨∃ o0,h.get? b=some o0)->B.get? b=some o) (st:B.StaysIn h2) (up:h1.UpToSlots h2) (hf:h1.FunFrames base l):Un (frs l) [] H H' h h2 where
 keep b o e n hb hx:=st b o (hB b o (u.keep b o e n hb hx) hb (.inr ⟨o,e⟩))
 slot b o e n hb hx:=by
  obtain ⟨sl,e1⟩:=u.slot b o e n hb hx
  obtain ⟨_,o',ho',hd⟩:=hf.mem hb
  rw [e1] at ho'
  cases ho'
  obtain ⟨sl2,e2⟩:=up b _ e1 hd
  exact ⟨sl2,e2⟩
 free:=u.free
 there b o e hx:=by
  obtain ⟨o',e1⟩:=u.there b o e hx
  by_cases hb:b∈frs l
  .obtain ⟨_,o2,ho2,hd⟩:=hf.mem hb
   rw [e1] at ho2
   cases ho2
   obtain ⟨sl,e2⟩:=up b _ e1 hd
   exact ⟨_,e2⟩
  .exact ⟨o',st b o' (hB b o' e1 hb (.inr ⟨o,e⟩))⟩
 tups:=u.tups
 frzs:=u.frzs
 tbls:=u.tbls
theorem HOk.fly (x:HOk P w H' h1) (hB:∀ b o,h1.get? b=some o->b∉frs l->(H' b≠none∨∃ o0,h.get? b=some o0)->B.get? b=some o) (st:B.StaysIn h2) (hn:∀ b∈frs l,H' b=none):HOk P w H' h2:=fun a o e=>by
 have k:∀ b o,H' b=some o->b∉frs l:=fun b o z m=>by rw [hn b m] at z;cases z
 refine (x a o e).stay (fun b v hc q=>?_) (fun _ q=>q) fun _ _ q=>q
 rcases hc with z | z
 .exact st b v (hB b v q (by rw [z];exact k _ _ e) (.inl (by rw [z,e];exact fun y=>nomatch y)))
 .exact st b v (hB b v q (k _ _ z) (.inl (by rw [z];exact fun y=>nomatch y)))
theorem Inv.stkFree2 {X:Cx} {pins:List (Addr×Obj)} {σ:St} {s:Shared} (I:Inv X pins σ H s) (u:Un (frs X.stack) [] H H' s.heap h1):∀ b∈frs X.stack,H' b=none:=fun b hb=>by
 obtain ⟨_,o,ho,_⟩:=I.stack.mem hb
 exact u.free b o ho (I.stkFree b hb) List.not_mem_nil
end
section
variable {P:Program} {w:World} {K:W.Frag} {mg:Str->Option Value} {base:Heap} {N:List Str} {qual:Str} {scope:Scope} {f:Addr} {cd:Value} {A:Around} {outer:List Env} {s:Shared} {H:Hp} {E:XK}
theorem cxe_of {pins:List (Addr×Obj)} {σ:St} {H1 H':Hp} {s1 s2:Shared} {hm h' B B':Heap} {ea:Addr} {cls a0:Value} {dd:Option Addr} (I:Inv (cxOf (CXE P w) P w K mg base N qual scope f cd A outer s H E) pins σ H1 s1)
  (un:Un (frs (cxOf (CXE P w) P w K mg base N qual scope f cd A outer s H E).stack) [] H1 H' s1.heap hm) (hok:HOk P w H' hm)
  (hB:∀ b o,hm.get? b=some o->b∉frs (cxOf (CXE P w) P w K mg base N qual scope f cd A outer s H E).stack->(H' b≠none∨∃ o0,s1.heap.get? b=some o0)->B.get? b=some o)
  (ff:hm.FunFrames B' (cxOf (CXE P w) P w K mg base N qual scope f cd A outer s H E).stack) (up:hm.UpToSlots h') (fl:Heap.FlyingD B outer ea cls (a0,dd) h') (hout:H' ea=none) (hnew:s1.heap.get? ea=none) (os:s2.os=s1.os) (bare:AllBare s2.gens) (hE:E cls dd H') :
  CXE P w outer H s E (.ref ea) { s2 with heap:=h' }:=by
 have fr:=I.stkFree2 un
 have un2:=un.fly hB fl.1 up ff
 have hok2:=hok.fly hB fl.1 fr
 have I2:=I.call' (s':={ s2 with heap:=h' }) os un2 hok2 bare fun b z=>nomatch z
 have old:∀ b o,s.heap.get? b=some o->∃ o1,s1.heap.get? b=some o1:=fun b o q=>I.base.there b o q (fun z=>nomatch z)
 refine ⟨ea,cls,dd,H',rfl,I2.os,bare,I2.base,hok2,⟨B,a0,fl,hout,?_,fun b o ho hb hor=>?_⟩,hE⟩
 .cases q:s.heap.get? ea with
  | none=>rfl
  | some o=>
   obtain ⟨o1,h1⟩:=old ea o q
   rw [hnew] at h1;cases h1
 .have hb2:b∉frs (cxOf (CXE P w) P w K mg base N qual scope f cd A outer s H E).stack:=fun m=>by
   rcases yAP.mp (I2.stkSub b m) with z | z
   .rcases hor with y | ⟨o0,y⟩
    .exact y (by rw [z];exact I2.free)
    .exact absurd (yAE (Heap.lt_size y) I.ok.above) (by rw [z];exact yAS _)
   .exact hb z
  have:∃ o1,hm.get? b=some o1 /\ (H' b≠none∨∃ o0,s1.heap.get? b=some o0):=by
   rcases hor with y | ⟨o0,y⟩
   .obtain ⟨u,hu⟩:=Option.ne_none_iff_exists'.mp y
    have:=(hok b u hu).lt
    cases z:hm.get? b with
    | some o1=>exact ⟨o1,rfl,.inl y⟩
    | none=>
     exfalso
     have st2:=hok b u hu
     cases u with
     | lst xs=>obtain ⟨_,_,_,_,e⟩:=st2;rw [z] at e;cases e
     | tup xs=>obtain ⟨_,_,_,ob,e,_⟩:=st2;rw [z] at e;cases e
     | dK kvs=>obtain ⟨_,_,_,_,ob,es,ep,e,_⟩:=st2;rw [z] at e;cases e
     | dT kvs=>obtain ⟨_,_,_,_,ob,es,ep,e,_⟩:=st2;rw [z] at e;cases e
     | set S n=>obtain ⟨ob,es,ep,t,e,_⟩:=st2;rw [z] at e;cases e
     | ins C dx fs=>obtain ⟨_,_,_,e,_⟩:=st2;rw [z] at e;cases e
     | own y=>obtain ⟨_,e⟩:=st2;rw [z] at e;cases e
     | xd fs=>obtain ⟨_,⟨_,_,_,e,_⟩,_⟩:=st2;rw [z] at e;cases e
     | rng lo hi=>obtain ⟨_,_,_,e⟩:=st2;rw [z] at e;cases e
     | frz ob u=>obtain ⟨e,_⟩:=st2;rw [z] at e;cases e
     | tbl ps=>have e:hm.get? b=some _:=st2;rw [z] at e;cases e
     | met f y=>have e:hm.get? b=some _:=st2;rw [z] at e;cases e
     | ext φ=>obtain ⟨_,⟨_,e⟩,_⟩:=st2;rw [z] at e;cases e
   .obtain ⟨o1,h1⟩:=old b o0 y
    obtain ⟨o2,h2⟩:=un.there b o1 h1 (fun z=>nomatch z)
    exact ⟨o2,h2,.inr ⟨o1,h1⟩⟩
  obtain ⟨o1,q1,q2⟩:=this
  have q3:=hB b o1 q1 hb2 q2
  have q4:=fl.1 b o1 q3
  rw [ho] at q4
  cases q4
  exact q3
theorem passX:ZBm (CXE P w) (cxOf (CXE P w) P w K mg base N qual scope f cd A outer s H E) E:=by
 intro pins σ H1 s1 e s2 I hc
 obtain ⟨ea,cls,dd,H',rfl,os,bare,un,hok,⟨B,a0,fl,hout,hnew,hB⟩,hE⟩:=hc
 refine wpAny_leaves_onD (base:=B) I.ok.frames rfl fl fun h' fl' up=>?_
 exact cxe_of I un hok hB fl.2.2.1 up fl' hout hnew os bare hE
theorem raisedD {pins:List (Addr×Obj)} {σ:St} {H1 H2:Hp} {s1 s2:Shared} {ea:Addr} {oe:Obj} {vs:Array Value} {cls a0:Value} {dd:Option Addr} (I:Inv (cxOf (CXE P w) P w K mg base N qual scope f cd A outer s H E) pins σ H1 s1)
  (un:Un (frs (cxOf (CXE P w) P w K mg base N qual scope f cd A outer s H E).stack) [] H1 H2 s1.heap s2.heap) (hok:HOk P w H2 s2.heap) (os:s2.os=s1.os) (bare:AllBare s2.gens) (hnew:s1.heap.get? ea=none) (hout:H2 ea=none)
  (he:s2.heap.get? ea=some oe) (hc:oe.cls=cls) (hd:oe.dict=dd) (hv:oe.data=.fields vs) (h1:vs[1]?=some .none) (h0:vs[0]?=some a0) (hE:E cls dd H2) :
  (cxOf (CXE P w) P w K mg base N qual scope f cd A outer s H E).xe (.ref ea) s2:=by
 have I2:=I.call' (s':=s2) os un hok bare fun b z=>nomatch z
 have hin:∀ env∈(cxOf (CXE P w) P w K mg base N qual scope f cd A outer s H E).stack,∀ b,env.frame=some b->b∈ea::frs (cxOf (CXE P w) P w K mg base N qual scope f cd A outer s H E).stack:=fun env he b hb=>yAL _ (List.mem_filterMap.mpr ⟨env,he,hb⟩)
 subst hc
 have eh:∀ b∈ea::frs (cxOf (CXE P w) P w K mg base N qual scope f cd A outer s H E).stack,(PySem.W.hideAll s2.heap (ea::frs (cxOf (CXE P w) P w K mg base N qual scope f cd A outer s H E).stack)).get? b=none:=fun b hb=>by
  exact PySem.W.hideAll_none _ hb
 refine wpAny_leaving_firstD (a0:=(a0,dd)) (base:=PySem.W.hideAll s2.heap (ea::frs (cxOf (CXE P w) P w K mg base N qual scope f cd A outer s H E).stack)) I.ok.frames (PySem.W.funFrames_hide I2.stack hin) rfl he (fun b o q=>PySem.W.of_hideAll _ q) (eh ea yAK) hv h1 ⟨h0,hd⟩ fun h' hL=>?_
 obtain ⟨k1,⟨_,_,k2⟩,k3,k4⟩:=hL
 refine cxe_of (s2:=s2) (B:=PySem.W.hideAll s2.heap (ea::frs (cxOf (CXE P w) P w K mg base N qual scope f cd A outer s H E).stack)) I un hok (fun b o q nb hor=>PySem.W.hideAll_get _ q fun z=>?_) I2.stack k4 ⟨k1,eh ea yAK,k2,k3⟩ hout hnew os bare hE
 rcases yAP.mp z with z | z
 .subst z
  rcases hor with y | ⟨o0,y⟩
  .exact y hout
  .rw [hnew] at y;cases y
 .exact nb z
theorem raisedX {pins:List (Addr×Obj)} {σ:St} {H1:Hp} {s1:Shared} {h1:Heap} {ea:Addr} {cls:Value} (I:Inv (cxOf (CXE P w) P w K mg base N qual scope f cd A outer s H E) pins σ H1 s1) (hx:Heap.MadeExcOf s1.heap h1 ea cls []) (hE:E cls none H1) :
  (cxOf (CXE P w) P w K mg base N qual scope f cd A outer s H E).xe (.ref ea) { s1 with heap:=h1 }:=by
 obtain ⟨t,he,_⟩:=hx.there
 refine raisedD (s2:={ s1 with heap:=h1 }) I (Un.kept hx.keeps) (I.hok.kept hx.keeps) rfl I.bare hx.new ?_ he rfl rfl rfl rfl rfl hE
 cases q:H1 ea with
 | none=>rfl
 | some o=>
  exfalso
  have x:=I.hok ea o q
  have e:=hx.new
  cases o with
  | lst xs=>obtain ⟨_,_,_,_,z⟩:=x;rw [e] at z;cases z
  | tup xs=>obtain ⟨_,_,_,ob,z,_⟩:=x;rw [e] at z;cases z
  | dK kvs=>obtain ⟨_,_,_,_,ob,es,ep,z,_⟩:=x;rw [e] at z;cases z
  | dT kvs=>obtain ⟨_,_,_,_,ob,es,ep,z,_⟩:=x;rw [e] at z;cases z
  | set S n=>obtain ⟨ob,es,ep,t,z,_⟩:=x;rw [e] at z;cases z
  | ins C dx fs=>obtain ⟨_,_,_,z,_⟩:=x;rw [e] at z;cases z
  | own y=>obtain ⟨_,z⟩:=x;rw [e] at z;cases z
  | xd fs=>obtain ⟨_,⟨_,_,_,z,_⟩,_⟩:=x;rw [e] at z;cases z
  | rng lo hi=>obtain ⟨_,_,_,z⟩:=x;rw [e] at z;cases z
  | frz ob u=>obtain ⟨z,_⟩:=x;rw [e] at z;cases z
  | tbl ps=>have z:s1.heap.get? ea=some _:=x;rw [e] at z;cases z
  | met f y=>have z:s1.heap.get? ea=some _:=x;rw [e] at z;cases z
  | ext φ=>obtain ⟨_,⟨_,z⟩,_⟩:=x;rw [e] at z;cases z
end
open PySem PySem.Spec PySem.W PySem.Calls PyProof.Rows Builtin.Getset_descriptor Builtin.ObjectAttr
structure ExcC (K:W.Frag) (C:Addr):Prop where
 ga:W.findIn K (.ref C) "__getattribute__"=some (some (.builtin "BaseException.__getattribute__"))
 gt:W.findIn K (.ref C) "__getattr__"=some none
 ca:W.findIn K (.ref C) "__class__"=some (some (.builtin "object.__class__"))
 sg:PySem.W.specialIn K (.builtin "object.__class__") "__get__"=some (some (.builtin "getset_descriptor.__get__"))
 tk:PySem.W.takesIn K (.builtin "object.__class__")=some true
 mo:PySem.W.mroIn K C (.type "object")=some true
 mb:PySem.W.mroIn K C (.type "BaseException")=some true
section
variable {prog:Program} {w:World} {A:Around} {E:Value->Shared->Prop} {K:W.Frag} {a C:Addr} {o:Obj} {h:Heap} {g:Array GenState} {d:Drawn} {t:Nat} {os:OsState}
theorem ZCI {M:Model} (hx:h.get? a=some o) (hc:o.cls=.ref C):Looks M h (typeOf (.ref a)) (.ref C):=hc ▸ (Looks.ld hx).andThen .now
theorem exc_get {R:Result->Shared->Prop} (X:K.In h) (F:ExcC K C) (hx:h.get? a=some o) (hc:o.cls=.ref C) (hq:R (.ok (.ret (.ref C))) ⟨h,g,d,t,os⟩) :
  codeAny (model prog w) A (.call (.builtin "getset_descriptor.__get__") ⟨[.builtin "object.__class__",.ref a,.ref C],[]⟩) R ⟨h,g,d,t,os⟩:=by
 have y0:=ZCI (M:=model prog w) hx hc
 have y1:=looks_mroIn (M:=model prog w) X F.mo
 refine codeAny_call_builtin KF.slot_gs.plain KF.entry_gs (KF.slot_gs.check _ _ _ _ _ _ _ _ KF.type_class (KF.args_gs _ _ _) ?_)
 simp only [Builtin.«getset_descriptor.__get__»,descrGet]
 rw [dga_obj]
 refine wpAny_bind (wpAny_pure ?_)
 simp only [descrGetter,descrCheckInstance,descrNameAndClass,isInstance,KF.owner_class]
 repeat lk
 refine ⟨Code.quiet_builtin _ (by decide +kernel),codeAny_builtin KF.entry_class ?_⟩
 simp only [Builtin.«object.__class__»,shownTypeOf]
 repeat lk
 exact hq
theorem exc_ga_check {M:Model} {nameV:Value} {Q:Unit->Shared->Prop} (X:K.In h) (F:ExcC K C) (hx:h.get? a=some o) (hc:o.cls=.ref C) (hq:Q () ⟨h,g,d,t,os⟩) :
  wpAny M A (checkBuiltinCall "BaseException.__getattribute__" ⟨[.ref a,nameV],[]⟩) Q E ⟨h,g,d,t,os⟩:=by
 have y0:=ZCI (M:=M) hx hc
 have y1:=looks_mroIn (M:=M) X F.mb
 have k1:builtinKind "BaseException.__getattribute__"=some .slot:=by decide +kernel
 have k2:splitId "BaseException.__getattribute__"=some ("BaseException","__getattribute__"):=by decide +kernel
 have k3:=PySem.F.args_bexc_ga (.ref a) nameV
 simp only [checkBuiltinCall,k1,k2]
 refine wpAny_bind ?_
 unfold isInstance
 repeat lk
 exact hq
theorem exc_class {Q:Option Value->Shared->Prop} (X:K.In h) (F:ExcC K C) (hx:h.get? a=some o) (hc:o.cls=.ref C) (hq:Q (some (.ref C)) ⟨h,g,d,t+1,os⟩) :
  wpAny (model prog w) A (getAttr? (.ref a) "__class__") Q E ⟨h,g,d,t,os⟩:=by
 have y0:=ZCI (M:=model prog w) hx hc
 have y1:=looks_findIn (M:=model prog w) X F.ga
 have y2:=looks_findIn (M:=model prog w) X F.gt
 have y3:=looks_findIn (M:=model prog w) X F.ca
 have y4:=looks_specialIn (M:=model prog w) X F.sg
 have y5:=looks_takesIn (M:=model prog w) X F.tk
 have bd:=PySem.F.attr_ValueError.ga.bind (.ref a)
 simp only [getAttr?,getAttrBy?,getAttrBy]
 refine wpAny_bind (wpAny_mkText (wpAny_bind (wpAny_attempt (wpAny_holding (wpAny_bind (y0.at (wpAny_bind (y1.at ?_))))))))
 show wpAny _ _ (getAttrByItsOwn _ _ _ _ _ _) _ _ _
 unfold getAttrByItsOwn
 refine wpAny_bind ?_
 show wpAny _ _ (typeLookup (.ref C) "__getattr__") _ _ _
 refine y2.at (wpAny_bind (wpAny_attempt (wpAny_holding ?_)))
 show wpAny _ _ (boundAndCalled _ _ _) _ _ _
 unfold boundAndCalled
 rw [bd]
 refine wpAny_bind (wpAny_pure (wpAny_call (codeAny_call_builtin PySem.F.attr_ValueError.ga.plain PySem.F.entry_bexc_ga (exc_ga_check X F hx hc ?_))))
 unfold Builtin.«object.__getattribute__»
 refine wpAny_bind (wpAny_pure (wpAny_bind (wpAny_pure (wpAny_bind (y0.at (wpAny_bind ?_))))))
 unfold find
 refine wpAny_bind (y3.at (wpAny_bind ?_))
 show wpAny _ _ (specialOf (.builtin "object.__class__") "__get__") _ _ _
 refine y4.at (wpAny_bind ?_)
 unfold dataDescriptor?
 refine wpAny_bind (y5.at ?_)
 rw [if_pos rfl]
 refine wpAny_pure (wpAny_bind (wpAny_rule (wpAny_pure ?_)))
 show wpAny _ _ (holding [_] (call (.builtin "getset_descriptor.__get__") [.builtin "object.__class__",.ref a,.ref C]) >>= ret) _ _ _
 refine wpAny_bind (wpAny_holding (wpAny_call (exc_get X F hx hc ?_)))
 exact wpAny_pure (handed_on rfl (wpAny_pure hq))
theorem kitx_exc {D:Addr} (F:ExcC K D) (hdct:hasDictIn K D=true):KitX K (.ref a) (.ref D) (fun h=>∃ o,h.get? a=some o /\ o.cls=.ref D) where
 ty:=fun _ _ _ ⟨_,h1,h2⟩=>ZCI h1 h2
 it:=fun _ _ X _=>by
  obtain ⟨cdD,hcD,_⟩:=any_some hdct
  unfold clsIn at hcD
  split at hcD
  .rename_i z
   intro A1 Q1 E1 s1 k1 q1
   simp only [isType,loadHead]
   exact wpAny_bind (wpAny_loadPart (k1 _ _ (X _ _ z)) (wpAny_pure q1))
  .cases hcD
 ne:=fun h tp dd its n sl X htp=>by
  obtain ⟨cdD,hcD,_⟩:=any_some hdct
  refine Bool.eq_false_iff.mpr fun q=>?_
  cases Value.ref.inj (beq_iff_eq.mp q)
  unfold clsIn at hcD
  split at hcD
  .rename_i z
   have y:=(X _ _ z).symm.trans htp
   cases y
  .cases hcD
 ca:=fun {_ _ _ _ _ s} X ⟨_,h1,h2⟩ k=>by
  obtain ⟨hh,g,d,t,os⟩:=s
  exact exc_class X F h1 h2 k
end
noncomputable def excO (a:Addr) (cls:Value) (dd:Option Addr):HO:=.ext fun h=>∃ o,h.get? a=some o /\ o.cls=cls /\ o.dict=dd /\ ∃ vs,o.data=.fields vs
section
variable {X:Cx}
theorem call_isExc:ZBH X (.builtin "isinstance") (fun xs H Q=>∃ a C c b dd,xs=[.ref a,c] /\ ZBk c=true /\ H a=some (excO a (.ref C) dd) /\ ExcC X.K C /\ PySem.W.hasDictIn X.K C=true /\ PySem.W.kitOne X.K (.ref C) (cval c)=some b /\ Q (.bl b) H):=by
 intro pins s σ H xs us Q I r h
 obtain ⟨a,C,c,b,dd,rfl,hc,ha,F,hd,e,q⟩:=h
 obtain ⟨u,w',rfl,r1,r2⟩:=ZCc r
 have e2:w'=cval c:=by
  cases c <;> first | (cases hc;done) | exact r2
 subst e2
 cases (show u=Value.ref a from r1)
 obtain ⟨⟨o,z1,z2,_⟩,_,_⟩:=(show ObjOk X.prog X.w H s.heap a (excO a (.ref C) dd) from I.hok a _ ha)
 have z:∃ o,s.heap.get? a=some o /\ o.cls=.ref C:=⟨o,z1,z2⟩
 exact kia_one (kitx_exc F hd) I.kIn z e (fun z=>nomatch z) fun tk=>⟨.bl b,H,I.tok tk,rfl,q⟩
end
open PySem PySem.Spec PySem.W PySem.Calls PyProof.Rows
theorem call_isExcK {X:Cx} (K:W.Frag) (h:X.K=K:=by rfl):ZBH X (.builtin "isinstance") (fun xs H Q=>∃ a C c b dd,xs=[.ref a,c] /\ ZBk c=true /\ H a=some (excO a (.ref C) dd) /\ ExcC K C /\ PySem.W.hasDictIn K C=true /\ PySem.W.kitOne K (.ref C) (cval c)=some b /\ Q (.bl b) H):=h ▸ call_isExc
section
variable {X:Cx}
end
abbrev bmV:List Value:=[.type "ValueError",.type "Exception",.type "BaseException",.type "object"]
theorem exc_obj {K:W.Frag} {h:Heap} {C:Addr} {bmB:List Value} {newId:String} (X:K.In h) (q:excIn K C bmB newId=true):∃ bm N nm qn bs hdct sn sub ab col dd k0 k1 k2 k3 k5 mN,
  h.get? C=some (excClassObj nm qn C N bs bm hdct sn sub ab col dd k0 k1 k2 k3 k5 newId) /\ h.Ns N mN /\ mN "__init__"=none /\ OwnTail h bmB bm:=by
 unfold excIn at q
 split at q
 next dd cd sl ho=>
  split at q
  next C1 bm k0 k1 k2 k3 n1 k5 hm hs=>
   simp only [Bool.and_eq_true,beq_iff_eq,Bool.not_eq_true'] at q
   obtain ⟨⟨⟨⟨⟨y1,y2⟩,y3⟩,y4⟩,y5⟩,y6⟩:=q
   subst y1 y2
   obtain ⟨nm,bs,mro,ns,qn,hd,sn,sub,ab,col,del⟩:=cd
   dsimp only at hm y3 y5 y6
   subst hm y3
   have z:sl=#[k0,k1,k2,k3,some (.builtin n1),k5]:=by
    cases sl
    simp only at hs
    rw [hs]
   subst z
   exact ⟨bm,ns,nm,qn,bs,hd,sn,sub,ab,col,dd,k0,k1,k2,k3,k5,_,X _ _ ho,.of_isNs (isNs_of_in X y5),nsMap_none_of_in X y5 y6,tail_of_in X y4⟩
  next=>cases q
 next=>cases q
noncomputable def ZCM (E:XK) (C:Addr):TS:=fun _ _ H=>E (.ref C) none H
section
variable {P:Program} {w:World} {K:W.Frag} {mg:Str->Option Value} {base:Heap} {N:List Str} {qual:Str} {scope:Scope} {f:Addr} {cd:Value} {A:Around} {outer:List Env} {s:Shared} {H:Hp} {E:XK}
theorem ps_raise0 {x:Str} {C:Addr} {np cpos pos:Pos} (hq:excIn K C bmV "ValueError.__new__"=true) (hm:mg x=some (.ref C)) (hg:Gl (cxOf (CXE P w) P w K mg base N qual scope f cd A outer s H E) x) (hdb:(x == ("__debug__":Str))=false:=by decide) :
  PS (cxOf (CXE P w) P w K mg base N qual scope f cd A outer s H E) (.Raise (some (.Call (.Name x np) [] [] cpos)) none pos) (ZCM E C):=by
 intro pins s1 σ H1 D I hE
 obtain ⟨bm,N',nm,qn,bs,hdct,sn,sub,ab,col,dd,k0,k1,k2,k3,k5,mN,hC,hN,hni,T⟩:=exc_obj I.kIn hq
 refine wpAny_Raise_call_subU (C:=C) (N:=N') (nm:=nm) (q:=qn) (bs:=bs) (bm:=bm) (hdct:=hdct) (sn:=sn) (sub:=sub) (ab:=ab) (col:=col) (dd:=dd) (k0:=k0) (k1:=k1) (k2:=k2) (k3:=k3) (k5:=k5) (mN:=mN)
  PySem.F.excBase_ValueError PySem.F.excBase_ValueError.hasB PySem.F.excBase_ValueError (T.hasType PySem.F.excBase_ValueError.hasBase) (I.ok.hd rfl) rfl hni (ZBf I hg hm ⟨rfl,?_⟩ hdb)
 exact evalArgs_empty ⟨rfl,yAU _,hC,hN,T,fun h' e hx=>raisedX I hx hE⟩
theorem Fun.okX {x:Str} {st:Stmt} {fd:FuncData} {ps:List Str} {k:Nat} {sp:Sp} (F:Fun K x qual st f fd) (S:FnScope N ps (ZAC st)) (len:∀ vs H Q E,sp vs H Q E->vs.length=ps.length)
  (hbody:∀ (cdv:Value) (A:Around) (outer:List Env) (s:Shared) (H:Hp) (vs:List V) (Q:VK) (E:XK),Room k (A.deeper (envOfC qual (ZAC st) s.heap.objs.size f cdv))->sp vs H Q E ->
   ∃ t,PSs (cxOf (CXE P w) P w K mg base N qual (ZAC st) f cdv A outer s H E) (ZAP st) t /\ t { nx:=fun _ H'=>Q .non H',rt:=Q } (start N vs) H):FnOk P w K mg base (CXE P w) (k+1) f fd ps sp:=by
 obtain ⟨oc,od,kV,doc,pm,an,cdv,ct,osl,rfl,lk,hcd⟩:=F.ex
 exact fn_of lk hcd S len fun A outer s H vs Q E hr hsp=>hbody cdv A outer s H vs Q E hr hsp
end
theorem PS.nox {X:Cx} {st:Stmt} {t:TS} (h:PS X.nox st t):PS X st t:=fun pins s σ H D I hw=>
 wpAny_mono (h pins s σ H D (I.wish _) hw) (fun _ _ q=>q.unwish) fun _ _ z=>False.elim z
noncomputable def PassesS (CX:CXT) (X:Cx) (E:St->XK):Prop:=∀ (pins:List (Addr×Obj)) (σ:St) (H:Hp) (s:Shared) (e:Value) (s':Shared),Inv X pins σ H s->CX X.stack H s (E σ) e s'->X.xe e s'
noncomputable def ZCN (sp:Sp) (dvs:List V) (E:St->XK) (t:TA):TE:=fun σ H Q=>t σ H fun vs H1=>sp (vs++dvs) H1 Q (E σ)
section
variable {X:Cx} {CX:CXT} {k:Nat} {f:Addr} {fd:FuncData} {ps:List Str} {sp:Sp} {dvs:List V} {ds:List Value} {E:St->XK} {x:Str} {p pos:Pos} {e:Expr} {es:List Expr} {t:TA}
theorem run_fnS {pins:List (Addr×Obj)} {σ:St} {H:Hp} {s:Shared} {Q:VK} {E:XK} {us:List Value} {vs:List V} (F:FnOk X.prog X.w X.K X.mg X.base CX k f fd ps sp) (hr:Room k X.A) (hb:Binds X.K fd ps ds) (hd:Vals dvs ds) (hx:∀ e s',CX X.stack H s E e s'->X.xe e s')
  (I:Inv X pins σ H s) (r:Vals vs us) (h:sp (vs++dvs) H Q E):wpAny (model X.prog X.w) X.A (call (.ref f) us) (EP X pins σ Q) X.xe s:=by
 have r2:Vals (vs++dvs) (us++ds):=r.append hd
 have hl:(us++ds).length=ps.length:=by rw [<- r2.length];exact F.len _ _ _ _ h
 refine wpAny_call (codeAny_mono (F.run X.A X.stack s H ⟨us,[]⟩ (us++ds) (vs++dvs) Q E hr I.env0 (hb s us I.kIn hl) r2 h) fun r s' hq=>?_)
 cases r with
 | error e=>exact hx e s' hq
 | ok fl=>
  cases fl with
  | ret u=>exact I.after hq
  | next=>exact False.elim hq
  | brk=>exact False.elim hq
  | cont=>exact False.elim hq
theorem pe_fnS (F:Fn X.prog X.w X.K X.mg X.base CX x k ps sp) (hr:Room k X.A) (hg:Gl X x) (hx:PassesS CX X E)
  (ha:PA X (e::es) t) (hdb:(x == ("__debug__":Str))=false:=by decide) (he:starEach (e::es) X.env=(false,eval e X.env)::starEach es X.env:=by rfl) (hpl:(backTo pos (starEach es X.env)).any (·.1)=false:=by rfl) :
  PE X (.Call (.Name x p) (e::es) [] pos) (ZCN sp [] E t):=by
 obtain ⟨f,fd,h1,h2,h3,h4⟩:=F.ex
 intro pins s σ H Q I h
 refine wpAny_Call_Name_kw (ZBf I hg h4 ?_ hdb)
 refine PySem.W.callWith_K (h₀:=X.base) I.ok.mod.kin h3 (thn (ha pos pins s σ H _ I h) fun us s1 ⟨vs,H1,I1,r,q⟩=>⟨I1.kIn,?_⟩) he hpl
 exact run_fnS h1 hr h2 .nil (fun e s' z=>hx pins σ H1 s1 e s' I1 z) I1 r q
end
noncomputable abbrev Cx.tries (X:Cx) (pn:List (Addr×Obj)) (xe:Value->Shared->Prop):Cx:={ X with pn:=pn,xe:=xe }
noncomputable abbrev Cx.handles (X:Cx) (e:Addr):Cx:={ X with A:=X.A.mark (some (.ref e)),calm:=false,xe:=fun _ _=>False }
section
variable {X:Cx} {pins pins':List (Addr×Obj)} {σ:St} {H:Hp} {s:Shared} {xe:Value->Shared->Prop} {e:Addr}
theorem Inv.toTry (I:Inv X pins σ H s):Inv (X.tries (X.pn++pins) xe) [] σ H s :=
 ⟨⟨I.ok.mod,I.ok.kind,I.ok.glob,I.ok.blt,I.ok.above,I.ok.inj,I.ok.has,I.ok.cab,I.ok.hd,I.ok.frames,I.ok.stk,I.ok.exf,I.ok.bs,I.ok.bsz,I.ok.noex,I.ok.exfs,I.ok.funs,I.ok.frf⟩,I.os,I.bare,I.base,I.loc,I.cell,I.free,I.freeC,fun p hp=>I.pin p (by simpa using hp),I.hok,I.len⟩
theorem Inv.ofTry (I:Inv (X.tries (X.pn++pins) xe) pins' σ H s):Inv X pins σ H s :=
 ⟨⟨I.ok.mod,I.ok.kind,I.ok.glob,I.ok.blt,I.ok.above,I.ok.inj,I.ok.has,I.ok.cab,I.ok.hd,I.ok.frames,I.ok.stk,I.ok.exf,I.ok.bs,I.ok.bsz,I.ok.noex,I.ok.exfs,I.ok.funs,I.ok.frf⟩,I.os,I.bare,I.base,I.loc,I.cell,I.free,I.freeC,fun p hp=>I.pin p (List.mem_append_left _ hp),I.hok,I.len⟩
theorem Inv.toH (I:Inv X pins σ H s) (e:Addr):Inv (X.handles e) pins σ H s :=
 ⟨⟨I.ok.mod,I.ok.kind,I.ok.glob,I.ok.blt,I.ok.above,I.ok.inj,I.ok.has,I.ok.cab,(fun z=>nomatch z),I.ok.frames,I.ok.stk,I.ok.exf,I.ok.bs,I.ok.bsz,I.ok.noex,I.ok.exfs,I.ok.funs,I.ok.frf⟩,I.os,I.bare,I.base,I.loc,I.cell,I.free,I.freeC,I.pin,I.hok,I.len⟩
theorem Inv.ofH (I:Inv (X.handles e) pins σ H s) (ok:X.Ok):Inv X pins σ H s:=⟨ok,I.os,I.bare,I.base,I.loc,I.cell,I.free,I.freeC,I.pin,I.hok,I.len⟩
theorem SP.ofTry {D:Ends} {f:Flow} (h:SP (X.tries (X.pn++pins) xe) pins' D f s):SP X pins D f s:=by
 cases f with
 | next=>obtain ⟨σ',H',I,q⟩:=h;exact ⟨σ',H',I.ofTry,q⟩
 | brk=>obtain ⟨σ',H',I,q⟩:=h;exact ⟨σ',H',I.ofTry,q⟩
 | cont=>obtain ⟨σ',H',I,q⟩:=h;exact ⟨σ',H',I.ofTry,q⟩
 | ret u=>obtain ⟨v,σ',H',I,r,q⟩:=h;exact ⟨v,σ',H',I.ofTry,r,q⟩
theorem Inv.track {o:HO} (I:Inv X pins σ H s) (h0:X.s₀.heap.get? e=none) (hL:e≠X.env.locals) (hC:∀ x c,X.env.cells.lookup x=some c->c≠e) (hp:∀ p∈X.pn++pins,p.1≠e) (hn:H e=none) (new:ObjOk X.prog X.w (upd H e o) s.heap e o):Inv X pins σ (upd H e o) s:=by
 have k:∀ b u,H b=some u->upd H e o b=some u:=fun b u q=>by rw [ZAL (ZAX q hn)];exact q
 refine ⟨I.ok,I.os,I.bare,⟨I.base.keep,I.base.slot,fun b ob q n hx=>?_,I.base.there,fun b xs q=>k _ _ (I.base.tups b xs q),fun b ob u q=>k _ _ (I.base.frzs b ob u q),fun b ps q=>?_⟩,I.loc,I.cell,?_,fun x c q=>?_,fun p hp'=>?_,fun b u q=>?_,I.len⟩
 .rw [ZAL (fun z=>by rw [z,h0] at q;cases q)]
  exact I.base.free b ob q n hx
 .obtain ⟨m,hm⟩:=I.base.tbls b ps q
  exact ⟨m,k _ _ hm⟩
 .rw [ZAL (Ne.symm hL)];exact I.free
 .rw [ZAL (hC x c q)];exact I.freeC x c q
 .obtain ⟨q1,q2,q3,q4,q5⟩:=I.pin p hp'
  exact ⟨q1,by rw [ZAL (hp p hp')];exact q2,q3,q4,q5⟩
 .by_cases z:b=e
  .subst z
   rw [ZAH] at q
   cases q
   exact new
  .rw [ZAL z] at q
   exact (I.hok b u q).stay (fun _ _ _ y=>y) (fun c y=>k _ _ y) fun c xs y=>k _ _ y
theorem Inv.gone {i t':Nat} {x:Str} {m:Str->Option Value} {v:Option Value} {h':Heap} (I:Inv X pins σ H s) (hN:X.N.Nodup) (hi:X.N[i]?=some x) (hn:s.heap.Ns X.env.locals m) (hn':h'.Ns X.env.locals (fun y=>if y=x then v else m y)) (hs:Heap.SameBut X.env.locals s.heap h') :
  Inv X pins (σ.set i none) H { s with heap:=h',toks:=t' }:=by
 obtain ⟨m0,hn0,hl⟩:=I.loc
 obtain ⟨oL,_,_,hoL,_⟩:=id hn
 have hm:m0=m:=by
  obtain ⟨o1,es1,ep1,ho1,hd1,_,hf1⟩:=hn0
  obtain ⟨o2,es2,ep2,ho2,hd2,_,hf2⟩:=hn
  rw [ho1] at ho2
  cases ho2
  rw [hd1] at hd2
  cases hd2
  funext y
  rw [<- hf1 y,<- hf2 y]
 subst hm
 have nL:∀ b ob,X.s₀.heap.get? b=some ob->b≠X.env.locals:=fun b ob q=>yAH (yAE (Heap.lt_size q) I.ok.above)
 refine ⟨I.ok,I.os,I.bare,⟨fun b o q n hb hx=>(hs.2 b (nL b o q)).trans (I.base.keep b o q n hb hx),fun b o q n hb hx=>?_,I.base.free,fun b o q hx=>?_,I.base.tups,I.base.frzs,I.base.tbls⟩,⟨_,hn',fun j y v' q1 q2 q3=>?_⟩,fun y c q=>?_,I.free,I.freeC,fun p hp=>?_,fun b u q=>?_,by simpa using I.len⟩
 .obtain ⟨sl,q1⟩:=I.base.slot b o q n hb hx
  exact ⟨sl,(hs.2 b (nL b o q)).trans q1⟩
 .obtain ⟨o',q1⟩:=I.base.there b o q hx
  exact ⟨o',(hs.2 b (nL b o q)).trans q1⟩
 .by_cases hj:j=i
  .subst hj
   by_cases hlen:j < σ.length
   .rw [List.getElem?_set_self hlen] at q2;cases q2
   .rw [List.getElem?_eq_none (by rw [List.length_set];omega)] at q2;cases q2
  .rw [List.getElem?_set_ne (Ne.symm hj)] at q2
   obtain ⟨u',r',q⟩:=hl j y v' q1 q2 q3
   refine ⟨u',r',?_⟩
   rcases q with ⟨k,q⟩ | ⟨k,c,q,z⟩
   .have:y≠x:=fun z=>hj (ZBx hN q1 (z ▸ hi))
    exact .inl ⟨k,by simp [this,q]⟩
   .exact .inr ⟨k,c,q,z.sameBut hs (I.cne y c q)⟩
 .obtain ⟨w',z⟩:=I.cell y c q
  exact ⟨w',z.sameBut hs (I.cne y c q)⟩
 .obtain ⟨q,n,ne,nf,d⟩:=I.pin p hp
  exact ⟨(hs.2 p.1 ne).trans q,n,ne,nf,d⟩
 .refine (I.hok b u q).stay (fun c w' hc z=>(hs.2 c ?_).trans z) (fun _ z=>z) fun _ _ z=>z
  rintro rfl
  rcases hc with y | y
  .rw [<- y,I.free] at q;cases q
  .rw [I.free] at y;cases y
end
noncomputable def Ehit (K:W.Frag) (HC:Addr) (i:Nat) (ts:TS) (D:Ends):St->XK:=fun σ cls dd H'=>exmOne K cls (.ref HC)=some true /\ ∀ ea,H' ea=none ->
 ts { nx:=fun σ' H''=>D.nx (σ'.set i none) H'',rt:=D.rt,bk:=fun σ' H''=>D.bk (σ'.set i none) H'',ct:=fun σ' H''=>D.ct (σ'.set i none) H'' } (σ.set i (some (.ref ea))) (upd H' ea (excO ea cls dd))
noncomputable def tTry (K:W.Frag) (HC:Addr) (i:Nat) (tb:(St->XK)->TS) (ts:TS):TS:=fun D σ H=>tb (Ehit K HC i ts D) D σ H
theorem ps_try {X:Cx} {body suite:List Stmt} {b₀:Stmt} {x n:Str} {i:Nat} {HC:Addr} {np hpos pos:Pos} {tb:(St->XK)->TS} {ts:TS} (hstk:X.stack=X.env::X.outer /\ X.env.frame=some X.env.locals) (hex:X.ex=[]) (hg:Gl X x) (hm:X.mg x=some (.ref HC))
  (hN:X.N.Nodup) (hi:X.N[i]?=some n) (hl:X.env.scope.names.lookup n=some .local)
  (hb:∀ (pn:List (Addr×Obj)) (xe:Value->Shared->Prop) (E:St->XK),PassesS (CXE X.prog X.w) (X.tries pn xe) E->PSs (X.tries pn xe) body (tb E)) (hs:∀ e,PSs (X.handles e) (b₀::suite) ts) (hdb:(x == ("__debug__":Str))=false:=by decide) :
  PS X (.Try body [.ExceptHandler (some (.Name x np)) (some n) (b₀::suite) hpos] [] [] pos) (tTry X.K HC i tb ts):=by
 intro pins s σ H D I hw
 refine wpAny_Try_except ?_
 refine wpAny_mono (hb (X.pn++pins) _ (Ehit X.K HC i ts D) ?_ [] s σ H D I.toTry hw) (fun f s1 q=>?_) fun e s1 q=>q
 .intro pins' σ1 H1 s1 e s2 I1 hc
  obtain ⟨ea,cls,dd,H',rfl,os,bare,un,hok,⟨B,a0,fl,hout,hnew,hB⟩,hmt,hE⟩:=hc
  have J:Inv X pins σ1 H1 s1:=I1.ofTry
  obtain ⟨e1,e2⟩:=hstk
  have un:Un (frs X.stack) [] H1 H' s1.heap s2.heap:=un
  have fr:=J.stkFree2 un
  have af:X.A.frames=some (X.env::X.outer):=by rw [<- e1];exact J.ok.frames
  have fl:Heap.FlyingD B (X.env::X.outer) ea cls (a0,dd) s2.heap:=by rw [<- e1];exact fl
  have ff:s2.heap.FunFrames B X.stack:=by rw [e1];exact fl.2.2.1
  have nx:∀ h5,Heap.FlyingD B (X.env::X.outer) ea cls (a0,dd) h5->s2.heap.UpToSlots h5->Inv X pins σ1 H' { s2 with heap:=h5 }:=fun h5 f5 u5=>J.call' os (un.fly hB f5.1 u5 ff) (hok.fly hB f5.1 fr) bare fun b z=>nomatch z
  refine wpAny_looks_onD af e2 fl fun h3 held up3=>?_
  refine wpAny_landsD held fun h4 fl4 up4=>?_
  have I4:=nx h4 fl4 (up3.trans up4)
  obtain ⟨ob,hob,hcl⟩:=fl4.there
  refine wpAny_handleBy_cons (codeAny_handlers_test ?_) (by intro q;cases q)
  refine ZBf (X:=X.handles ea) (I4.toH ea) hg hm ?_ hdb
  refine (exm_one I4.kIn (hcl ▸ (Looks.ld hob).andThen .now) hmt).here ?_
  refine codeAny_handlers_suite_as ?_
  refine PySem.LANDS2_ fl4 fun h6 fl6 up6=>?_
  have I6:=nx h6 fl6 ((up3.trans up4).trans up6)
  obtain ⟨ob6,hob6,hcl6,hdd6⟩:=fl6.thereD
  refine store_ok2 I6 hN hi (.inl hl) (show RelV (.ref ea) (.ref ea) from rfl) (fun s7 I7 hsb=>?_) (.inr hl)
  have nL:ea≠X.env.locals:=fun z=>by
   obtain ⟨m,⟨o,_,_,ho,_⟩,_⟩:=J.loc
   rw [<- z,hnew] at ho;cases ho
  have nC:∀ x c,X.env.cells.lookup x=some c->c≠ea:=fun x c q z=>by
   obtain ⟨v,o,ho,_⟩:=J.cell x c q
   rw [z,hnew] at ho;cases ho
  have hob7:s7.heap.get? ea=some ob6:=by
   obtain ⟨a,sb,z⟩:=hsb
   refine (sb.2 ea ?_).trans hob6
   rcases z with z | z
   .rw [z];exact nL
   .exact Ne.symm (nC _ _ z)
  have I8:=(I7.track (e:=ea) (o:=excO ea cls dd) (by
   cases q:X.s₀.heap.get? ea with
   | none=>rfl
   | some o=>
    obtain ⟨o1,z⟩:=J.base.there ea o q (by rw [hex];exact List.not_mem_nil)
    rw [hnew] at z;cases z) nL nC (fun p hp z=>by
   have:=(J.pin p hp).1
   rw [z,hnew] at this;cases this) hout ⟨⟨ob6,hob7,hcl6,hdd6⟩,⟨ob6,hob7⟩,fun g1 g2 ⟨o,z1,z2⟩ k=>⟨o,k o z1,z2⟩⟩).toH ea
  refine wpAny_mono (hs ea pins s7 _ _ _ I8 (hE ea hout)) (fun f s8 q8=>?_) fun _ _ z=>z.elim
  have kd:(X.env.scope.kind == .class || (X.env.scope.kind == .module && X.env.locals != X.env.globals))=false:=by rw [J.ok.kind];rfl
  cases f with
  | next=>
   obtain ⟨σ',H'',I',q⟩:=q8
   have I':=I'.ofH J.ok
   obtain ⟨m,hn,_⟩:=I'.loc
   exact wpAny_nameGoes_keeps hl hn kd fun h9 v hn9 sb9=>⟨_,_,I'.gone hN hi hn hn9 sb9,q⟩
  | brk=>
   obtain ⟨σ',H'',I',q⟩:=q8
   have I':=I'.ofH J.ok
   obtain ⟨m,hn,_⟩:=I'.loc
   exact wpAny_nameGoes_keeps hl hn kd fun h9 v hn9 sb9=>⟨_,_,I'.gone hN hi hn hn9 sb9,q⟩
  | cont=>
   obtain ⟨σ',H'',I',q⟩:=q8
   have I':=I'.ofH J.ok
   obtain ⟨m,hn,_⟩:=I'.loc
   exact wpAny_nameGoes_keeps hl hn kd fun h9 v hn9 sb9=>⟨_,_,I'.gone hN hi hn hn9 sb9,q⟩
  | ret u=>
   obtain ⟨v',σ',H'',I',r,q⟩:=q8
   have I':=I'.ofH J.ok
   obtain ⟨m,hn,_⟩:=I'.loc
   exact wpAny_nameGoes_keeps hl hn kd fun h9 v hn9 sb9=>⟨_,_,_,I'.gone hN hi hn hn9 sb9,r,q⟩
 .have q':SP X pins D f s1:=q.ofTry
  cases f with
  | next=>exact wpAny_execs_nil q'
  | brk=>exact q'
  | cont=>exact q'
  | ret u=>exact q'
open PySem PySem.Spec PySem.W PySem.Calls PyProof.Rows Builtin.Getset_descriptor Builtin.ObjectAttr
section
variable {prog:Program} {w:World} {A:Around} {E:Value->Shared->Prop} {K:W.Frag} {a C:Addr} {o:Obj} {h:Heap} {g:Array GenState} {d:Drawn} {t:Nat} {os:OsState}
end
open PySem PySem.Spec PySem.W PySem.Calls PyProof.Rows
section
variable {prog:Program} {w:World} {A:Around} {E:Value->Shared->Prop} {h:Heap} {g:Array GenState} {d:Drawn} {t:Nat} {os:OsState}
variable {nm q:Str} {C N:Addr} {bs bm bmB:List Value} {hdct:Bool} {sn:List Str} {sub:List Value} {ab:Bool} {col:Option Bool} {dd:Option Addr} {k0 k1 k2 k3 k5:Option Value} {B Bn newId nid initId inN:String} {bmN:List Value}
end
section
variable {M:Model} {A:Around} {E:Value->Shared->Prop} {env:Env}
variable {nm q:Str} {C N:Addr} {bs bm:List Value} {hdct:Bool} {sn:List Str} {sub:List Value} {ab:Bool} {col:Option Bool} {dd:Option Addr} {k0 k1 k2 k3 k5:Option Value} {newId:String}
end
open PySem PySem.Spec PySem.W PySem.Calls PyProof.Rows Builtin.Getset_descriptor Builtin.ObjectAttr
noncomputable def excM (a:Addr) (cls:Value) (dd:Option Addr):HO:=.ext fun h=>∃ o,h.get? a=some o /\ o.cls=cls /\ o.dict=dd /\ ∃ vs,o.data=.fields vs /\ vs[1]?=some .none /\ ∃ a0,vs[0]?=some a0
section
variable {X:Cx}
end
section
variable {X:Cx} {x name:Str} {C:Addr} {np apos pos:Pos} {e:Expr} {es:List Expr} {t:TA} {r:List V->Hp->VK->Prop} {id:String}
end
noncomputable def tFS (te:TE):TE:=fun σ H Q=>te σ H fun x H1=>∃ i:Int,x=.int i /\ i.natAbs.log2 < 1920 /\ ∀ y,Q (.str y) H1
section
variable {X:Cx} {v c1 c2:Expr} {s1 s2:Str} {te:TE} {p pos:Pos}
end
noncomputable def overTail:List Value->Bool
 | .ref c::r=>overTail r
 | l=>l == bmV
noncomputable def excOver (K:Frag) (C:Addr):Bool:=(clsIn K C).any fun cd=>overTail cd.mro
section
variable {prog:Program} {w:World} {A:Around} {R:Result->Shared->Prop} {s:Shared} {K:Frag} {x C:Addr}
end
noncomputable def xdM (d:Addr) (fs:List (Str×V)):HO:=.ext fun h=>∃ mA,h.Ns1 d mA /\ ∀ f,RelO (fs.lookup f) (mA f)
structure XCls (K:Frag) (C:Addr):Prop where
 hd:hasDictIn K C=true
 ov:excOver K C=true
 sa:findIn K (.ref C) "__setattr__"=some (some (.builtin "object.__setattr__"))
section
variable {X:Cx} {pins:List (Addr×Obj)} {σ:St} {H:Hp} {s:Shared} {A:Around} {E:Value->Shared->Prop} {a C:Addr} {f:Str}
end
noncomputable def sXFld (K:Frag) (ta tv:TE) (f:Str):TS:=fun D σ H=>tv σ H fun y H1=>ta σ H1 fun x H2=>∃ a C dd,x=.ref a /\ H2 a=some (excM a (.ref C) dd) /\ XCls K C /\ ZBh K C f /\
 ((dd=none /\ ∀ d,H2 d=none->d≠a->D.nx σ (upd (upd H2 d (xdM d [(f,y)])) a (excM a (.ref C) (some d))))∨∃ d fs,dd=some d /\ d≠a /\ H2 d=some (xdM d fs) /\ fs.length < 1000 /\ D.nx σ (upd H2 d (xdM d (putF f y fs))))
section
variable {X:Cx} {CX:CXT} {k:Nat} {f C:Addr} {fd:FuncData} {ps:List Str} {sp:Sp} {x:Str} {p pos:Pos} {e:Expr} {es:List Expr} {t:TA} {E:XK}
noncomputable def tXMk (C:Addr) (sp:Sp) (E:XK) (t:TA):TE:=fun σ H Q=>t σ H fun vs H1=>vs.length <= 1000 /\ ∀ x,H1 x=none->sp (.ref x::vs) (upd H1 x (excM x (.ref C) none)) (fun v H2=>v=.non /\ Q (.ref x) H2) E
end
noncomputable def forget (H:Hp) (a:Addr):Hp:=fun b=>if b=a then none else H b
noncomputable def tRaiseX (E:XK) (C:Addr) (sp:Sp) (t:TA):TS:=fun _ σ H=>t σ H fun vs H1=>vs.length <= 1000 /\ ∀ x,H1 x=none->sp (.ref x::vs) (upd H1 x (excM x (.ref C) none)) (fun v H2=>v=.non /\ ∃ dd,H2 x=some (excM x (.ref C) dd) /\ E (.ref C) dd (forget H2 x)) E0
section
variable {P:Program} {w:World} {K:W.Frag} {mg:Str->Option Value} {base:Heap} {N:List Str} {qual:Str} {scope:Scope} {f:Addr} {cd:Value} {A:Around} {outer:List Env} {s:Shared} {H:Hp} {E:XK}
variable {CX:CXT} {k:Nat} {fI C:Addr} {fd:FuncData} {ps:List Str} {sp:Sp} {x:Str} {np cpos pos:Pos} {e:Expr} {es:List Expr} {t:TA}
end
section
variable {κ:Type} [DecidableEq κ]
end
section
variable {P:Program} {w:World} {H:Hp} {h:Heap} {a:Addr}
end
section
variable {X:Cx} {pins:List (Addr×Obj)} {σ:St} {H:Hp} {s:Shared} {a:Addr} {y v:V} {u r:Value} {o:Option V} {A:Around} {E:Value->Shared->Prop}
end
section
variable {X:Cx} {pins:List (Addr×Obj)} {σ:St} {H:Hp} {s:Shared} {a:Addr} {kvs:List (Key×V)} {k:Key} {u:Value} {A:Around} {E:Value->Shared->Prop}
end
section
variable {X:Cx} {o i e value:Expr} {pos pos' tpos:Pos} {td ty tv:TE}
end
section
variable {X:Cx} {pos:Pos}
end
end L2
namespace PySem
open Sem (wp)
namespace F
end F
section
variable {α:Type} {prog:Program} {w:World} {A:Around} {E:Value->Shared->Prop} {s:Shared}
end
section
variable {prog:Program} {w:World} {A:Around} {E:Value->Shared->Prop} {h:Heap} {g:Array GenState} {d:Drawn} {t:Nat} {os:OsState} {a:Addr} {its:Array Value} {n:Nat}
end
end PySem
namespace PySem
namespace F
end F
end PySem
namespace L2
open PySem PySem.Spec PyProof.Rows
section
variable {X:Cx} {pins:List (Addr×Obj)} {σ:St} {H:Hp} {s1:Shared} {A:Around}
end
end L2
namespace PySem
section
variable {prog:Program} {w:World} {A:Around} {E:Value->Shared->Prop} {s:Shared} {zo ti to:Addr} {f0 f1:Value}
end
end PySem
namespace L2
open PySem PySem.Spec PyProof.Rows
section
variable {X:Cx}
end
section
variable {K:W.Frag} {a b:Addr} {xs ys:List V} {g:TG} {σ:St} {H:Hp} {tt:TT} {te:TE} {Q:VK} {σ0:St}
end
section
variable {X:Cx}
end
section
variable {X:Cx}
end
section
variable {X:Cx}
end
open PySem PySem.Spec PySem.W PySem.Calls PyProof.Rows Builtin.Getset_descriptor Builtin.ObjectAttr
section
variable {X:Cx} {CX:CXT} {k:Nat} {ps:List Str} {sp:Sp} {E:XK} {x m:Str} {C:Addr} {p np pos apos:Pos} {e o:Expr} {es:List Expr} {ta:TE} {t:TA}
end
section
variable {P:Program} {w:World} {K:W.Frag} {mg:Str->Option Value} {base:Heap} {N:List Str} {qual:Str} {scope:Scope} {f:Addr} {cd:Value} {A:Around} {outer:List Env} {s:Shared} {H:Hp} {E:XK}
variable {CX:CXT} {k:Nat} {C:Addr} {ps:List Str} {sp:Sp} {x:Str} {np cpos pos:Pos} {e:Expr} {es:List Expr} {t:TA}
end
noncomputable def tMethS (C:Addr) (m:Str) (sp:Sp) (E:St->XK) (ta:TE) (t:TA):TE:=fun σ H Q=>ta σ H fun x H1=>∃ a dx fs,x=.ref a /\ H1 a=some (.ins C dx fs) /\ fs.lookup m=none /\ t σ H1 fun vs H2=>sp (x::vs) H2 Q (E σ)
section
variable {X:Cx} {CX:CXT} {k:Nat} {ps:List Str} {sp:Sp} {E:St->XK} {x m:Str} {C:Addr} {p pos apos:Pos} {e o:Expr} {es:List Expr} {ta:TE} {t:TA}
end
section
variable {P:Program} {w:World} {K:W.Frag} {mg:Str->Option Value} {base:Heap} {N ps:List Str} {qual:Str} {scope:Scope} {f:Addr} {cd:Value} {A:Around} {outer:List Env} {s s1:Shared} {H:Hp} {E:XK} {us:List Value} {vs:List V}
end
section
variable {X:Cx} {k:Nat} {ps:List Str} {sp:Sp} {x:Str} {p pos:Pos} {e:Expr} {es:List Expr} {t:TA}
end
noncomputable def tXFldM (K:W.Frag) (ta:TE) (f:Str):TE:=fun σ H Q=>ta σ H fun x H1=>∃ a C d fs v,x=.ref a /\ (H1 a=some (excO a (.ref C) (some d))∨H1 a=some (excM a (.ref C) (some d))) /\ H1 d=some (xdM d fs) /\ ExcC K C /\ PySem.W.hasDictIn K C=true /\ W.findIn K (.ref C) f=some none /\ fs.lookup f=some v /\ Q v H1
end L2
namespace PySem
section
variable {M:Model} {A:Around} {E:Value->Shared->Prop} {s:Shared}
end
end PySem
namespace L2
open PySem PySem.Spec PySem.W PySem.Calls PyProof.Rows
section
variable {X:Cx} {E:XK}
end
section
variable {P:Program} {w:World} {K:W.Frag} {mg:Str->Option Value} {base:Heap} {N:List Str} {qual:Str} {scope:Scope} {f:Addr} {cd:Value} {A:Around} {outer:List Env} {s:Shared} {H:Hp} {E:XK}
end
theorem pe_bmK (K:W.Frag) {X:Cx} {T id:String} {name:Str} {o e:Expr} {es:List Expr} {to:TE} {t:TA} {r:V->List V->Hp->VK->Prop} {apos cpos:Pos} (pa:PlainAttrs T) (slot:Slot T name id) (hty:typeOf (.builtin id)=pure (.type "method_descriptor")) (hm:MtR X id r) (ho:PE X o to) (ha:PA X (e::es) t)
  (hbase:attributeBase o name X.env (eval o X.env)=eval o X.env:=by rfl)
  (hfew:((backTo cpos (starEach (e::es) X.env)).all (fun x=>!x.1) && (backToKw cpos (keywordEach [] X.env)).all (fun x=>x.1.isSome)
   && decide ((e::es).length+([]:List Keyword).length+(if ([]:List Keyword).isEmpty then 0 else 1) < 30))=true:=by rfl)
  (hline:(apos.endLine == cpos.line)=true:=by rfl) (hs:starEach (e::es) X.env=(false,eval e X.env)::starEach es X.env:=by rfl) (hplain:(backTo cpos (starEach es X.env)).any (·.1)=false:=by rfl) (h:X.K=K:=by rfl) :
  PE X (.Call (.Attribute o name apos) (e::es) [] cpos) (tBM K T r to t):=h ▸ ZCZ pa slot hty hm ho ha hbase hfew hline hs hplain
noncomputable def Ehit0 (K:W.Frag) (HC:Addr) (ts:TS) (D:Ends):St->XK:=fun σ cls dd H'=>exmOne K cls (.ref HC)=some true /\ ts D σ H'
noncomputable def tTry0 (K:W.Frag) (HC:Addr) (tb:(St->XK)->TS) (ts:TS):TS:=fun D σ H=>tb (Ehit0 K HC ts D) D σ H
section
variable {X:Cx} {CX:CXT} {k:Nat} {ps:List Str} {sp:Sp} {E:St->XK} {m:Str} {C:Addr} {pos apos:Pos} {o:Expr} {ta:TE}
end
open PySem PySem.Spec PyProof.Rows
section
variable {X:Cx}
theorem ZAz:OpR X (binaryOp .Add) (fun x y H Q=>∃ i j,x=.str i /\ y=.str j /\ i.length+j.length <= 2000000 /\ Q (.str (i++j)) H):=by
 intro pins s σ H x y v u Q I rx ry h
 obtain ⟨i,j,rfl,rfl,hz,q⟩:=h
 obtain ⟨t,rfl⟩:=rx
 obtain ⟨t',rfl⟩:=ry
 exact SB.add (fun t' k=>⟨.str (i++j),H,I.tok _,⟨_,rfl⟩,q⟩) (by rw [sizeLine_eq];omega)
theorem strs_of:∀ {ys:List Str} {us:List Value},Vals (ys.map V.str) us->StrsAre us ys
 | [],_,r=>by cases r;exact .nil
 | y::ys,_,r=>by
  rw [yAJ] at r
  cases r with
  | cons r1 r2=>
   obtain ⟨t,rfl⟩:=r1
   exact .cons y t (strs_of r2)
theorem mt_join:MtR X "str.join" (fun x vs H Q=>∃ (z:Str) (l:Addr) (ys:List Str),x=.str z /\ vs=[.ref l] /\ SqL X.K H l (ys.map V.str) /\ z.length <= 16 /\ (ys.map (·.length)).sum+ys.length <= 1048576 /\ Q (.str (Str.join z ys)) H):=by
 intro pins s σ H x vs v us Q I rx rv h
 obtain ⟨z,l,ys,rfl,rfl,hl,hz,hw,q⟩:=h
 obtain ⟨t,rfl⟩:=rx
 obtain ⟨u,rfl,ry⟩:=ZBV rv
 cases (show u=Value.ref l from ry)
 obtain ⟨its,r',pl,_⟩:=I.list hl
 exact join_listW pl.isList (by simpa using strs_of r') hz hw fun t' k=>⟨.str (Str.join z ys),H,I.tok _,⟨_,by rw [show Txt.join z ys=Str.join z ys from StrLaws.glued_eq_join z ys]⟩,q⟩
theorem mt_rjust:MtR X "str.rjust" (fun x vs H Q=>∃ (z:Str) (i:Int),x=.str z /\ vs=[.int i] /\ 0 <= i /\ i <= 1000 /\ Q (.str (Txt.rjust z i)) H):=by
 intro pins s σ H x vs v us Q I rx rv h
 obtain ⟨z,i,rfl,rfl,h0,h1,q⟩:=h
 obtain ⟨t,rfl⟩:=rx
 obtain ⟨u,rfl,ry⟩:=ZBV rv
 obtain ⟨t',rfl⟩:=(show ∃ t,u=Value.int i t from ry)
 refine SC.rjust (padOk_of (by omega) (by omega)) fun t' k=>⟨.str _,H,I.tok _,⟨_,rfl⟩,q⟩
end
theorem comp_tup {K:W.Frag} {a:Addr} {xs:List V} {g:TG} {tt:TT} {te:TE} {Q:VK} {σ0:St} {H:Hp} (P:Nat->List V->St->Hp->Prop) (h0:P 0 [] σ0 H) (hl:∀ i ys σ H,i <= xs.length->P i ys σ H->SqT K H a xs /\ ys.length <= i) (hz:xs.length <= sizeLine)
  (hs:∀ i ys x σ H,i < xs.length->xs[i]?=some x->P i ys σ H->g x σ H fun σ2 H2=>tt σ2 H2 fun b H3=>if b=true then te σ2 H3 fun y H4=>Nxt P xs.length i (ys++[y]) σ2 H4 else Nxt P xs.length i ys σ2 H3)
  (hd:∀ ys σ H,P xs.length ys σ H->∀ p,H p=none->Q (.ref p) (upd H p (.lst ys))) :
  ∃ W:Nat->Nat->List V->St->Hp->Prop,(∃ m,W 0 m [] σ0 H) /\ ∀ i m ys σ H,W i m ys σ H ->
   ((Itt K a).stop i H /\ ys.length <= sizeLine /\ ∀ p,H p=none->Q (.ref p) (upd H p (.lst ys))) ∨
   ((Itt K a).go i H /\ ys.length < sizeLine /\ ∀ x H',(Itt K a).yld i H x H'->g x σ H' fun σ2 H2=>tt σ2 H2 fun b H3=>if b=true then te σ2 H3 fun y H4=>∃ m',m' < m /\ W (i+1) m' (ys++[y]) σ2 H4 else ∃ m',m' < m /\ W (i+1) m' ys σ2 H3):=by
 refine ⟨fun i m ys σ H=>m=xs.length-i /\ i <= xs.length /\ P i ys σ H,⟨xs.length,by simp,yAU _,h0⟩,?_⟩
 rintro i m ys σ H ⟨rfl,hi,p⟩
 obtain ⟨q,ly⟩:=hl i ys σ H hi p
 by_cases hlt:i < xs.length
 .refine .inr ⟨⟨xs,xs[i],q,by simp [hlt]⟩,by omega,fun x H' y=>?_⟩
  obtain ⟨e,y⟩:=y
  subst e
  exact hs i ys x σ _ hlt (y xs q) p
 .have e:i=xs.length:=by omega
  subst e
  exact .inl ⟨⟨xs,q,yAB _⟩,by omega,hd ys σ H p⟩
noncomputable def forT (K:W.Frag) (g:TG) (tb:TS) (D:Ends) (σ:St) (x:V) (H1:Hp):Prop:=∃ a,x=.ref a /\ (∃ xs,SqT K H1 a xs) /\ ∃ W:Nat->Nat->St->Hp->Prop,(∃ m,W 0 m σ H1) /\ ∀ i m σ H,W i m σ H ->
 ((Itt K a).stop i H /\ D.nx σ H)∨((Itt K a).go i H /\ ∃ N:St->Hp->Prop,(∀ σ' H',N σ' H'->∃ m',m' < m /\ W (i+1) m' σ' H') /\ ∀ x H',(Itt K a).yld i H x H'->g x σ H' fun σ2 H2=>tb { D with nx:=N,ct:=N,bk:=D.nx } σ2 H2)
theorem tForT_eq {K:W.Frag} {tl:TE} {g:TG} {tb:TS} {D:Ends} {σ:St} {H:Hp}:tFor (iTup K tl) g tb D σ H=tl σ H (fun x H1=>forT K g tb D σ x H1):=rfl
theorem forT_of {K:W.Frag} {g:TG} {tb:TS} {D:Ends} {σ:St} {H:Hp} {a:Addr} {xs:List V} (h:SqT K H a xs) (Pv:Nat->St->Hp->Prop) (h0:Pv 0 σ H) (hl:∀ i σ H,i <= xs.length->Pv i σ H->SqT K H a xs)
  (hs:∀ i x σ H,xs[i]?=some x->Pv i σ H->g x σ H fun σ2 H2=>tb { D with nx:=Pv (i+1),ct:=Pv (i+1),bk:=D.nx } σ2 H2) (hd:∀ σ H,Pv xs.length σ H->D.nx σ H):forT K g tb D σ (.ref a) H :=
 ⟨a,rfl,⟨xs,h⟩,for_tup Pv h0 hl hs hd⟩
noncomputable def compT (K:W.Frag) (g:TG) (tt:TT) (te:TE) (σ0:St) (Q:VK) (x:V) (H1:Hp):Prop:=∃ a,x=.ref a /\ (∃ xs,SqT K H1 a xs) /\ ∃ W:Nat->Nat->List V->St->Hp->Prop,(∃ m,W 0 m [] σ0 H1) /\ ∀ i m ys σ H,W i m ys σ H ->
 ((Itt K a).stop i H /\ ys.length <= sizeLine /\ ∀ p,H p=none->Q (.ref p) (upd H p (.lst ys))) ∨
 ((Itt K a).go i H /\ ys.length < sizeLine /\ ∀ x H',(Itt K a).yld i H x H'->g x σ H' fun σ2 H2=>tt σ2 H2 fun b H3=>if b=true then te σ2 H3 fun y H4=>∃ m',m' < m /\ W (i+1) m' (ys++[y]) σ2 H4 else ∃ m',m' < m /\ W (i+1) m' ys σ2 H3)
theorem tCompT_eq {k:Nat} {js:List Nat} {K:W.Frag} {tl:TE} {g:TG} {tt:TT} {te:TE} {σ:St} {H:Hp} {Q:VK}:ZB3 k js (iTup K tl) g tt te σ H Q=tl σ H (fun x H1=>compT K g tt te (up k js σ) Q x H1):=rfl
theorem compT_of {K:W.Frag} {a:Addr} {xs:List V} {g:TG} {tt:TT} {te:TE} {Q:VK} {σ0:St} {H:Hp} (h:SqT K H a xs) (hz:xs.length <= 1000) (P:Nat->List V->St->Hp->Prop) (h0:P 0 [] σ0 H) (hl:∀ i ys σ H,i <= xs.length->P i ys σ H->SqT K H a xs /\ ys.length <= i)
  (hs:∀ i ys x σ H,i < xs.length->xs[i]?=some x->P i ys σ H->g x σ H fun σ2 H2=>tt σ2 H2 fun b H3=>if b=true then te σ2 H3 fun y H4=>Nxt P xs.length i (ys++[y]) σ2 H4 else Nxt P xs.length i ys σ2 H3)
  (hd:∀ ys σ H,P xs.length ys σ H->∀ p,H p=none->Q (.ref p) (upd H p (.lst ys))):compT K g tt te σ0 Q (.ref a) H:=⟨a,rfl,⟨xs,h⟩,comp_tup P h0 hl (ZAZ hz) hs hd⟩
end L2
namespace Pap
noncomputable def IsP (p:List Nat):Prop:=p.Perm (List.range p.length)
noncomputable def at' (p:List Nat) (i:Nat):Nat:=p.getD i 0
theorem at_lt {p:List Nat} {i:Nat} (h:i < p.length):p[i]?=some (at' p i):=by
 unfold at';rw [yBD,yAM h];rfl
theorem IsP.lt {p:List Nat} (h:IsP p) {x:Nat} (hx:x∈p):x < p.length:=List.mem_range.mp (h.mem_iff.mp hx)
theorem IsP.range (n:Nat):IsP (List.range n):=by unfold IsP;rw [List.length_range]
theorem IsP.ins {p:List Nat} (hp:IsP p) (i:Nat):IsP (p.take i++p.length::p.drop i):=by
 unfold IsP
 have hl:(p.take i++p.length::p.drop i).length=p.length+1:=by
  rw [yAD,yAX,yAQ,yAW];omega
 rw [hl,List.range_succ]
 refine List.perm_middle.trans ?_
 rw [List.take_append_drop]
 exact (List.Perm.cons _ hp).trans (List.perm_append_comm (l₁:=[p.length]))
theorem IsP.sorted {p:List Nat} (hp:IsP p) {ms:List Int} (h:ms.Perm (p.map fun x:Nat=>(x:Int))) (hs:ms.Pairwise (· <= ·)):ms=(List.range p.length).map fun x:Nat=>(x:Int):=by
 refine List.Perm.eq_of_pairwise (le:=(· <= ·)) (fun a b _ _ h1 h2=>Int.le_antisymm h1 h2) hs ?_ (h.trans (hp.map _))
 rw [List.pairwise_map]
 exact List.Pairwise.imp (fun h=>by omega) List.pairwise_le_range
end Pap
namespace L2
open PySem
theorem tVar_1 {v:V} {a0:Option V} {σ:St} {H:Hp} {Q:VK}:tVar 1 (a0::some v::σ) H Q=Q v H:=by
 simp only [ZAN,ZAK]
theorem tVar_2 {v:V} {a0 a1:Option V} {σ:St} {H:Hp} {Q:VK}:tVar 2 (a0::a1::some v::σ) H Q=Q v H:=by
 simp only [ZAN,ZAK]
theorem tVar_3 {v:V} {a0 a1 a2:Option V} {σ:St} {H:Hp} {Q:VK}:tVar 3 (a0::a1::a2::some v::σ) H Q=Q v H:=by
 simp only [ZAN,ZAK]
theorem tVar_4 {v:V} {a0 a1 a2 a3:Option V} {σ:St} {H:Hp} {Q:VK}:tVar 4 (a0::a1::a2::a3::some v::σ) H Q=Q v H:=by
 simp only [ZAN,ZAK]
theorem tVar_5 {v:V} {a0 a1 a2 a3 a4:Option V} {σ:St} {H:Hp} {Q:VK}:tVar 5 (a0::a1::a2::a3::a4::some v::σ) H Q=Q v H:=by
 simp only [ZAN,ZAK]
theorem tVar_6 {v:V} {a0 a1 a2 a3 a4 a5:Option V} {σ:St} {H:Hp} {Q:VK}:tVar 6 (a0::a1::a2::a3::a4::a5::some v::σ) H Q=Q v H:=by
 simp only [ZAN,ZAK]
theorem tVar_7 {v:V} {a0 a1 a2 a3 a4 a5 a6:Option V} {σ:St} {H:Hp} {Q:VK}:tVar 7 (a0::a1::a2::a3::a4::a5::a6::some v::σ) H Q=Q v H:=by
 simp only [ZAN,ZAK]
theorem tVar_8 {v:V} {a0 a1 a2 a3 a4 a5 a6 a7:Option V} {σ:St} {H:Hp} {Q:VK}:tVar 8 (a0::a1::a2::a3::a4::a5::a6::a7::some v::σ) H Q=Q v H:=by
 simp only [ZAN,ZAK]
theorem tVar_9 {v:V} {a0 a1 a2 a3 a4 a5 a6 a7 a8:Option V} {σ:St} {H:Hp} {Q:VK}:tVar 9 (a0::a1::a2::a3::a4::a5::a6::a7::a8::some v::σ) H Q=Q v H:=by
 simp only [ZAN,ZAK]
theorem tVar_10 {v:V} {a0 a1 a2 a3 a4 a5 a6 a7 a8 a9:Option V} {σ:St} {H:Hp} {Q:VK}:tVar 10 (a0::a1::a2::a3::a4::a5::a6::a7::a8::a9::some v::σ) H Q=Q v H:=by
 simp only [ZAN,ZAK]
theorem tVar_11 {v:V} {a0 a1 a2 a3 a4 a5 a6 a7 a8 a9 a10:Option V} {σ:St} {H:Hp} {Q:VK}:tVar 11 (a0::a1::a2::a3::a4::a5::a6::a7::a8::a9::a10::some v::σ) H Q=Q v H:=by
 simp only [ZAN,ZAK]
theorem tVar_12 {v:V} {a0 a1 a2 a3 a4 a5 a6 a7 a8 a9 a10 a11:Option V} {σ:St} {H:Hp} {Q:VK}:tVar 12 (a0::a1::a2::a3::a4::a5::a6::a7::a8::a9::a10::a11::some v::σ) H Q=Q v H:=by
 simp only [ZAN,ZAK]
theorem tVar_13 {v:V} {a0 a1 a2 a3 a4 a5 a6 a7 a8 a9 a10 a11 a12:Option V} {σ:St} {H:Hp} {Q:VK}:tVar 13 (a0::a1::a2::a3::a4::a5::a6::a7::a8::a9::a10::a11::a12::some v::σ) H Q=Q v H:=by
 simp only [ZAN,ZAK]
theorem tVar_14 {v:V} {a0 a1 a2 a3 a4 a5 a6 a7 a8 a9 a10 a11 a12 a13:Option V} {σ:St} {H:Hp} {Q:VK}:tVar 14 (a0::a1::a2::a3::a4::a5::a6::a7::a8::a9::a10::a11::a12::a13::some v::σ) H Q=Q v H:=by
 simp only [ZAN,ZAK]
theorem tVar_15 {v:V} {a0 a1 a2 a3 a4 a5 a6 a7 a8 a9 a10 a11 a12 a13 a14:Option V} {σ:St} {H:Hp} {Q:VK}:tVar 15 (a0::a1::a2::a3::a4::a5::a6::a7::a8::a9::a10::a11::a12::a13::a14::some v::σ) H Q=Q v H:=by
 simp only [ZAN,ZAK]
theorem tVar_16 {v:V} {a0 a1 a2 a3 a4 a5 a6 a7 a8 a9 a10 a11 a12 a13 a14 a15:Option V} {σ:St} {H:Hp} {Q:VK}:tVar 16 (a0::a1::a2::a3::a4::a5::a6::a7::a8::a9::a10::a11::a12::a13::a14::a15::some v::σ) H Q=Q v H:=by
 simp only [ZAN,ZAK]
theorem tVar_17 {v:V} {a0 a1 a2 a3 a4 a5 a6 a7 a8 a9 a10 a11 a12 a13 a14 a15 a16:Option V} {σ:St} {H:Hp} {Q:VK}:tVar 17 (a0::a1::a2::a3::a4::a5::a6::a7::a8::a9::a10::a11::a12::a13::a14::a15::a16::some v::σ) H Q=Q v H:=by
 simp only [ZAN,ZAK]
theorem tVar_18 {v:V} {a0 a1 a2 a3 a4 a5 a6 a7 a8 a9 a10 a11 a12 a13 a14 a15 a16 a17:Option V} {σ:St} {H:Hp} {Q:VK}:tVar 18 (a0::a1::a2::a3::a4::a5::a6::a7::a8::a9::a10::a11::a12::a13::a14::a15::a16::a17::some v::σ) H Q=Q v H:=by
 simp only [ZAN,ZAK]
theorem tVar_19 {v:V} {a0 a1 a2 a3 a4 a5 a6 a7 a8 a9 a10 a11 a12 a13 a14 a15 a16 a17 a18:Option V} {σ:St} {H:Hp} {Q:VK}:tVar 19 (a0::a1::a2::a3::a4::a5::a6::a7::a8::a9::a10::a11::a12::a13::a14::a15::a16::a17::a18::some v::σ) H Q=Q v H:=by
 simp only [ZAN,ZAK]
theorem tVar_20 {v:V} {a0 a1 a2 a3 a4 a5 a6 a7 a8 a9 a10 a11 a12 a13 a14 a15 a16 a17 a18 a19:Option V} {σ:St} {H:Hp} {Q:VK}:tVar 20 (a0::a1::a2::a3::a4::a5::a6::a7::a8::a9::a10::a11::a12::a13::a14::a15::a16::a17::a18::a19::some v::σ) H Q=Q v H:=by
 simp only [ZAN,ZAK]
theorem tVar_21 {v:V} {a0 a1 a2 a3 a4 a5 a6 a7 a8 a9 a10 a11 a12 a13 a14 a15 a16 a17 a18 a19 a20:Option V} {σ:St} {H:Hp} {Q:VK}:tVar 21 (a0::a1::a2::a3::a4::a5::a6::a7::a8::a9::a10::a11::a12::a13::a14::a15::a16::a17::a18::a19::a20::some v::σ) H Q=Q v H:=by
 simp only [ZAN,ZAK]
theorem tVar_22 {v:V} {a0 a1 a2 a3 a4 a5 a6 a7 a8 a9 a10 a11 a12 a13 a14 a15 a16 a17 a18 a19 a20 a21:Option V} {σ:St} {H:Hp} {Q:VK}:tVar 22 (a0::a1::a2::a3::a4::a5::a6::a7::a8::a9::a10::a11::a12::a13::a14::a15::a16::a17::a18::a19::a20::a21::some v::σ) H Q=Q v H:=by
 simp only [ZAN,ZAK]
theorem tVar_23 {v:V} {a0 a1 a2 a3 a4 a5 a6 a7 a8 a9 a10 a11 a12 a13 a14 a15 a16 a17 a18 a19 a20 a21 a22:Option V} {σ:St} {H:Hp} {Q:VK}:tVar 23 (a0::a1::a2::a3::a4::a5::a6::a7::a8::a9::a10::a11::a12::a13::a14::a15::a16::a17::a18::a19::a20::a21::a22::some v::σ) H Q=Q v H:=by
 simp only [ZAN,ZAK]
theorem tVar_24 {v:V} {a0 a1 a2 a3 a4 a5 a6 a7 a8 a9 a10 a11 a12 a13 a14 a15 a16 a17 a18 a19 a20 a21 a22 a23:Option V} {σ:St} {H:Hp} {Q:VK}:tVar 24 (a0::a1::a2::a3::a4::a5::a6::a7::a8::a9::a10::a11::a12::a13::a14::a15::a16::a17::a18::a19::a20::a21::a22::a23::some v::σ) H Q=Q v H:=by
 simp only [ZAN,ZAK]
theorem tVar_25 {v:V} {a0 a1 a2 a3 a4 a5 a6 a7 a8 a9 a10 a11 a12 a13 a14 a15 a16 a17 a18 a19 a20 a21 a22 a23 a24:Option V} {σ:St} {H:Hp} {Q:VK}:tVar 25 (a0::a1::a2::a3::a4::a5::a6::a7::a8::a9::a10::a11::a12::a13::a14::a15::a16::a17::a18::a19::a20::a21::a22::a23::a24::some v::σ) H Q=Q v H:=by
 simp only [ZAN,ZAK]
theorem tVar_26 {v:V} {a0 a1 a2 a3 a4 a5 a6 a7 a8 a9 a10 a11 a12 a13 a14 a15 a16 a17 a18 a19 a20 a21 a22 a23 a24 a25:Option V} {σ:St} {H:Hp} {Q:VK}:tVar 26 (a0::a1::a2::a3::a4::a5::a6::a7::a8::a9::a10::a11::a12::a13::a14::a15::a16::a17::a18::a19::a20::a21::a22::a23::a24::a25::some v::σ) H Q=Q v H:=by
 simp only [ZAN,ZAK]
theorem tVar_27 {v:V} {a0 a1 a2 a3 a4 a5 a6 a7 a8 a9 a10 a11 a12 a13 a14 a15 a16 a17 a18 a19 a20 a21 a22 a23 a24 a25 a26:Option V} {σ:St} {H:Hp} {Q:VK}:tVar 27 (a0::a1::a2::a3::a4::a5::a6::a7::a8::a9::a10::a11::a12::a13::a14::a15::a16::a17::a18::a19::a20::a21::a22::a23::a24::a25::a26::some v::σ) H Q=Q v H:=by
 simp only [ZAN,ZAK]
theorem tVar_28 {v:V} {a0 a1 a2 a3 a4 a5 a6 a7 a8 a9 a10 a11 a12 a13 a14 a15 a16 a17 a18 a19 a20 a21 a22 a23 a24 a25 a26 a27:Option V} {σ:St} {H:Hp} {Q:VK}:tVar 28 (a0::a1::a2::a3::a4::a5::a6::a7::a8::a9::a10::a11::a12::a13::a14::a15::a16::a17::a18::a19::a20::a21::a22::a23::a24::a25::a26::a27::some v::σ) H Q=Q v H:=by
 simp only [ZAN,ZAK]
theorem tVar_29 {v:V} {a0 a1 a2 a3 a4 a5 a6 a7 a8 a9 a10 a11 a12 a13 a14 a15 a16 a17 a18 a19 a20 a21 a22 a23 a24 a25 a26 a27 a28:Option V} {σ:St} {H:Hp} {Q:VK}:tVar 29 (a0::a1::a2::a3::a4::a5::a6::a7::a8::a9::a10::a11::a12::a13::a14::a15::a16::a17::a18::a19::a20::a21::a22::a23::a24::a25::a26::a27::a28::some v::σ) H Q=Q v H:=by
 simp only [ZAN,ZAK]
theorem tVar_30 {v:V} {a0 a1 a2 a3 a4 a5 a6 a7 a8 a9 a10 a11 a12 a13 a14 a15 a16 a17 a18 a19 a20 a21 a22 a23 a24 a25 a26 a27 a28 a29:Option V} {σ:St} {H:Hp} {Q:VK}:tVar 30 (a0::a1::a2::a3::a4::a5::a6::a7::a8::a9::a10::a11::a12::a13::a14::a15::a16::a17::a18::a19::a20::a21::a22::a23::a24::a25::a26::a27::a28::a29::some v::σ) H Q=Q v H:=by
 simp only [ZAN,ZAK]
open PySem
noncomputable def Cut (t:TS):TS:=t
theorem ZAk {X:Cx} {rest:List Stmt} {u:TS} (h:PSs X rest u):PSs X rest (Cut u):=h
theorem ZBA {u:TS} {D:Ends} {σ:St} {H:Hp} (h:u D σ H):Cut u D σ H:=h
theorem us0 {l:List Value} (h:l.length=0):l=[]:=List.length_eq_zero_iff.mp h
theorem us1 {l:List Value} (h:l.length=1):∃ a0,l=[a0]:=by
 cases l with
 | nil=>cases h
 | cons a l=>
  obtain rfl:=us0 (l:=l) (Nat.succ.inj h)
  exact ⟨a,rfl⟩
theorem us2 {l:List Value} (h:l.length=2):∃ a0 a1,l=[a0,a1]:=by
 cases l with
 | nil=>cases h
 | cons a l=>
  obtain ⟨b0,rfl⟩:=us1 (l:=l) (Nat.succ.inj h)
  exact ⟨a,b0,rfl⟩
theorem us3 {l:List Value} (h:l.length=3):∃ a0 a1 a2,l=[a0,a1,a2]:=by
 cases l with
 | nil=>cases h
 | cons a l=>
  obtain ⟨b0,b1,rfl⟩:=us2 (l:=l) (Nat.succ.inj h)
  exact ⟨a,b0,b1,rfl⟩
end L2
namespace Law
open PySem L2
local macro_rules | `(tactic| walk_at "o")=>`(tactic| first | exact Or.inl rfl | exact Or.inr rfl)
set_option hygiene false in
local macro_rules | `(tactic| walk_at "rd")=>`(tactic| ((try dsimp only [cx_K,tChain,tForZ_eq,tRevL,tCompR2_eq,sFldAug_eq,cx_cloK,tCallV,startC,tForE_eq,tCompE_eq,tMaxD,tAug_eq,ipI_int,gSub,gCons_eq,gNil_eq,tSeq,tIfS,ZCd,tB,tOr,tAnd,tNot,tOp,tUn,tC,ZAK,tTry,ZCN,ZCM,tMethS,tRaiseX,tXMk,tFS,sXFld,tXFldM,tTry0,tForT_eq,tCompT_eq,tVar_1,tVar_2,tVar_3,tVar_4,tVar_5,tVar_6,tVar_7,tVar_8,tVar_9,tVar_10,tVar_11,tVar_12,tVar_13,tVar_14,tVar_15,tVar_16,tVar_17,tVar_18,tVar_19,tVar_20,tVar_21,tVar_22,tVar_23,tVar_24,tVar_25,tVar_26,tVar_27,tVar_28,tVar_29,tVar_30,rI0_int,rI_int,rU_int,rEq_int,rNe_int,rEq_bl,rNe_bl,rEq_str,rNe_str,ex_bl,ex_int,tAsg,ZCK,tRet,tRetN,ZCh,ZCg,tNever,ZCi,tOrV,ZCf,tIf,List.set_cons_zero,List.set_cons_succ,ZCW,tMeth,ZBI,tNil,List.cons_append,List.nil_append,List.append_nil,tCB,tFld_eq,sFld_eq,tForL_eq,tForR1_eq,tForR2_eq,tCompL_eq,tCompR1_eq,tYes,tBM,tBM0,tLst,tTup,tMake,true_and,tSl,ZCe,ZB9,decide_eq_true_eq,Bool.not_eq_true',decide_eq_false_iff_not,L2.start,yAJ,yAZ,yAX,List.length_nil,Nat.reduceAdd,Nat.reduceSub,Nat.zero_add,Nat.sub_self,List.replicate_zero,List.replicate_succ,if_true,if_false,Bool.false_eq_true,Bool.true_eq_false,Bool.not_true,Bool.not_false]);(try simp only [cx_K,tChain,tForZ_eq,tRevL,tCompR2_eq,sFldAug_eq,cx_cloK,tCallV,startC,tForE_eq,tCompE_eq,tMaxD,tAug_eq,ipI_int,gSub,gCons_eq,gNil_eq,tSeq,tIfS,ZCd,tB,tOr,tAnd,tNot,tOp,tUn,tC,ZAK,tTry,ZCN,ZCM,tMethS,tRaiseX,tXMk,tFS,sXFld,tXFldM,tTry0,tForT_eq,tCompT_eq,tVar_1,tVar_2,tVar_3,tVar_4,tVar_5,tVar_6,tVar_7,tVar_8,tVar_9,tVar_10,tVar_11,tVar_12,tVar_13,tVar_14,tVar_15,tVar_16,tVar_17,tVar_18,tVar_19,tVar_20,tVar_21,tVar_22,tVar_23,tVar_24,tVar_25,tVar_26,tVar_27,tVar_28,tVar_29,tVar_30,rI0_int,rI_int,rU_int,rEq_int,rNe_int,rEq_bl,rNe_bl,rEq_str,rNe_str,ex_bl,ex_int,tAsg,ZCK,tRet,tRetN,ZCh,ZCg,tNever,ZCi,tOrV,ZCf,tIf,List.set_cons_zero,List.set_cons_succ,ZCW,tMeth,ZBI,tNil,List.cons_append,List.nil_append,List.append_nil,tCB,tFld_eq,sFld_eq,tForL_eq,tForR1_eq,tForR2_eq,tCompL_eq,tCompR1_eq,tYes,tBM,tBM0,tLst,tTup,tMake,true_and,tSl,ZCe,ZB9,decide_eq_true_eq,Bool.not_eq_true',decide_eq_false_iff_not,L2.start,yAJ,yAZ,yAX,List.length_nil,Nat.reduceAdd,Nat.reduceSub,Nat.zero_add,Nat.sub_self,List.replicate_zero,List.replicate_succ,if_true,if_false,Bool.false_eq_true,Bool.true_eq_false,Bool.not_true,Bool.not_false])))
local macro_rules | `(tactic| walk_at "up")=>`(tactic| first | assumption | (refine Same.get (by assumption) ?_;walk_at "up"))
local macro_rules | `(tactic| walk_at "lk")=>`(tactic| ((repeat (first | rw [lkc,if_pos rfl] | rw [lkc,if_neg (by decide +kernel)]));first | done | rfl))
noncomputable def top (i:Nat):Stmt:=PySem.Challenge.pw_sorthall_k85_sheets.main.body.getD i (.Pass ⟨0,0,0,0⟩)
noncomputable abbrev ZAf:Stmt:=top 5
noncomputable abbrev ZAc:Stmt:=top 6
noncomputable abbrev ZAh:Stmt:=top 7
noncomputable abbrev ZAW:Stmt:=top 8
noncomputable abbrev ZAV:Stmt:=top 10
noncomputable abbrev ZBN:Stmt:=top 11
noncomputable abbrev ZAp:Stmt:=top 13
noncomputable abbrev ZA6:Stmt:=top 14
noncomputable abbrev ZBM:Stmt:=top 15
noncomputable abbrev ZAg:Stmt:=top 16
noncomputable abbrev ZBl:Stmt:=top 17
noncomputable abbrev ZAo:Stmt:=top 18
noncomputable abbrev ZAm:Stmt:=top 19
noncomputable abbrev ZAn:Stmt:=top 20
noncomputable abbrev ZBs:Stmt:=top 21
theorem sc_straight:FnScope ["many"] ["many"] (ZAC ZAf):=⟨rfl,rfl,rfl,by decide +kernel,rfl,by decide +kernel,by decide +kernel⟩
theorem sc_is_number:FnScope ["some"] ["some"] (ZAC ZAc):=⟨rfl,rfl,rfl,by decide +kernel,rfl,by decide +kernel,by decide +kernel⟩
theorem sc_is_paper:FnScope ["some"] ["some"] (ZAC ZAh):=⟨rfl,rfl,rfl,by decide +kernel,rfl,by decide +kernel,by decide +kernel⟩
theorem sc_check_paper:FnScope ["some","many"] ["some","many"] (ZAC ZAW):=⟨rfl,rfl,rfl,by decide +kernel,rfl,by decide +kernel,by decide +kernel⟩
theorem sc_shown_thing:FnScope ["thing"] ["thing"] (ZAC ZAV):=⟨rfl,rfl,rfl,by decide +kernel,rfl,by decide +kernel,by decide +kernel⟩
theorem sc_sheet:FnScope ["row","paper","width"] ["row","paper"] (ZAC ZBN):=⟨rfl,rfl,rfl,by decide +kernel,rfl,by decide +kernel,by decide +kernel⟩
theorem sc_cell_at:FnScope ["_law_script","_law_k"] ["_law_script","_law_k"] (ZAC ZAp):=⟨rfl,rfl,rfl,by decide +kernel,rfl,by decide +kernel,by decide +kernel⟩
theorem sc_number:FnScope ["_law_cell"] ["_law_cell"] (ZAC ZA6):=⟨rfl,rfl,rfl,by decide +kernel,rfl,by decide +kernel,by decide +kernel⟩
theorem sc_thing:FnScope ["_law_cell","_law_width","_law_kind"] ["_law_cell","_law_width","_law_kind"] (ZAC ZBM):=⟨rfl,rfl,rfl,by decide +kernel,rfl,by decide +kernel,by decide +kernel⟩
theorem sc_paper_by:FnScope ["_law_cells","_law_paper","_law_k"] ["_law_cells"] (ZAC ZAg):=⟨rfl,rfl,rfl,by decide +kernel,rfl,by decide +kernel,by decide +kernel⟩
theorem sc_line:FnScope ["_law_place","_law_many","_law_thing_here","_law_line_here","_law_number_here"] ["_law_place","_law_many","_law_thing_here"] (ZAC ZBl):=⟨rfl,rfl,rfl,by decide +kernel,rfl,by decide +kernel,by decide +kernel⟩
theorem sc_l_sheet:FnScope ["_law_row","_law_paper","_law_text","_law_place"] ["_law_row","_law_paper"] (ZAC ZAo):=⟨rfl,rfl,rfl,by decide +kernel,rfl,by decide +kernel,by decide +kernel⟩
theorem sc_spoiled:FnScope ["_law_paper","_law_cell","_law_many","_law_way","_law_at"] ["_law_paper","_law_cell"] (ZAC ZAm):=⟨rfl,rfl,rfl,by decide +kernel,rfl,by decide +kernel,by decide +kernel⟩
theorem sc_refused:FnScope ["_law_row","_law_paper","_law_refused_here","e"] ["_law_row","_law_paper"] (ZAC ZAn):=⟨rfl,rfl,rfl,by decide +kernel,rfl,by decide +kernel,by decide +kernel⟩
theorem sc_law:FnScope ["_law_script","_law_cells","_law_width","_law_row","_law_paper","_law_handed","_law_due","_law_found","_law_spoiled_here"] ["_law_script"] (ZAC ZBs):=⟨rfl,rfl,rfl,by decide +kernel,rfl,by decide +kernel,by decide +kernel⟩
structure Bt (K:W.Frag) (mg:Str->Option Value) (C_HallError C_NoPaper C_NoRow:Addr):Prop where
 b_len:mg "len"=none
 b_range:mg "range"=none
 b_tuple:mg "tuple"=none
 b_list:mg "list"=none
 b_isinstance:mg "isinstance"=none
 b_bool:mg "bool"=none
 b_int:mg "int"=none
 b_str:mg "str"=none
 b_all:mg "all"=none
 b_sorted:mg "sorted"=none
 b_ValueError:mg "ValueError"=none
 m_HallError:mg "HallError"=some (.ref C_HallError)
 m_NoPaper:mg "NoPaper"=some (.ref C_NoPaper)
 m_NoRow:mg "NoRow"=some (.ref C_NoRow)
 xq_NoPaper:PySem.W.excIn K C_NoPaper bmV "ValueError.__new__"=true
 xc_NoPaper:ExcC K C_NoPaper
 xd_NoPaper:PySem.W.hasDictIn K C_NoPaper=true
 xm_NoPaper_HallError:PySem.W.exmOne K (.ref C_NoPaper) (.ref C_HallError)=some true
 kit_int_bool:PySem.W.kitOne K (.type "int") (.type "bool")=some false
 kit_NoPaper_NoPaper:PySem.W.kitOne K (.ref C_NoPaper) (.ref C_NoPaper)=some true
 kit_NoPaper_NoRow:PySem.W.kitOne K (.ref C_NoPaper) (.ref C_NoRow)=some false
noncomputable def ZCX (K:W.Frag):Sp:=fun vs H Q _=>∃ (a:Addr) (ns:List Int),vs=[.ref a] /\ SqL K H a (ns.map V.int) /\ ns.length <= 63 /\ ∀ H',Q (.bl true) H'
noncomputable def cellOf (ns:List Int) (k:Int):Int:=if k < (ns.length:Int) then (ns[k.toNat]?).getD 0 else 0
noncomputable def ZCP (K:W.Frag):Sp:=fun vs H Q _=>∃ (a:Addr) (ns:List Int) (k:Int),vs=[.ref a,.int k] /\ SqL K H a (ns.map V.int) /\ 0 <= k /\ Q (.int (cellOf ns k)) H
noncomputable abbrev NL (gs:List Nat):List V:=(gs.map fun g:Nat=>(g:Int)).map V.int
theorem ZCJ (gs:List Nat):(NL gs).length=gs.length:=by simp
theorem NL_at {p:List Nat} {i:Nat} (h:i < p.length):(NL p)[i]?=some (.int (Pap.at' p i)):=by
 rw [yAR,yAR,Pap.at_lt h];rfl
theorem NL_get {p:List Nat} {i:Nat} {v:V} (h:(NL p)[i]?=some v):i < p.length /\ v=.int (Pap.at' p i):=by
 have hi:i < p.length:=by have:=(yAT.mp h).1;rwa [ZCJ] at this
 rw [NL_at hi] at h
 exact ⟨hi,(Option.some.inj h).symm⟩
theorem rints_range (n:Nat):(ZBE 0 n).map V.int=NL (List.range n):=by
 unfold ZBE
 simp
theorem all_true (n:Nat):(List.replicate n true).all id=true:=by
 induction n with
 | zero=>rfl
 | succ n ih=>rw [List.replicate_succ,List.all_cons,ih];rfl
theorem eq_rep {ys:List V} {n:Nat} {v:V} (hl:ys.length=n) (h:∀ (j:Nat) y,ys[j]?=some y->y=v):ys=List.replicate n v:=by
 subst hl
 refine List.ext_getElem? fun j=>?_
 by_cases hj:j < ys.length
 .rw [yAM hj,List.getElem?_replicate,if_pos hj,h j _ (yAM hj)]
 .rw [List.getElem?_eq_none (by omega),List.getElem?_eq_none (by rw [List.length_replicate];omega)]
noncomputable def isP (zs:List Int):Prop:=∃ p:List Nat,Pap.IsP p /\ zs=p.map fun x:Nat=>(x:Int)
theorem ZBP {zs ms:List Int} (hp:ms.Perm zs) (hs:ms.Pairwise (· <= ·)):ms=(List.range zs.length).map (fun x:Nat=>(x:Int))↔isP zs:=by
 constructor
 .intro e
  have h1:zs.Perm ((List.range zs.length).map fun x:Nat=>(x:Int)):=by rw [<- e];exact hp.symm
  have h2:=h1.map Int.toNat
  rw [List.map_map,show Int.toNat ∘ (fun x:Nat=>(x:Int))=id from by funext x;rfl,List.map_id] at h2
  refine ⟨zs.map Int.toNat,by unfold Pap.IsP;rw [yAA];exact h2,?_⟩
  rw [List.map_map]
  refine (List.map_id' zs).symm.trans (List.map_congr_left fun z hz=>?_)
  obtain ⟨n,_,hn⟩:=List.mem_map.mp (h1.mem_iff.mp hz)
  rw [<- hn];rfl
 .rintro ⟨p,h1,rfl⟩
  rw [yAA]
  exact h1.sorted hp hs
noncomputable def ZBJ:Sp:=fun vs H Q _=>∃ n:Nat,vs=[.int n] /\ n <= 1000 /\ ∀ l H',Same H H'->H l=none->H' l=some (.lst (NL (List.range n)))->Q (.ref l) H'
noncomputable def ZBL:Sp:=fun vs H Q _=>∃ i:Int,vs=[.int i] /\ Q (.bl true) H
noncomputable def ZBa:Sp:=fun vs H Q _=>∃ (a:Addr) (zs:List Int),vs=[.ref a] /\ H a=some (.lst (zs.map V.int)) /\ zs.length < 64 /\ ∀ b H',(b=true↔isP zs)->Same H H'->Q (.bl b) H'
noncomputable def ZAx (CN:Addr):Sp:=fun vs H Q E=>∃ (a:Addr) (zs:List Int) (m:Int),vs=[.ref a,.int m] /\ H a=some (.lst (zs.map V.int)) /\ zs.length < 64 /\ (isP zs /\ (zs.length:Int)=m->∀ H',Same H H'->Q .non H') /\ (¬ (isP zs /\ (zs.length:Int)=m)->∀ H',Same H H'->E (.ref CN) none H')
noncomputable def ZBZ:Sp:=fun vs H Q _=>∃ (c:Addr) (ns:List Int),vs=[.ref c] /\ H c=some (.lst (ns.map V.int)) /\ ns.length <= 61 /\ ∀ l H' p,Same H H'->H l=none->H' l=some (.lst (NL p))->Pap.IsP p->p.length=ns.length->Q (.ref l) H'
theorem insV_NL {p:List Nat} {i:Int} (h0:0 <= i) (h1:i <= p.length):insV (NL p) i (.int p.length)=NL (p.take i.toNat++p.length::p.drop i.toNat):=by
 unfold insV
 dsimp only
 rw [if_neg (by omega),ZCJ,Nat.min_eq_left (by omega)]
 simp [NL]
theorem cutV_to {xs:List V} {n:Nat} (h:n <= xs.length):cutV xs none (some (n:Int))=xs.take n:=by
 unfold cutV
 rw [HT.sIx_none,HT.sIx_nat,Nat.min_eq_left h,Nat.sub_zero]
 rfl
theorem cutV_from (ws:List V) (n:Nat) (h:n <= ws.length):cutV ws (some (n:Int)) none=ws.drop n:=by
 unfold cutV
 rw [HT.sIx_none,HT.sIx_nat,Nat.min_eq_left h]
 exact yBC (by rw [yAW];exact yAB _)
theorem ZCL (p:List Nat):NL p=(p.map fun x:Nat=>(x:Int)).map V.int:=by first | rfl | (unfold NL;first | rfl | (rw [List.map_map];rfl))
noncomputable def tx (n:Int):Str:=Str.ofString (toString n)
noncomputable def Sm (n:Int):Prop:=n.natAbs.log2 < 200
theorem Sm.big {n:Int} (h:Sm n):n.natAbs.log2 < 1920:=Nat.lt_trans h (by decide)
theorem ZBD {n:Int} (h:Sm n):(tx n).length <= 201:=by
 unfold tx
 rw [PySem.ofString_length]
 exact int_text_length_le (by decide) h
theorem Sm.of {n:Int} (h:n.natAbs < 2 ^ 200):Sm n:=by
 unfold Sm
 by_cases z:n.natAbs=0
 .rw [z];decide
 .exact (Nat.log2_lt z).mpr h
noncomputable def thT (ns:List Int):Str:=Str.join " " (ns.map tx)
theorem ZCO {ys:List Str} {B:Nat} (h:∀ y∈ys,y.length <= B):(ys.map (·.length)).sum <= ys.length * B:=by
 induction ys with
 | nil=>exact yAU _
 | cons y r ih=>
  have h1:=h y yAK
  have h2:=ih fun z hz=>h z (yAL _ hz)
  rw [yAJ,List.sum_cons,yAX,Nat.add_mul,Nat.one_mul]
  omega
theorem join_le {sep:Str} {ys:List Str} {B:Nat} (h:∀ y∈ys,y.length <= B):(Str.join sep ys).length <= ys.length * B+ys.length * sep.length :=
 yAC (StrLaws.join_length_le sep ys) (Nat.add_le_add_right (ZCO h) _)
theorem txs_le {ns:List Int} (h:∀ n∈ns,Sm n):∀ y∈ns.map tx,y.length <= 201:=fun y hy=>by
 obtain ⟨n,hn,rfl⟩:=List.mem_map.mp hy
 exact ZBD (h n hn)
theorem ZB8 {ns:List Int} (hl:ns.length <= 8) (h:∀ n∈ns,Sm n):(thT ns).length <= 1616:=by
 have:=join_le (sep:=" ") (txs_le h)
 rw [yAA] at this
 have e:(" ":Str).length=1:=by decide
 rw [e] at this
 have:ns.length * 201 <= 8 * 201:=Nat.mul_le_mul_right _ hl
 unfold thT
 omega
noncomputable def lnT (n:Nat) (i:Int) (ns:List Int):Str:=Txt.rjust (tx i) ((tx ((n:Int)-1)).length:Nat)++": "++thT ns
noncomputable def shT (rs:List (List Int)) (p:List Nat):Str:=Str.join "\n" (p.map fun (i:Nat)=>lnT rs.length (i:Int) (rs.getD i []))
theorem rj_len {x:Str} {n:Nat}:(Txt.rjust x (n:Int)).length=max x.length n:=by
 unfold Txt.rjust
 split
 .omega
 .show (Array.replicate _ 32++x.cps++Array.replicate 0 32).size=_
  rw [Array.size_append,Array.size_append,Array.size_replicate,Array.size_replicate]
  show _+x.length+0=_
  omega
theorem ZCC {n:Nat} {i:Int} {ns:List Int} (hi:Sm i) (hn:Sm ((n:Int)-1)) (hl:ns.length <= 8) (h:∀ n∈ns,Sm n):(lnT n i ns).length <= 1819:=by
 unfold lnT
 rw [strLen_append,strLen_append,rj_len]
 have h1:=ZBD hi
 have h2:=ZBD hn
 have h3:=ZB8 hl h
 have e:(": ":Str).length=2:=by decide
 rw [e]
 omega
theorem Sm.nat {n:Nat} (h:n <= 1000):Sm (n:Int):=Sm.of (Nat.lt_of_le_of_lt (by omega:((n:Nat):Int).natAbs <= 1000) (by decide))
theorem Sm.pre {n:Nat} (h:n <= 1000):Sm ((n:Int)-1):=Sm.of (Nat.lt_of_le_of_lt (by omega:((n:Int)-1).natAbs <= 1000) (by decide))
structure Rws (H:Hp) (rs:List (List Int)) (xs:List V):Prop where
 len:xs.length=rs.length
 get:∀ (i:Nat) ns,rs[i]?=some ns->∃ t,xs[i]?=some (V.ref t) /\ H t=some (.tup (ns.map V.int))
 wide:∀ ns∈rs,0 < ns.length /\ ns.length <= 8
 sm:∀ ns∈rs,∀ n∈ns,Sm n
theorem Rws.keep {H H':Hp} {rs:List (List Int)} {xs:List V} (s:Same H H') (h:Rws H rs xs):Rws H' rs xs :=
 ⟨h.len,fun i ns hi=>by
  obtain ⟨t,a,b⟩:=h.get i ns hi
  exact ⟨t,a,s _ _ b⟩,h.wide,h.sm⟩
theorem Rws.snoc {H:Hp} {rs:List (List Int)} {xs:List V} {ns:List Int} {t:Addr} (h:Rws H rs xs) (ht:H t=some (.tup (ns.map V.int))) (h0:0 < ns.length) (h8:ns.length <= 8) (hs:∀ n∈ns,Sm n):Rws H (rs++[ns]) (xs++[.ref t]):=by
 refine ⟨by rw [yAD,yAD,h.len];rfl,fun i ms hi=>?_,fun ms hm=>?_,fun ms hm=>?_⟩
 .by_cases z:i < rs.length
  .rw [List.getElem?_append_left z] at hi
   obtain ⟨t',a,b⟩:=h.get i ms hi
   exact ⟨t',by rw [List.getElem?_append_left (by rw [h.len];exact z)];exact a,b⟩
  .have e:=(yAT.mp hi).1
   rw [yAD] at e
   have e1:i=rs.length:=by have:([ns]:List (List Int)).length=1:=rfl;omega
   subst e1
   rw [List.getElem?_append_right (yAB _),Nat.sub_self] at hi
   cases hi
   exact ⟨t,by rw [<- h.len,List.getElem?_append_right (yAB _),Nat.sub_self];rfl,ht⟩
 .rcases yAV.mp hm with z | z
  .exact h.wide ms z
  .rw [List.mem_singleton.mp z];exact ⟨h0,h8⟩
 .rcases yAV.mp hm with z | z
  .exact h.sm ms z
  .rw [List.mem_singleton.mp z];exact hs
theorem Rws.nil {H:Hp}:Rws H [] []:=⟨rfl,fun i ns h=>by simp at h,fun ns h=>(by cases h),fun ns h=>(by cases h)⟩
noncomputable def ZBY:Sp:=fun vs H Q _=>∃ (t:Addr) (ns:List Int),vs=[.ref t] /\ H t=some (.tup (ns.map V.int)) /\ ns.length <= 8 /\ (∀ n∈ns,Sm n) /\ ∀ H',Same H H'->Q (.str (thT ns)) H'
noncomputable def ZBp (CN:Addr):Sp:=fun vs H Q E=>∃ (r a:Addr) (xs:List V) (rs:List (List Int)) (zs:List Int),vs=[.ref r,.ref a] /\ H r=some (.lst xs) /\ Rws H rs xs /\ H a=some (.lst (zs.map V.int)) /\ zs.length < 64 /\ rs.length <= 61 /\
 (∀ p:List Nat,Pap.IsP p->zs=p.map (fun x:Nat=>(x:Int))->p.length=rs.length->∀ H',Same H H'->Q (.str (shT rs p)) H') /\ (¬ (isP zs /\ (zs.length:Int)=rs.length)->∀ H',Same H H'->E (.ref CN) none H')
noncomputable def ZBK:Sp:=fun vs H Q _=>∃ c:Int,vs=[.int c] /\ ∀ n:Int,Sm n->Q (.int n) H
noncomputable def ZBW:Sp:=fun vs H Q _=>∃ (c k:Int) (w:Nat),vs=[.int c,.int w,.int k] /\ 0 < w /\ w <= 8 /\ ∀ t H' (ns:List Int),Same H H'->H t=none->H' t=some (.tup (ns.map V.int))->ns.length=w->(∀ n∈ns,Sm n)->Q (.ref t) H'
noncomputable def padS (k:Nat) (x:Str):Str:=⟨Array.replicate k 32++x.cps⟩
theorem padS_zero (x:Str):padS 0 x=x:=by
 cases x
 simp [padS]
theorem padS_succ (k:Nat) (x:Str):(" ":Str)++padS k x=padS (k+1) x:=by
 refine Str.ext' ?_
 rw [Str.cps_append]
 show (" ":Str).cps++(Array.replicate k 32++x.cps)=Array.replicate (k+1) 32++x.cps
 rw [show (" ":Str).cps=Array.replicate 1 32 by decide,<- Array.append_assoc,Array.replicate_append_replicate,Nat.add_comm]
theorem padS_len (k:Nat) (x:Str):(padS k x).length=k+x.length:=by
 show (Array.replicate k 32++x.cps).size=_
 rw [Array.size_append,Array.size_replicate];rfl
theorem ZBw (k:Nat) (x y:Str):padS k x++y=padS k (x++y):=by
 refine Str.ext' ?_
 rw [Str.cps_append]
 show Array.replicate k 32++x.cps++y.cps=Array.replicate k 32++(x++y).cps
 rw [Str.cps_append,Array.append_assoc]
theorem rj_pad (x:Str) (n:Nat):Txt.rjust x (n:Int)=padS (n-x.length) x:=by
 unfold Txt.rjust
 split
 .rw [show n-x.length=0 by omega,padS_zero]
 .show (⟨Array.replicate _ 32++x.cps++Array.replicate 0 32⟩:Str)=_
  unfold padS
  simp
noncomputable def sfx (l:List Int):Str:=if l=[] then Str.empty else " "++Str.join " " (l.map tx)
theorem sfx_snoc (l:List Int) (n:Int):sfx (l++[n])=sfx l++" "++tx n:=by
 unfold sfx
 rw [if_neg (by simp),yAO,yAJ,yAZ,PyProof.Rows.FinIter.join_snoc]
 by_cases h:l=[]
 .rw [if_pos h,h,yAZ,if_pos rfl,Str.empty_append]
 .rw [if_neg h,if_neg (by simpa using h),Str.append_assoc,Str.append_assoc,Str.append_assoc]
theorem lnT_eq {n k:Nat} {i:Int} {ns:List Int} (h0:ns≠[]) (hk:k=(tx ((n:Int)-1)).length-(tx i).length):padS k (tx i++":")++sfx ns=lnT n i ns:=by
 unfold lnT sfx thT
 rw [if_neg h0,rj_pad,<- hk,ZBw,ZBw,ZBw]
 congr 1
 rw [Str.append_assoc,Str.append_assoc,<- Str.append_assoc ":" " ",show (":":Str)++" "=": " by decide]
theorem sfx_len {l:List Int} (hl:l.length <= 8) (h:∀ n∈l,Sm n):(sfx l).length <= 1617:=by
 unfold sfx
 split
 .exact yAU _
 .rw [strLen_append]
  have:=ZB8 hl h
  unfold thT at this
  have e:(" ":Str).length=1:=by decide
  omega
noncomputable def ZBr:Sp:=fun vs H Q _=>∃ (i n:Nat) (t:Addr) (ns:List Int),vs=[.int i,.int n,.ref t] /\ H t=some (.tup (ns.map V.int)) /\ 0 < ns.length /\ ns.length <= 8 /\ (∀ n∈ns,Sm n) /\ i <= 1000 /\ n <= 1000 /\ Q (.str (lnT n i ns)) H
theorem lnT_pos {n:Nat} {i:Int} {ns:List Int}:2 <= (lnT n i ns).length:=by
 unfold lnT
 rw [strLen_append,strLen_append,show (": ":Str).length=2 by decide]
 omega
theorem sh_snoc (rs:List (List Int)) (l:List Nat) (x:Nat):shT rs (l++[x])=if l=[] then lnT rs.length (x:Int) (rs.getD x []) else shT rs l++"\n"++lnT rs.length (x:Int) (rs.getD x []):=by
 unfold shT
 rw [yAO,yAJ,yAZ,PyProof.Rows.FinIter.join_snoc]
 by_cases h:l=[]
 .rw [if_pos h,if_pos (by rw [h];rfl)]
 .rw [if_neg h,if_neg (by simpa using h)]
theorem sh_pos {rs:List (List Int)} {l:List Nat} (h:l≠[]):2 <= (shT rs l).length:=by
 obtain ⟨x,r,rfl⟩:=List.exists_cons_of_ne_nil h
 exact yAC lnT_pos (join_mem_le "\n" _ _ (List.mem_map.mpr ⟨x,yAK,rfl⟩))
theorem sh_len {rs:List (List Int)} {l:List Nat} (hl:∀ x∈l,x < rs.length) (hr:rs.length <= 61) (hw:∀ ns∈rs,ns.length <= 8) (hs:∀ ns∈rs,∀ n∈ns,Sm n):(shT rs l).length <= l.length * 1820:=by
 have:=join_le (sep:="\n") (ys:=l.map fun (i:Nat)=>lnT rs.length (i:Int) (rs.getD i [])) (B:=1819) fun y hy=>by
  obtain ⟨i,hi,rfl⟩:=List.mem_map.mp hy
  have hi':=hl i hi
  have hm:rs.getD i []∈rs:=by rw [yBD,yAM (by omega)];exact List.getElem_mem _
  exact ZCC (Sm.nat (by omega)) (Sm.pre (by omega)) (hw _ hm) (hs _ hm)
 rw [yAA,show ("\n":Str).length=1 by decide] at this
 unfold shT
 omega
noncomputable def ZBo:Sp:=fun vs H Q _=>∃ (r a:Addr) (xs:List V) (rs:List (List Int)) (p:List Nat),vs=[.ref r,.ref a] /\ H r=some (.lst xs) /\ Rws H rs xs /\ H a=some (.lst (NL p)) /\ rs.length <= 61 /\ (∀ x∈p,x < rs.length) /\ p.length <= 64 /\ Q (.str (shT rs p)) H
noncomputable def ZBX:Sp:=fun vs H Q _=>∃ (pp:Addr) (p:List Nat) (c:Int),vs=[.ref pp,.int c] /\ H pp=some (.lst (NL p)) /\ p.length <= 61 /\ ∀ l H' (zs:List Int),Same H H'->H l=none->H' l=some (.lst (zs.map V.int))->zs.length <= 62->Q (.ref l) H'
theorem isX85 {R:Bool->Prop} {K:W.Frag} {H:Hp} {ea C:Addr} {c:V} {b:Bool} {dd:Option Addr} (h:H ea=some (excO ea (.ref C) dd)) (x:ExcC K C) (hd:PySem.W.hasDictIn K C=true) (k:PySem.W.kitOne K (.ref C) (cval c)=some b) (hc:ZBk c=true) (q:R b) :
  ∃ a C' c' b' dd',[V.ref ea,c]=[.ref a,c'] /\ ZBk c'=true /\ H a=some (excO a (.ref C') dd') /\ ExcC K C' /\ PySem.W.hasDictIn K C'=true /\ PySem.W.kitOne K (.ref C') (cval c')=some b' /\ R b':=⟨ea,C,c,b,dd,rfl,hc,h,x,hd,k,q⟩
noncomputable def ZBq:Sp:=fun vs H Q _=>∃ (r a:Addr) (xs:List V) (rs:List (List Int)) (zs:List Int),vs=[.ref r,.ref a] /\ H r=some (.lst xs) /\ Rws H rs xs /\ H a=some (.lst (zs.map V.int)) /\ zs.length < 64 /\ rs.length <= 61 /\ ¬ (isP zs /\ (zs.length:Int)=rs.length) /\ ∀ H',Same H H'->Q (.bl true) H'
theorem ZCn:∀ {A B:List Nat},(A.map fun x:Nat=>(x:Int))=(B.map fun x:Nat=>(x:Int))->A=B
 | [],[],_=>rfl
 | [],b::B,h=>by cases h
 | a::A,[],h=>by cases h
 | a::A,b::B,h=>by
  rw [yAJ,yAJ] at h
  injection h with h1 h2
  rw [ZCn h2,Int.ofNat.inj h1]
noncomputable abbrev tpD (ns:List Int):PyData:=.tuple (ns.map PyData.int)
theorem Rws.dp {K:W.Frag} {H:Hp}:∀ {rs:List (List Int)} {xs:List V},Rws H rs xs->DpAll K H (rs.map tpD) xs
 | [],xs,h=>by
  rw [List.length_eq_zero_iff.mp h.len]
  exact .nil
 | k::ks,[],h=>by have:=h.len;cases this
 | k::ks,x::xs,h=>by
  obtain ⟨t,a,b⟩:=h.get 0 k rfl
  cases a
  exact .cons (dp_intsT (SqT.of b)) (Rws.dp ⟨Nat.succ.inj h.len,fun i k' hi=>h.get (i+1) k' hi,fun ns z=>h.wide ns (yAL _ z),fun ns z=>h.sm ns (yAL _ z)⟩)
noncomputable def hdD (rs:List (List Int)) (zs:List Int):PyData:=.list [.list (rs.map tpD),.list (zs.map PyData.int)]
theorem hd_dp {K:W.Frag} {H:Hp} {h r p:Addr} {rs:List (List Int)} {zs:List Int} {xs:List V} (hh:H h=some (.lst [.ref r,.ref p])) (hr:H r=some (.lst xs)) (w:Rws H rs xs) (hp:H p=some (.lst (zs.map V.int))):Dp K H (hdD rs zs) (.ref h) :=
 ZCV (SqL.of hh) (.two (ZCV (SqL.of hr) w.dp) (ZBg (SqL.of hp)))
theorem hd_lay (rs:List (List Int)) (zs:List Int):(hdD rs zs).canLay0=true:=by
 unfold hdD PyData.canLay0 PyData.canLayAll0 PyData.canLayAll0 PyData.canLayAll0
 rw [Enc.int.tuple.list.lay rs,Enc.int.list.lay zs];rfl
theorem hd_dep (rs:List (List Int)) (zs:List Int):(hdD rs zs).depth <= 64:=by
 unfold hdD PyData.depth PyData.depthAll PyData.depthAll PyData.depthAll
 have a1:(PyData.list (rs.map tpD)).depth <= 2:=Enc.int.tuple.list.dep rs
 have:=Enc.int.list.dep zs
 omega
theorem once85 {α:Type} {P:TS} {D:Ends} (σ:α->St) (X:α->Hp) (p:α->Prop) {G:Prop} (h:(∀ x,p x->Cut P D (σ x) (X x))->G) (t:∀ x,p x->Cut P D (σ x) (X x)):G:=h t
section
variable {P:Program} {w:World} {K:W.Frag} {mg:Str->Option Value} {base:Heap} {C_HallError C_NoPaper C_NoRow:Addr}
theorem ok_straight {f:Addr} {fd:FuncData} (F:Fun K "straight" "straight" ZAf f fd) (T:Bt K mg C_HallError C_NoPaper C_NoRow)
 :FnOk P w K mg base CX0 1 f fd ["many"] (ZBJ):=by
 refine F.ok sc_straight (fun vs H Q E h=>?_) (fun cdv A outer s H vs Q E hr h=>?_)
 .obtain ⟨n,rfl,hn,q⟩:=h
  rfl
 obtain ⟨n,rfl,hn,q⟩:=h
 refine ⟨_,(ZAF (ZAU (ZAQ (call_list_rng rfl) rfl T.b_list PyProof.Rows.boot_list (ZAA (ZAQ call_rng1 rfl T.b_range PyProof.Rows.boot_range (ZAA (pv 0) ZAB)) ZAB)))),?_⟩
 walk_at "rd"
 refine ⟨n,rfl,fun p hp=>⟨p,0,n,rfl,ZAH,by omega,fun l hl=>?_⟩⟩
 exact q l _ ((ZAG hp _).new hl) ((ZAG hp _).free hl) (by rw [ZAH,rints_range])
theorem ok_is_number {f:Addr} {fd:FuncData} (F:Fun K "is_number" "is_number" ZAc f fd) (T:Bt K mg C_HallError C_NoPaper C_NoRow)
 :FnOk P w K mg base CX0 1 f fd ["some"] (ZBL):=by
 refine F.ok sc_is_number (fun vs H Q E h=>?_) (fun cdv A outer s H vs Q E hr h=>?_)
 .obtain ⟨i,rfl,q⟩:=h
  rfl
 obtain ⟨i,rfl,q⟩:=h
 refine ⟨_,(ZAF (ZAU (ZCF (ZAI ZAw rfl T.b_isinstance PyProof.Rows.boot_isinstance (ZAA (pv 0) (ZAA (ZCE rfl T.b_int PyProof.Rows.boot_int) ZAB))) (ZCR (pe_not (ZAI ZAw rfl T.b_isinstance PyProof.Rows.boot_isinstance (ZAA (pv 0) (ZAA (ZCE rfl T.b_bool PyProof.Rows.boot_bool) ZAB)))))))),?_⟩
 walk_at "rd"
 refine inst_int ?_
 walk_at "rd"
 refine inst_int_bl T.kit_int_bool ?_
 walk_at "rd"
 exact q
theorem ok_is_paper {f:Addr} {fd:FuncData} (F:Fun K "is_paper" "is_paper" ZAh f fd) (T:Bt K mg C_HallError C_NoPaper C_NoRow)
  (f_straight:Fn P w K mg base CX0 "straight" 1 ["many"] (ZBJ))
  (f_is_number:Fn P w K mg base CX0 "is_number" 1 ["some"] (ZBL))
 :FnOk P w K mg base CX0 2 f fd ["some"] (ZBa):=by
 refine F.ok sc_is_paper (fun vs H Q E h=>?_) (fun cdv A outer s H vs Q E hr h=>?_)
 .obtain ⟨a,zs,rfl,ha,hl,q⟩:=h
  rfl
 obtain ⟨a,zs,rfl,ha,hl,q⟩:=h
 refine ⟨_,(ZAD (ZBR (PW.pt (ZCY (ZB6 (ZB5 (ZAI ZAw rfl T.b_isinstance PyProof.Rows.boot_isinstance (ZAA (pv 0) (ZAA (ZCE rfl T.b_list PyProof.Rows.boot_list) ZAB))))) (ZCD (ZB6 (ZB5 (ZAI (call_all rfl) rfl T.b_all PyProof.Rows.boot_all (ZAA (ZBd rfl (k:=1) (js:=[]) (N':=["number"]) (by rfl) (ZBu (pv 0)) (fun _ _ _ _=>ZAs (i:=0) (show (["number"]:List Str).Nodup by decide +kernel) rfl (by walk_at "o")) (fun _ _ _ _=>ZA7) (fun _ _ _ _=>(ZAq f_is_number (hr.mono (by decide)) rfl ZBB (ZAA (pv 0) ZAB)))) ZAB)))))))
  (ZAF (ZAU ZCS)) ZAi)
  (ZAF (ZAU (ZBv (ZCT hr.units) (ZAI call_sorted rfl T.b_sorted PyProof.Rows.boot_sorted (ZAA (pv 0) ZAB)) (ZAq f_straight (hr.mono (by decide)) rfl ZBB (ZAA (ZAI ZAR rfl T.b_len PySem.boot_len (ZAA (pv 0) ZAB)) ZAB)) (ZAe _))))),?_⟩
 walk_at "rd"
 refine inst_lst ha ?_
 walk_at "rd"
 refine compL_gen (SqL.of ha) (by rw [yAA];omega) rfl (fun _ y _=>y=.bl true) (fun _ _ _ _ _ q=>q) (fun i x H' hx e Q' k=>?_) fun ys H' l hyl hR e hn=>?_
 .obtain ⟨z,_,rfl⟩:=ZBS hx
  walk_at "rd"
  exact ⟨_,rfl,k _ _ (.refl _) rfl⟩
 have hys:ys=(List.replicate zs.length true).map V.bl:=by
  rw [List.map_replicate]
  refine eq_rep (by rw [hyl,yAA]) fun j y hy=>?_
  have hj:j < ys.length:=(yAT.mp hy).1
  exact hR j _ y (yAM (by rw [<- hyl];exact hj)) hy
 refine ⟨l,List.replicate zs.length true,rfl,SqL.of (by rw [ZAH,hys]),?_⟩
 rw [if_neg (by rw [all_true];simp)]
 have s1:=e.new (o:=.lst ys) hn
 refine ⟨a,zs,rfl,SqL.of (s1 _ _ ha),by omega,fun l2 ms hl2 hperm hsort=>?_⟩
 have s2:=s1.new (o:=.lst (ms.map V.int)) hl2
 refine ⟨a,zs.map V.int,rfl,.inl (SqL.of (s2 _ _ ha)),?_⟩
 rw [yAA]
 refine ⟨zs.length,rfl,by omega,fun l3 H3 s3 hn3 h3=>?_⟩
 refine eqD_of Enc.int.list (by decide) (ZBg (SqL.of (s3 _ _ ZAH))) (ZBg (SqL.of h3)) ?_
 exact q _ _ (by rw [decide_eq_true_iff];exact ZBP hperm hsort) (s2.trans s3)
theorem ok_check_paper {f:Addr} {fd:FuncData} (F:Fun K "check_paper" "check_paper" ZAW f fd) (T:Bt K mg C_HallError C_NoPaper C_NoRow)
  (f_is_paper:Fn P w K mg base CX0 "is_paper" 2 ["some"] (ZBa))
 :FnOk P w K mg base (CXE P w) 3 f fd ["some","many"] (ZAx C_NoPaper):=by
 refine F.okX sc_check_paper (fun vs H Q E h=>?_) (fun cdv A outer s H vs Q E hr h=>?_)
 .obtain ⟨a,zs,m,rfl,ha,hl,qg,qb⟩:=h
  rfl
 obtain ⟨a,zs,m,rfl,ha,hl,qg,qb⟩:=h
 refine ⟨_,(ZAF (ZBR (PW.pt (ZCY (ZB6 (ZB5 (ZAq f_is_paper (hr.mono (by decide)) rfl ZBB (ZAA (pv 0) ZAB)))) (ZCD (ZAd ZCb (ZAI ZAR rfl T.b_len PySem.boot_len (ZAA (pv 0) ZAB)) (pv 1) (ZAe _)))))
  (ZAF (ps_raise0 T.xq_NoPaper T.m_NoPaper rfl)) ZAi)),?_⟩
 walk_at "rd"
 refine ⟨a,zs,rfl,ha,hl,fun b H1 hb s1=>⟨b,rfl,?_⟩⟩
 by_cases hp:isP zs
 .rw [if_neg (by rw [hb.mpr hp];decide)]
  refine ⟨a,_,rfl,.inl (SqL.of (s1 _ _ ha)),?_⟩
  rw [yAA]
  by_cases hm:(zs.length:Int)=m
  .rw [if_neg (fun z=>z hm)];exact qg ⟨hp,hm⟩ _ s1
  .rw [if_pos hm];exact qb (fun z=>hm z.2) _ s1
 .rw [if_pos (by cases b;rfl;exact absurd (hb.mp rfl) hp)]
  exact qb (fun z=>hp z.1) _ s1
theorem ok_shown_thing {f:Addr} {fd:FuncData} (F:Fun K "shown_thing" "shown_thing" ZAV f fd) (T:Bt K mg C_HallError C_NoPaper C_NoRow)
 :FnOk P w K mg base CX0 1 f fd ["thing"] (ZBY):=by
 refine F.ok sc_shown_thing (fun vs H Q E h=>?_) (fun cdv A outer s H vs Q E hr h=>?_)
 .obtain ⟨t,ns,rfl,ht,hl8,hsm,q⟩:=h
  rfl
 obtain ⟨t,ns,rfl,ht,hl8,hsm,q⟩:=h
 refine ⟨_,(ZAF (ZAU (ZCZ PySem.F.plainAttrs_str PySem.F.slot_str_join PySem.F.type_str_join mt_join ZA9 (ZAA (ZBd rfl (k:=1) (js:=[]) (N':=["number"]) (by rfl) (pi_tup (pv 0)) (fun _ _ _ _=>ZAs (i:=0) (show (["number"]:List Str).Nodup by decide +kernel) rfl (by walk_at "o")) (fun _ _ _ _=>ZA7) (fun _ _ _ _=>(ZAQ ZAb rfl T.b_str PyProof.Rows.boot_str (ZAA (pv 0) ZAB)))) ZAB)))),?_⟩
 walk_at "rd"
 refine ⟨rfl,?_⟩
 refine compT_of (SqT.of ht) (by rw [yAA];omega) (fun i ys σ X=>∃ v,σ=[v] /\ X=H /\ ys=((ns.take i).map tx).map V.str) ⟨_,rfl,rfl,rfl⟩ (fun i ys σ X _ z=>?_) (fun i ys x σ X hi hx z=>?_) fun ys σ X z p hp=>?_
 .obtain ⟨v,_,e,e2⟩:=z
  rw [e,e2,yAA,yAA,yAQ]
  exact ⟨SqT.of ht,by omega⟩
 .obtain ⟨v,rfl,rfl,rfl⟩:=z
  obtain ⟨n,hn,rfl⟩:=ZBS hx
  walk_at "rd"
  refine ⟨_,rfl,(hsm n (yAY hn)).big,.of hi ⟨_,rfl,rfl,?_⟩⟩
  rw [List.take_add_one,hn,yAO,yAO];rfl
 .obtain ⟨v,rfl,rfl,rfl⟩:=z
  rw [yAA,yBC (yAB _)]
  refine ⟨_,p,ns.map tx,rfl,rfl,SqL.of ZAH,by decide,?_,q _ (ZAG hp _)⟩
  have:=ZCO (txs_le hsm)
  rw [yAA] at this ⊢
  omega
theorem ok_sheet {f:Addr} {fd:FuncData} (F:Fun K "sheet" "sheet" ZBN f fd) (T:Bt K mg C_HallError C_NoPaper C_NoRow)
  (f_check_paper:Fn P w K mg base (CXE P w) "check_paper" 3 ["some","many"] (ZAx C_NoPaper))
  (f_shown_thing:Fn P w K mg base CX0 "shown_thing" 1 ["thing"] (ZBY))
 :FnOk P w K mg base (CXE P w) 4 f fd ["row","paper"] (ZBp C_NoPaper):=by
 refine F.okX sc_sheet (fun vs H Q E h=>?_) (fun cdv A outer s H vs Q E hr h=>?_)
 .obtain ⟨r,a,xs,rs,zs,rfl,hr',hrw,ha,hl,hrs,qg,qb⟩:=h
  rfl
 obtain ⟨r,a,xs,rs,zs,rfl,hr',hrw,ha,hl,hrs,qg,qb⟩:=h
 refine ⟨_,(ZAD (ZCA (ZAq f_check_paper (hr.mono (by decide)) rfl passX (ZAA (pv 1) (ZAA (ZAI ZAR rfl T.b_len PySem.boot_len (ZAA (pv 0) ZAB)) ZAB))))
  (ZAD (PS.nox (ZAa (i:=2) sc_sheet.nd rfl (by walk_at "o") (ZAI ZA4 rfl T.b_len PySem.boot_len (ZAA (ZAQ ZAb rfl T.b_str PyProof.Rows.boot_str (ZAA (ZAJ ZBe (ZAI ZAR rfl T.b_len PySem.boot_len (ZAA (pv 0) ZAB)) ZAE) ZAB)) ZAB))))
  (ZAF (PS.nox (ZAU (ZCZ PySem.F.plainAttrs_str PySem.F.slot_str_join PySem.F.type_str_join mt_join ZA9 (ZAA (ZBd rfl (k:=1) (js:=[2,0]) (N':=["place","width","row"]) (by rfl) (ZBu (pv 1)) (fun _ _ _ _=>ZAs (i:=0) (show (["place","width","row"]:List Str).Nodup by decide +kernel) rfl (by walk_at "o")) (fun _ _ _ _=>ZA7) (fun _ _ _ _=>(ZAJ ZAz (ZAJ ZAz (pe_bmK K PySem.F.plainAttrs_str PySem.F.slot_str_rjust PySem.F.type_str_rjust mt_rjust (ZAQ ZAb rfl T.b_str PyProof.Rows.boot_str (ZAA (pv 0) ZAB)) (ZAA (pv 1) ZAB)) ZA9) (ZAq f_shown_thing (hr.mono (by decide)) rfl ZBB (ZAA (ZBi (ix_listK K) (pv 2) (pv 0) (fun _ _=>rfl)) ZAB))))) ZAB))))))),?_⟩
 walk_at "rd"
 refine ⟨r,_,rfl,.inl (SqL.of hr'),?_⟩
 rw [hrw.len]
 refine ⟨a,zs,_,rfl,ha,hl,fun hok H1 s1=>?_,fun hbad H1 s1=>qb hbad H1 s1⟩
 obtain ⟨⟨p,hp,ez⟩,hlen⟩:=hok
 have hpl:p.length=rs.length:=by rw [ez,yAA] at hlen;omega
 have hwS:Sm ((rs.length:Int)-1):=Sm.pre (by omega)
 have hrw1:=hrw.keep s1
 refine ⟨r,_,rfl,.inl (SqL.of (s1 _ _ hr')),?_⟩
 rw [hrw.len]
 refine ⟨_,rfl,hwS.big,_,rfl,yAC (ZBD hwS) (by decide),rfl,?_⟩
 refine ZB0 (SqL.of (s1 _ _ ha)) (by rw [yAA];omega) (fun i ys σ X=>∃ v,σ=[v,some (.int ((tx ((rs.length:Int)-1)).length:Nat)),some (.ref r)] /\ Same H1 X /\ ys=((p.take i).map fun (i:Nat)=>lnT rs.length (i:Int) (rs.getD i [])).map V.str) ⟨_,rfl,.refl _,rfl⟩ (fun i ys σ X _ z=>?_) (fun i ys x σ X hi hx z=>?_) fun ys σ X z q1 hq1=>?_
 .obtain ⟨v,_,e,e2⟩:=z
  rw [e2,yAA,yAA,yAQ]
  exact ⟨SqL.of (e _ _ (s1 _ _ ha)),by omega⟩
 .obtain ⟨v,rfl,sX,rfl⟩:=z
  rw [ez,List.map_map,yAR] at hx
  obtain ⟨pi,hpi,ex⟩:=Option.map_eq_some_iff.mp hx
  subst ex
  have hpm:=hp.lt (yAY hpi)
  obtain ⟨ns,hns⟩:∃ ns,rs[pi]?=some ns:=⟨_,yAM (by omega)⟩
  obtain ⟨t,ht1,ht2⟩:=hrw1.get pi ns hns
  have hpS:Sm (pi:Int):=Sm.nat (by omega)
  have hmem:=yAY hns
  have l1:=ZBD hpS
  have l2:=ZBD hwS
  have l3:=ZB8 (hrw.wide _ hmem).2 (hrw.sm _ hmem)
  have e2:(": ":Str).length=2:=by decide
  have l4:(Txt.rjust (tx (pi:Int)) ((tx ((rs.length:Int)-1)).length:Nat)).length <= 201:=by rw [rj_len];omega
  walk_at "rd"
  refine ⟨(pi:Int),rfl,hpS.big,rfl,tx (pi:Int),_,rfl,rfl,by omega,by omega,_,_,rfl,rfl,by rw [e2];omega,?_⟩
  refine ZA0 (SqL.of (sX _ _ (s1 _ _ hr'))) (ZA5 (show (0:Int) <= (pi:Int) by omega) (by rw [show ((fun x:Nat=>(x:Int)) pi).toNat=pi from Int.toNat_natCast pi];exact ht1)) ⟨t,ns,rfl,sX _ _ ht2,(hrw.wide _ hmem).2,hrw.sm _ hmem,fun X2 s2=>⟨_,_,rfl,rfl,by rw [strLen_append,e2];omega,.of hi ⟨_,rfl,sX.trans s2,?_⟩⟩⟩
  rw [List.take_add_one,hpi,yAO,yAO]
  show _=_++[V.str (lnT rs.length (pi:Int) (rs.getD pi []))]
  rw [show rs.getD pi []=ns by rw [yBD,hns];rfl]
  rfl
 .obtain ⟨v,rfl,sX,rfl⟩:=z
  rw [ez,yAA,yAA,yBC (yAB _)]
  refine ⟨_,q1,_,rfl,rfl,SqL.of ZAH,by decide,?_,qg p hp ez hpl _ (s1.trans (sX.trans (ZAG hq1 _)))⟩
  have:=ZCO (ys:=p.map fun (i:Nat)=>lnT rs.length (i:Int) (rs.getD i [])) (B:=1819) fun y hy=>by
   obtain ⟨i,hi,rfl⟩:=List.mem_map.mp hy
   have hi':=hp.lt hi
   have hm:rs.getD i []∈rs:=by rw [yBD,yAM (by omega)];exact List.getElem_mem _
   exact ZCC (Sm.nat (by omega)) hwS (hrw.wide _ hm).2 (hrw.sm _ hm)
  rw [yAA] at this ⊢
  omega
theorem ok_cell_at {f:Addr} {fd:FuncData} (F:Fun K "_law_cell_at" "_law_cell_at" ZAp f fd) (T:Bt K mg C_HallError C_NoPaper C_NoRow)
 :FnOk P w K mg base CX0 1 f fd ["_law_script","_law_k"] (ZCP K):=by
 refine F.ok sc_cell_at (fun vs H Q E h=>?_) (fun cdv A outer s H vs Q E hr h=>?_)
 .obtain ⟨a,ns,k,rfl,hS,h0,q⟩:=h
  rfl
 obtain ⟨a,ns,k,rfl,hS,h0,q⟩:=h
 refine ⟨_,(ZAD (ZBR (ZAd op_lt (pv 1) (ZAI ZAR rfl T.b_len PySem.boot_len (ZAA (pv 0) ZAB)) (ZAe _))
  (ZAF (ZAU (ZBi ZAl (pv 0) (pv 1) (fun _ _=>rfl)))) ZAi)
  (ZAF (ZAU ZAE))),?_⟩
 walk_at "rd"
 refine ⟨a,_,rfl,.inl hS,?_⟩
 walk_at "rd"
 rw [yAA]
 unfold cellOf at q
 split
 .rename_i hk
  rw [if_pos hk] at q
  have hk':k.toNat < ns.length:=by omega
  refine ZA0 hS (atI_ints h0 (yAM hk')) ?_
  rw [yAM hk'] at q
  exact q
 .rename_i hk
  rw [if_neg hk] at q
  exact q
theorem ok_paper_by {f:Addr} {fd:FuncData} (F:Fun K "_law_paper_by" "_law_paper_by" ZAg f fd) (T:Bt K mg C_HallError C_NoPaper C_NoRow)
 :FnOk P w K mg base CX0 1 f fd ["_law_cells"] (ZBZ):=by
 refine F.ok sc_paper_by (fun vs H Q E h=>?_) (fun cdv A outer s H vs Q E hr h=>?_)
 .obtain ⟨c,ns,rfl,hc,hn,q⟩:=h
  rfl
 obtain ⟨c,ns,rfl,hc,hn,q⟩:=h
 refine ⟨_,(ZAD (ZAa (i:=1) sc_paper_by.nd rfl (by walk_at "o") (ZBQ ZAB))
  (ZAD (ZCQ PassesOwn.never rfl (ZBc rfl T.b_range (ZAA (ZAI ZAR rfl T.b_len PySem.boot_len (ZAA (pv 0) ZAB)) ZAB)) (ZAs (i:=2) sc_paper_by.nd rfl (by walk_at "o"))
  (ZAF (ZCA (ZCZ PySem.F.plainAttrs_list PySem.F.slot_list_insert PySem.F.type_list_insert mt_insert (pv 1) (ZAA (ZAJ ZAy (ZBi ZAl (pv 0) (pv 2) (fun _ _=>rfl)) (ZAJ ZBG (pv 2) ZAE)) (ZAA (pv 2) ZAB))))))
  (ZAF (ZAU (pv 1))))),?_⟩
 walk_at "rd"
 refine ⟨ZAZ (by decide),fun l hl=>?_⟩
 have hcl:c≠l:=ZAX hc hl
 refine ⟨c,_,rfl,.inl (SqL.of (ZAG hl _ _ _ hc)),?_⟩
 walk_at "rd"
 rw [yAA]
 refine forR1_of (by omega) (forR_of (fun i σ H'=>∃ (v2:Option V) (p:List Nat),σ=[some (.ref c),some (.ref l),v2] /\ H' c=some (.lst (ns.map V.int)) /\ H' l=some (.lst (NL p)) /\ Pap.IsP p /\ p.length=i /\ Same H H') ⟨_,[],rfl,ZAG hl _ _ _ hc,ZAH,Pap.IsP.range 0,rfl,ZAG hl _⟩ ?_ ?_)
 .rintro i σ H' hi ⟨v2,p,rfl,h1,h2,hp,hpl,hs⟩
  have hi':i < ns.length:=by omega
  walk_at "rd"
  refine ⟨.inl ⟨rfl,_,SqL.of h2⟩,?_⟩
  refine ZA0 (SqL.of h1) (atI_ints (v:=ns[i]) (by omega) (by rw [show (0+(i:Int)).toNat=i by omega];exact yAM hi')) ?_
  walk_at "rd"
  have y0:=Int.emod_nonneg ns[i] (show (0+(i:Int)+1)≠0 by omega)
  have y1:=Int.emod_lt_of_pos ns[i] (show 0 < 0+(i:Int)+1 by omega)
  refine ⟨by omega,?_⟩
  generalize ns[i] % (0+(i:Int)+1)=y at y0 y1 ⊢
  refine ⟨l,_,y,_,rfl,rfl,h2,by rw [ZCJ];exact small1000 (by omega),by omega,?_⟩
  refine ⟨_,_,rfl,by rw [ZAL hcl];exact h1,?_,hp.ins y.toNat,?_,hs.upd hl⟩
  .rw [ZAH,show (0+(i:Int))=((p.length:Nat):Int) by omega,insV_NL y0 (by omega)]
  .rw [yAD,yAX,yAQ,yAW];omega
 .rintro σ H' ⟨v2,p,rfl,h1,h2,hp,hpl,hs⟩
  walk_at "rd"
  exact q l _ p hs hl h2 hp (by rw [hpl];omega)
theorem ok_number {f:Addr} {fd:FuncData} (F:Fun K "_law_number" "_law_number" ZA6 f fd) (T:Bt K mg C_HallError C_NoPaper C_NoRow)
 :FnOk P w K mg base CX0 1 f fd ["_law_cell"] (ZBK):=by
 refine F.ok sc_number (fun vs H Q E h=>?_) (fun cdv A outer s H vs Q E hr h=>?_)
 .obtain ⟨c,rfl,q⟩:=h
  rfl
 obtain ⟨c,rfl,q⟩:=h
 refine ⟨_,(ZAD (ZBR (ZAd ZCB (ZAJ ZAy (pv 0) ZAE) ZAE (ZAe _))
  (ZAF (ZAU (ZAJ ZBe (ZAJ ZAy (ZAJ ZBC (pv 0) ZAE) ZAE) ZAE))) ZAi)
  (ZAF (ZAU (ZAJ ZBe (ZAJ ZAy (ZAJ ZBC (pv 0) ZAE) (ZAJ ZBe (ZAJ op_mul ZAE (ZAJ op_pow ZAE ZAE)) ZAE)) (ZAJ ZBe (ZAJ op_pow ZAE ZAE) ZAE))))),?_⟩
 walk_at "rd"
 refine ⟨by decide,?_⟩
 split
 .exact ⟨⟨by decide,by decide⟩,by decide,q _ (Sm.of (Nat.lt_of_le_of_lt (by omega:(c / 2 % 41-20).natAbs <= 20) (by decide)))⟩
 .refine ⟨⟨by decide,by decide⟩,⟨by decide,by decide,by decide⟩,.inl ⟨by decide,by decide⟩,by decide,⟨by decide,by decide,by decide⟩,q _ (Sm.of ?_)⟩
  have h1:=Int.emod_nonneg (c / 2) (show (2 * 10 ^ Int.toNat 60-1:Int)≠0 by decide)
  have h2:=Int.emod_lt_of_pos (c / 2) (show (0:Int) < 2 * 10 ^ Int.toNat 60-1 by decide)
  generalize c / 2 % (2 * 10 ^ Int.toNat 60-1)=x at h1 h2 ⊢
  have hB:(10:Nat) ^ 60 < 2 ^ 200:=by decide
  have e:((10:Int) ^ Int.toNat 60)=((10 ^ 60:Nat):Int):=by decide
  rw [e] at h2 ⊢
  generalize (10 ^ 60:Nat)=B at h2 hB ⊢
  generalize (2 ^ 200:Nat)=D at hB ⊢
  omega
theorem ok_thing {f:Addr} {fd:FuncData} (F:Fun K "_law_thing" "_law_thing" ZBM f fd) (T:Bt K mg C_HallError C_NoPaper C_NoRow)
  (f_number:Fn P w K mg base CX0 "_law_number" 1 ["_law_cell"] (ZBK))
 :FnOk P w K mg base CX0 2 f fd ["_law_cell","_law_width","_law_kind"] (ZBW):=by
 refine F.ok sc_thing (fun vs H Q E h=>?_) (fun cdv A outer s H vs Q E hr h=>?_)
 .obtain ⟨c,k,w,rfl,hw0,hw8,q⟩:=h
  rfl
 obtain ⟨c,k,w,rfl,hw0,hw8,q⟩:=h
 refine ⟨_,(ZAD (ZBR (ZAd ZCB (ZAJ ZAy (pv 2) ZAE) ZAE (ZAe _))
  (ZAF (ZAU (ZAQ call_tuple_of rfl T.b_tuple PyProof.Rows.boot_tuple (ZAA (ZBd rfl (k:=1) (js:=[0]) (N':=["_law_k","_law_cell"]) (by rfl) (ZBc rfl T.b_range (ZAA (pv 1) ZAB)) (fun _ _ _ _=>ZAs (i:=0) (show (["_law_k","_law_cell"]:List Str).Nodup by decide +kernel) rfl (by walk_at "o")) (fun _ _ _ _=>ZA7) (fun _ _ _ _=>(ZAJ ZBe (ZAJ ZAy (ZAJ ZBG (ZAJ ZBC (pv 1) (ZAJ ZBG (pv 0) ZAE)) (pv 0)) ZAE) ZAE))) ZAB)))) ZAi)
  (ZAF (ZAU (ZAQ call_tuple_of rfl T.b_tuple PyProof.Rows.boot_tuple (ZAA (ZBd rfl (k:=1) (js:=[0]) (N':=["_law_k","_law_cell"]) (by rfl) (ZBc rfl T.b_range (ZAA (pv 1) ZAB)) (fun _ _ _ _=>ZAs (i:=0) (show (["_law_k","_law_cell"]:List Str).Nodup by decide +kernel) rfl (by walk_at "o")) (fun _ _ _ _=>ZA7) (fun _ _ _ _=>(ZAq f_number (hr.mono (by decide)) rfl ZBB (ZAA (ZAJ ZBG (ZAJ op_mul (pv 1) (ZAJ ZBG (pv 0) ZAE)) (pv 0)) ZAB)))) ZAB))))),?_⟩
 walk_at "rd"
 refine ⟨by decide,?_⟩
 have fin:∀ (p:Addr) (zs:List Int),H p=none->zs.length=w->(∀ z∈zs,Sm z)->∃ p' ys,[V.ref p]=[V.ref p'] /\ ((SqL K (upd H p (.lst (zs.map V.int))) p' ys /\ ∀ (l:Addr),upd H p (.lst (zs.map V.int)) l=none->Q (V.ref l) (upd (upd H p (.lst (zs.map V.int))) l (HO.tup ys)))∨SqT K (upd H p (.lst (zs.map V.int))) p' ys /\ Q (V.ref p') (upd H p (.lst (zs.map V.int)))):=fun p zs hp hz hs=>
  ⟨p,_,rfl,.inl ⟨SqL.of ZAH,fun l hl=>q l _ zs ((ZAG hp _).trans (ZAG hl _)) ((ZAG hp _).free hl) ZAH hz hs⟩⟩
 split
 .refine compR1_of (by omega) (fun i ys σ X=>∃ v zs,σ=[v,some (.int c)] /\ X=H /\ ys=List.map V.int zs /\ zs.length=i /\ ∀ z∈zs,Sm z) ⟨_,[],rfl,rfl,rfl,rfl,fun z h=>by cases h⟩ (fun i ys σ X z=>?_) (fun i ys σ X hi z=>?_) fun ys σ X z p hp=>?_
  .obtain ⟨v,zs,_,_,e,e2,_⟩:=z
   rw [e,yAA,e2];exact yAB _
  .obtain ⟨v,zs,rfl,rfl,rfl,e2,hz⟩:=z
   walk_at "rd"
   refine ⟨⟨by omega,by omega⟩,by decide,.of hi ⟨_,zs++[(c / (0+(i:Int)+1)+(0+(i:Int))) % 21-10],rfl,rfl,by rw [yAO];rfl,by rw [yAD,e2];rfl,fun z hz'=>?_⟩⟩
   rcases yAV.mp hz' with h | h
   .exact hz z h
   .rw [List.mem_singleton.mp h]
    exact Sm.of (Nat.lt_of_le_of_lt (by omega:_ <= 20) (by decide))
  .obtain ⟨v,zs,rfl,rfl,rfl,e2,hz⟩:=z
   exact fin p zs hp (by rw [e2];exact Int.toNat_natCast w) hz
 .refine compR1_of (by omega) (fun i ys σ X=>∃ v zs,σ=[v,some (.int c)] /\ X=H /\ ys=List.map V.int zs /\ zs.length=i /\ ∀ z∈zs,Sm z) ⟨_,[],rfl,rfl,rfl,rfl,fun z h=>by cases h⟩ (fun i ys σ X z=>?_) (fun i ys σ X hi z=>?_) fun ys σ X z p hp=>?_
  .obtain ⟨v,zs,_,_,e,e2,_⟩:=z
   rw [e,yAA,e2];exact yAB _
  .obtain ⟨v,zs,rfl,rfl,rfl,e2,hz⟩:=z
   walk_at "rd"
   refine ⟨.inr ⟨by omega,by omega⟩,_,rfl,fun n hn=>.of hi ⟨_,zs++[n],rfl,rfl,by rw [yAO];rfl,by rw [yAD,e2];rfl,fun z hz'=>?_⟩⟩
   rcases yAV.mp hz' with h | h
   .exact hz z h
   .rw [List.mem_singleton.mp h];exact hn
  .obtain ⟨v,zs,rfl,rfl,rfl,e2,hz⟩:=z
   exact fin p zs hp (by rw [e2];exact Int.toNat_natCast w) hz
theorem ok_line {f:Addr} {fd:FuncData} (F:Fun K "_law_line" "_law_line" ZBl f fd) (T:Bt K mg C_HallError C_NoPaper C_NoRow)
 :FnOk P w K mg base CX0 1 f fd ["_law_place","_law_many","_law_thing_here"] (ZBr):=by
 refine F.ok sc_line (fun vs H Q E h=>?_) (fun cdv A outer s H vs Q E hr h=>?_)
 .obtain ⟨i,n,t,ns,rfl,ht,h0,h8,hsm,hi,hn,q⟩:=h
  rfl
 obtain ⟨i,n,t,ns,rfl,ht,h0,h8,hsm,hi,hn,q⟩:=h
 refine ⟨_,(ZAD (ZAa (i:=3) sc_line.nd rfl (by walk_at "o") (ZAJ ZAz (ZAQ ZAb rfl T.b_str PyProof.Rows.boot_str (ZAA (pv 0) ZAB)) ZA9))
  (ZAD (ps_while PassesOwn.never (ZAd op_le (ZAI ZA4 rfl T.b_len PySem.boot_len (ZAA (pv 3) ZAB)) (ZAI ZA4 rfl T.b_len PySem.boot_len (ZAA (ZAQ ZAb rfl T.b_str PyProof.Rows.boot_str (ZAA (ZAJ ZBe (pv 1) ZAE) ZAB)) ZAB)) (ZAe _))
  (ZAF (ZAa (i:=3) sc_line.nd rfl (by walk_at "o") (ZAJ ZAz ZA9 (pv 3)))))
  (ZAD (ZCQ PassesOwn.never rfl (pi_tup (pv 2)) (ZAs (i:=4) sc_line.nd rfl (by walk_at "o"))
  (ZAF (ZAa (i:=3) sc_line.nd rfl (by walk_at "o") (ZAJ ZAz (ZAJ ZAz (pv 3) ZA9) (ZAQ ZAb rfl T.b_str PyProof.Rows.boot_str (ZAA (pv 4) ZAB))))))
  (ZAF (ZAU (pv 3)))))),?_⟩
 walk_at "rd"
 have hiS:Sm (i:Int):=Sm.nat hi
 have hnS:Sm ((n:Int)-1):=Sm.pre hn
 have l1:=ZBD hiS
 have l2:=ZBD hnS
 have e1:(":":Str).length=1:=by decide
 have es:(" ":Str).length=1:=by decide
 refine ⟨_,rfl,hiS.big,tx i,":",rfl,rfl,by rw [e1];omega,?_⟩
 refine while_of (fun m σ X=>∃ k,m=300-k /\ σ=[some (.int i),some (.int n),some (.ref t),some (.str (padS k (tx i++":"))),none] /\ X=H /\ (k=0∨k+(tx i).length <= (tx ((n:Int)-1)).length)) ⟨_,0,rfl,by rw [padS_zero],rfl,.inl rfl⟩ ?_
 rintro m σ X ⟨k,rfl,rfl,rfl,hk⟩
 have lp:(padS k (tx i++":")).length=k+(tx i).length+1:=by rw [padS_len,strLen_append,e1];omega
 walk_at "rd"
 refine ⟨_,rfl,yAC (by rw [lp];omega:_ <= 1000) (by decide),_,rfl,hnS.big,tx ((n:Int)-1),rfl,yAC l2 (by decide),?_⟩
 rw [lp]
 walk_at "rd"
 by_cases hc:k+(tx i).length+1 <= (tx ((n:Int)-1)).length
 .rw [if_pos (by omega)]
  refine wBody_of ?_
  walk_at "rd"
  refine ⟨_,_,rfl,rfl,by rw [es,lp];omega,300-(k+1),by omega,k+1,rfl,by rw [padS_succ],.inr (by omega)⟩
 .rw [if_neg (by omega)]
  have ek:k=(tx ((n:Int)-1)).length-(tx i).length:=by omega
  walk_at "rd"
  refine forT_of (SqT.of ht) (fun j σ X'=>∃ v,σ=[some (.int i),some (.int n),some (.ref t),some (.str (padS k (tx i++":")++sfx (ns.take j))),v] /\ X'=X) ⟨_,by rw [List.take_zero,show sfx []=Str.empty from if_pos rfl,Str.append_empty],rfl⟩ (fun j σ X' _ z=>?_) (fun j x σ X' hx z=>?_) fun σ X' z=>?_
  .obtain ⟨v,_,e⟩:=z
   rw [e];exact SqT.of ht
  .obtain ⟨v,rfl,rfl⟩:=z
   obtain ⟨z,hz,rfl⟩:=ZBS hx
   have hzS:=hsm z (yAY hz)
   have l3:=sfx_len (l:=ns.take j) (by rw [yAQ];omega) fun y hy=>hsm y (List.mem_of_mem_take hy)
   have l4:=ZBD hzS
   walk_at "rd"
   refine ⟨_,_,rfl,rfl,by rw [strLen_append,lp,es];omega,_,rfl,hzS.big,_,tx z,rfl,rfl,by rw [strLen_append,strLen_append,lp,es];omega,some (.int z),?_,trivial⟩
   rw [List.take_add_one,hz]
   show _=[_,_,_,some (V.str (padS k (tx i++":")++sfx (ns.take j++[z]))),_]
   rw [sfx_snoc,<- Str.append_assoc,<- Str.append_assoc]
  .obtain ⟨v,rfl,rfl⟩:=z
   rw [yAA,yBC (yAB _),lnT_eq (fun z=>by rw [z] at h0;cases h0) ek]
   walk_at "rd"
   exact q
theorem ok_l_sheet {f:Addr} {fd:FuncData} (F:Fun K "_law_sheet" "_law_sheet" ZAo f fd) (T:Bt K mg C_HallError C_NoPaper C_NoRow)
  (f_line:Fn P w K mg base CX0 "_law_line" 1 ["_law_place","_law_many","_law_thing_here"] (ZBr))
 :FnOk P w K mg base CX0 2 f fd ["_law_row","_law_paper"] (ZBo):=by
 refine F.ok sc_l_sheet (fun vs H Q E h=>?_) (fun cdv A outer s H vs Q E hr h=>?_)
 .obtain ⟨r,a,xs,rs,p,rfl,hr',hrw,ha,hrs,hpx,hpl,q⟩:=h
  rfl
 obtain ⟨r,a,xs,rs,p,rfl,hr',hrw,ha,hrs,hpx,hpl,q⟩:=h
 refine ⟨_,(ZAD (ZAa (i:=2) sc_l_sheet.nd rfl (by walk_at "o") ZA9)
  (ZAD (ZCQ PassesOwn.never rfl (ZBu (pv 1)) (ZAs (i:=3) sc_l_sheet.nd rfl (by walk_at "o"))
  (ZAD (ZBR (ZAd ZCb (pv 2) ZA9 (ZAe _))
  (ZAF (ZAa (i:=2) sc_l_sheet.nd rfl (by walk_at "o") (ZAJ ZAz (pv 2) ZA9))) ZAi)
  (ZAF (ZAa (i:=2) sc_l_sheet.nd rfl (by walk_at "o") (ZAJ ZAz (pv 2) (ZAq f_line (hr.mono (by decide)) rfl ZBB (ZAA (pv 3) (ZAA (ZAI ZAR rfl T.b_len PySem.boot_len (ZAA (pv 0) ZAB)) (ZAA (ZBi ZAl (pv 0) (pv 3) (fun _ _=>rfl)) ZAB)))))))))
  (ZAF (ZAU (pv 2))))),?_⟩
 walk_at "rd"
 have e1:("\n":Str).length=1:=by decide
 refine forL_of (SqL.of ha) (fun j σ X=>∃ v,σ=[some (.ref r),some (.ref a),some (.str (shT rs (p.take j))),v] /\ X=H) ⟨_,rfl,rfl⟩ (fun j σ X _ z=>?_) (fun j x σ X hx z=>?_) fun σ X z=>?_
 .obtain ⟨v,_,e⟩:=z
  rw [e];exact SqL.of ha
 .obtain ⟨v,rfl,rfl⟩:=z
  obtain ⟨hj,ex⟩:=NL_get hx
  subst ex
  have hpj:p[j]?=some (Pap.at' p j):=by
   unfold Pap.at'
   rw [yAM hj]
   simp [hj]
  have hpm:=hpx _ (yAY hpj)
  obtain ⟨ns,hns⟩:∃ ns,rs[Pap.at' p j]?=some ns:=⟨_,yAM hpm⟩
  obtain ⟨t,ht1,ht2⟩:=hrw.get _ ns hns
  have hmem:=yAY hns
  have hts:∀ x∈p.take j,x < rs.length:=fun x hx=>hpx x (List.mem_of_mem_take hx)
  have lt:=sh_len hts hrs (fun ns h=>(hrw.wide ns h).2) hrw.sm
  have ltj:(p.take j).length <= 64:=by rw [yAQ];omega
  have lt2:(p.take j).length * 1820 <= 64 * 1820:=Nat.mul_le_mul_right _ ltj
  have ln:=ZCC (n:=rs.length) (i:=(Pap.at' p j:Nat)) (Sm.nat (by omega)) (Sm.pre (by omega)) (hrw.wide _ hmem).2 (hrw.sm _ hmem)
  have eg:rs.getD (Pap.at' p j) []=ns:=by rw [yBD,hns];rfl
  have et:p.take (j+1)=p.take j++[Pap.at' p j]:=by rw [List.take_add_one,hpj];rfl
  have hix:=(ZA5 (xs:=xs) (v:=V.ref t) (show (0:Int) <= ((Pap.at' p j:Nat):Int) by omega) (by rw [Int.toNat_natCast];exact ht1))
  walk_at "rd"
  by_cases he:p.take j=[]
  .rw [if_neg (by rw [he];intro z;exact z rfl)]
   refine ⟨r,_,rfl,.inl (SqL.of hr'),ZA0 (SqL.of hr') hix ?_⟩
   rw [hrw.len]
   refine ⟨Pap.at' p j,rs.length,t,ns,rfl,ht2,(hrw.wide _ hmem).1,(hrw.wide _ hmem).2,hrw.sm _ hmem,by omega,by omega,_,_,rfl,rfl,by omega,some (.int (Pap.at' p j:Nat)),?_,rfl⟩
   rw [et,sh_snoc,if_pos he,eg,he,show shT rs []=Str.empty from rfl,Str.empty_append]
  .have hne:¬ shT rs (p.take j)=Str.ofString "":=fun z=>by
    have:=sh_pos (rs:=rs) he
    rw [z] at this
    exact absurd this (by decide)
   rw [if_pos hne]
   refine ⟨_,_,rfl,rfl,by rw [e1];omega,r,_,rfl,.inl (SqL.of hr'),ZA0 (SqL.of hr') hix ?_⟩
   rw [hrw.len]
   refine ⟨Pap.at' p j,rs.length,t,ns,rfl,ht2,(hrw.wide _ hmem).1,(hrw.wide _ hmem).2,hrw.sm _ hmem,by omega,by omega,_,_,rfl,rfl,by rw [strLen_append,e1];omega,some (.int (Pap.at' p j:Nat)),?_,rfl⟩
   rw [et,sh_snoc,if_neg he,eg]
 .obtain ⟨v,rfl,rfl⟩:=z
  rw [ZCJ,yBC (yAB _)]
  walk_at "rd"
  exact q
theorem ok_spoiled {f:Addr} {fd:FuncData} (F:Fun K "_law_spoiled" "_law_spoiled" ZAm f fd) (T:Bt K mg C_HallError C_NoPaper C_NoRow)
 :FnOk P w K mg base CX0 1 f fd ["_law_paper","_law_cell"] (ZBX):=by
 refine F.ok sc_spoiled (fun vs H Q E h=>?_) (fun cdv A outer s H vs Q E hr h=>?_)
 .obtain ⟨pp,p,c,rfl,hpp,hpl,q⟩:=h
  rfl
 obtain ⟨pp,p,c,rfl,hpp,hpl,q⟩:=h
 refine ⟨_,(ZAD (ZAa (i:=2) sc_spoiled.nd rfl (by walk_at "o") (ZAI ZAR rfl T.b_len PySem.boot_len (ZAA (pv 0) ZAB)))
  (ZAD (ZAa (i:=3) sc_spoiled.nd rfl (by walk_at "o") (ZAJ ZAy (pv 1) ZAE))
  (ZAD (ZBR (PW.pt (ZCY (ZAd ZCB (pv 3) ZAE (ZAe _)) (ZCD (ZAd ZCB (pv 2) ZAE (ZAe _)))))
  (ZAF (ZAU (ZAJ ZCG (pv 0) (ZBQ (ZAA (ZAJ ZAy (ZAJ ZBC (pv 1) ZAE) (ZAJ ZBG (pv 2) ZAE)) ZAB))))) ZAi)
  (ZAD (ZAa (i:=4) sc_spoiled.nd rfl (by walk_at "o") (ZAJ ZAy (ZAJ ZBC (pv 1) ZAE) (pv 2)))
  (ZAD (ZBR (ZAd ZCB (pv 3) ZAE (ZAe _))
  (ZAF (ZAU (ZAJ ZCG (ZBF ZBb (pv 0) ZBt (ZBO (pv 4))) (ZBF ZBb (pv 0) (ZBO (ZAJ ZBG (pv 4) ZAE)) ZBt)))) ZAi)
  (ZAF (ZAU (ZAJ ZCG (ZAJ ZCG (ZBF ZBb (pv 0) ZBt (ZBO (pv 4))) (ZBQ (ZAA (ZBi ZAl (ZBQ (ZAA (pe_un un_neg ZAE) (ZAA (pv 2) (ZAA (ZBi ZAl (pv 0) (ZAJ ZAy (ZAJ ZBC (pv 1) ZAE) (pv 2)) (fun _ _=>rfl)) ZAB)))) (pv 3) (fun _ _=>rfl)) ZAB))) (ZBF ZBb (pv 0) (ZBO (ZAJ ZBG (pv 4) ZAE)) ZBt))))))))),?_⟩
 walk_at "rd"
 have eN:NL p=(p.map fun x:Nat=>(x:Int)).map V.int:=ZCL p
 rw [eN] at hpp
 obtain ⟨ps,hps⟩:∃ ps:List Int,ps=p.map fun x:Nat=>(x:Int):=⟨_,rfl⟩
 rw [<- hps] at hpp
 have hpl':ps.length <= 61:=by rw [hps,yAA];exact hpl
 refine ⟨pp,_,rfl,.inl (SqL.of hpp),by decide,?_⟩
 rw [yAA]
 have add1:CDiv c 5 /\ (0:Int) < (ps.length:Int)+2 /\ 1 <= sizeLine /\ ∀ (p:Addr),H p=none->rCat (V.ref pp) (V.ref p) (upd H p (HO.lst [V.int (c / 5 % (↑ps.length+2))])) Q :=
  ⟨⟨by decide,by decide⟩,by omega,ZAZ (by decide),fun l1 h1=>⟨pp,l1,_,_,rfl,rfl,ZAG h1 _ _ _ hpp,ZAH,ZAZ (by rw [yAA];show _+1 <= _;omega),fun l2 h2=>q l2 _ (ps++[c / 5 % (↑ps.length+2)]) ((ZAG h1 _).trans (ZAG h2 _)) ((ZAG h1 _).free h2) (by rw [ZAH,yAO];rfl) (by rw [yAD];show _+1 <= _;omega)⟩⟩
 by_cases h3:c % 5=3
 .rw [if_pos h3];exact add1
 rw [if_neg h3]
 by_cases h0:(ps.length:Int)=0
 .rw [if_pos h0];exact add1
 rw [if_neg h0]
 clear add1
 refine ⟨⟨by decide,by decide⟩,by omega,?_⟩
 obtain ⟨at',ha1,ha2⟩:∃ at':Nat,c / 5 % (ps.length:Int)=(at':Int) /\ at' < ps.length:=by
  have q1:=Int.emod_nonneg (c / 5) h0
  have q2:=Int.emod_lt_of_pos (c / 5) (show (0:Int) < (ps.length:Int) by omega)
  exact ⟨(c / 5 % (ps.length:Int)).toNat,by omega,by omega⟩
 rw [ha1]
 have cT:cutV (ps.map V.int) none (some ((at':Nat):Int))=(ps.take at').map V.int:=by rw [cutV_to (by rw [yAA];omega),List.map_take]
 have cF:cutV (ps.map V.int) (some ((at':Int)+1)) none=(ps.drop (at' + 1)).map V.int:=by rw [show ((at':Int)+1)=((at' + 1:Nat):Int) by omega,cutV_from _ _ (by rw [yAA];omega),List.map_drop]
 have lT:(ps.take at').length=at':=by rw [yAQ];omega
 have lF:(ps.drop (at' + 1)).length=ps.length-(at' + 1):=yAW ..
 by_cases h4:c % 5=4
 .rw [if_pos h4]
  refine ZB4 (SqL.of hpp) fun l1 h1=>?_
  rw [cT]
  obtain ⟨H1,e1,s1,g1⟩:=newH h1 (.lst ((ps.take at').map V.int))
  rw [e1];clear e1
  refine ZB4 (SqL.of (s1 _ _ hpp)) fun l2 h2=>?_
  rw [cF]
  obtain ⟨H2,e2,s2,g2⟩:=newH h2 (.lst ((ps.drop (at' + 1)).map V.int))
  rw [e2];clear e2
  exact ⟨l1,l2,_,_,rfl,rfl,s2 _ _ g1,g2,ZAZ (by rw [yAA,yAA];omega),fun l3 h3=>q l3 _ (ps.take at'++ps.drop (at' + 1)) (s1.trans (s2.trans (ZAG h3 _))) ((s1.trans s2).free h3) (by rw [ZAH,yAO]) (by rw [yAD];omega)⟩
 rw [if_neg h4]
 refine ZB4 (SqL.of hpp) fun l1 h1=>?_
 rw [cT]
 obtain ⟨H1,e1,s1,g1⟩:=newH h1 (.lst ((ps.take at').map V.int))
 rw [e1];clear e1
 refine ⟨⟨by decide,by decide⟩,by omega,?_⟩
 obtain ⟨b',hb1,hb2⟩:∃ b':Nat,c / 600 % (ps.length:Int)=(b':Int) /\ b' < ps.length:=by
  have q1:=Int.emod_nonneg (c / 600) h0
  have q2:=Int.emod_lt_of_pos (c / 600) (show (0:Int) < (ps.length:Int) by omega)
  exact ⟨(c / 600 % (ps.length:Int)).toNat,by omega,by omega⟩
 rw [hb1]
 refine ZA0 (SqL.of (s1 _ _ hpp)) (ZA5 (v:=.int ps[b']) (by omega) (by rw [Int.toNat_natCast,yAR,yAM hb2];rfl)) ⟨ZAZ (by decide),fun l2 h2=>?_⟩
 obtain ⟨H2,e2,s2,g2⟩:=newH h2 (.lst [.int (-1),.int (ps.length:Nat),.int ps[b']])
 rw [e2];clear e2
 obtain ⟨y,hy⟩:∃ y:Int,atI [V.int (-1),.int (ps.length:Nat),.int ps[b']] (c % 5)=some (.int y):=by
  obtain h | h | h:c % 5=0∨c % 5=1∨c % 5=2:=by omega
  .exact ⟨_,by rw [h];exact ZA5 (by decide) rfl⟩
  .exact ⟨_,by rw [h];exact ZA5 (by decide) rfl⟩
  .exact ⟨_,by rw [h];exact ZA5 (by decide) rfl⟩
 refine ZA0 (SqL.of g2) hy ⟨ZAZ (by decide),fun l3 h3=>?_⟩
 obtain ⟨H3,e3,s3,g3⟩:=newH h3 (.lst [.int y])
 rw [e3];clear e3
 refine ⟨l1,l3,_,_,rfl,rfl,s3 _ _ (s2 _ _ g1),g3,ZAZ (by rw [yAA];show _+1 <= _;omega),fun l4 h4=>?_⟩
 obtain ⟨H4,e4,s4,g4⟩:=newH h4 (.lst ((ps.take at').map V.int++[.int y]))
 rw [e4];clear e4
 refine ZB4 (SqL.of (s4 _ _ (s3 _ _ (s2 _ _ (s1 _ _ hpp))))) fun l5 h5=>?_
 rw [cF]
 obtain ⟨H5,e5,s5,g5⟩:=newH h5 (.lst ((ps.drop (at' + 1)).map V.int))
 rw [e5];clear e5
 have S:Same H H5:=s1.trans (s2.trans (s3.trans (s4.trans s5)))
 exact ⟨l4,l5,_,_,rfl,rfl,s5 _ _ g4,g5,ZAZ (by rw [yAD,yAA,yAA];show _+1+_ <= _;omega),fun l6 h6=>q l6 _ (ps.take at'++[y]++ps.drop (at' + 1)) (S.trans (ZAG h6 _)) (S.free h6) (by rw [ZAH,yAO,yAO];rfl) (by rw [yAD,yAD];show _+1+_ <= _;omega)⟩
theorem ok_refused {f:Addr} {fd:FuncData} (F:Fun K "_law_refused" "_law_refused" ZAn f fd) (T:Bt K mg C_HallError C_NoPaper C_NoRow)
  (f_sheet:Fn P w K mg base (CXE P w) "sheet" 4 ["row","paper"] (ZBp C_NoPaper))
 :FnOk P w K mg base CX0 5 f fd ["_law_row","_law_paper"] (ZBq):=by
 refine F.ok sc_refused (fun vs H Q E h=>?_) (fun cdv A outer s H vs Q E hr h=>?_)
 .obtain ⟨r,a,xs,rs,zs,rfl,hr',hrw,ha,hl,hrs,hbad,q⟩:=h
  rfl
 obtain ⟨r,a,xs,rs,zs,rfl,hr',hrw,ha,hl,hrs,hbad,q⟩:=h
 refine ⟨_,(ZAD (ZAa (i:=2) sc_refused.nd rfl (by walk_at "o") ZCS)
  (ZAD (ps_try (i:=3) ⟨rfl,rfl⟩ rfl rfl T.m_HallError sc_refused.nd rfl rfl (fun pn xe E hp=>
  (ZAF (ZCA (pe_fnS f_sheet (hr.mono (by decide)) rfl hp (ZAA (pv 0) (ZAA (pv 1) ZAB)))))) (fun e=>
  (ZAF (ZAa (i:=2) sc_refused.nd rfl (by walk_at "o") (ZCF (ZAI (call_isExcK K) rfl T.b_isinstance PyProof.Rows.boot_isinstance (ZAA (pv 3) (ZAA (pe_gcls rfl T.m_NoPaper) ZAB))) (ZCR (pe_not (ZAI (call_isExcK K) rfl T.b_isinstance PyProof.Rows.boot_isinstance (ZAA (pv 3) (ZAA (pe_gcls rfl T.m_NoRow) ZAB))))))))))
  (ZAF (ZAU (pv 2))))),?_⟩
 walk_at "rd"
 refine ⟨r,a,xs,rs,zs,rfl,hr',hrw,ha,hl,hrs,fun p hp ez hpl=>absurd ⟨⟨p,hp,ez⟩,by rw [ez,yAA,hpl]⟩ hbad,fun _ H1 s1=>⟨T.xm_NoPaper_HallError,fun ea hea=>?_⟩⟩
 obtain ⟨H2,e,s2,h2⟩:=newH hea (excO ea (.ref C_NoPaper) none)
 rw [e];clear e
 walk_at "rd"
 refine isX85 h2 T.xc_NoPaper T.xd_NoPaper T.kit_NoPaper_NoPaper rfl ?_
 walk_at "rd"
 refine isX85 h2 T.xc_NoPaper T.xd_NoPaper T.kit_NoPaper_NoRow rfl ?_
 walk_at "rd"
 exact q _ (s1.trans s2)
theorem ok_law {f:Addr} {fd:FuncData} (F:Fun K "law" "law" ZBs f fd) (T:Bt K mg C_HallError C_NoPaper C_NoRow)
  (f_paper_by:Fn P w K mg base CX0 "_law_paper_by" 1 ["_law_cells"] (ZBZ))
  (f_l_sheet:Fn P w K mg base CX0 "_law_sheet" 2 ["_law_row","_law_paper"] (ZBo))
  (f_sheet:Fn P w K mg base (CXE P w) "sheet" 4 ["row","paper"] (ZBp C_NoPaper))
  (f_spoiled:Fn P w K mg base CX0 "_law_spoiled" 1 ["_law_paper","_law_cell"] (ZBX))
  (f_thing:Fn P w K mg base CX0 "_law_thing" 2 ["_law_cell","_law_width","_law_kind"] (ZBW))
  (f_cell_at:Fn P w K mg base CX0 "_law_cell_at" 1 ["_law_script","_law_k"] (ZCP K))
  (f_refused:Fn P w K mg base CX0 "_law_refused" 5 ["_law_row","_law_paper"] (ZBq))
 :FnOk P w K mg base CX0 6 f fd ["_law_script"] (ZCX K):=by
 refine F.ok sc_law (fun vs H Q E h=>?_) (fun cdv A outer s H vs Q E hr h=>?_)
 .obtain ⟨a,ns,rfl,hS,h63,q⟩:=h
  rfl
 obtain ⟨a,ns,rfl,hS,h63,q⟩:=h
 refine ⟨_,(ZAD (ZAa (i:=1) sc_law.nd rfl (by walk_at "o") (ZBF ZBb (pv 0) (ZBO ZAE) (ZBO ZAE)))
  (ZAk
  (ZAD (ZAa (i:=2) sc_law.nd rfl (by walk_at "o") (ZAJ ZBG ZAE (ZAJ ZAy (ZAq f_cell_at (hr.mono (by decide)) rfl ZBB (ZAA (pv 0) (ZAA ZAE ZAB))) ZAE)))
  (ZAk
  (ZAD (ps_setComp (i:=3) sc_law.nd rfl (Or.inl rfl) rfl (k:=1) (js:=[2,0]) (N':=["_law_cell","_law_width","_law_script"]) (by rfl) (ZBu (pv 1)) (fun _ _ _ _=>ZAs (i:=0) (show (["_law_cell","_law_width","_law_script"]:List Str).Nodup by decide +kernel) rfl (by walk_at "o")) (fun _ _ _ _=>ZA7) (fun _ _ _ _=>(ZAq f_thing (hr.mono (by decide)) rfl ZBB (ZAA (pv 0) (ZAA (pv 1) (ZAA (ZAJ ZBC (ZAq f_cell_at (hr.mono (by decide)) rfl ZBB (ZAA (pv 2) (ZAA ZAE ZAB))) ZAE) ZAB))))))
  (ZAk
  (ZAD (ZAa (i:=4) sc_law.nd rfl (by walk_at "o") (ZAq f_paper_by (hr.mono (by decide)) rfl ZBB (ZAA (pv 1) ZAB)))
  (ZAk
  (ZAD (ZAa (i:=5) sc_law.nd rfl (by walk_at "o") (ZBQ (ZAA (ZAQ call_list_of rfl T.b_list PyProof.Rows.boot_list (ZAA (pv 3) ZAB)) (ZAA (ZAQ call_list_of rfl T.b_list PyProof.Rows.boot_list (ZAA (pv 4) ZAB)) ZAB))))
  (ZAk
  (ZAD (ZAa (i:=6) sc_law.nd rfl (by walk_at "o") (ZAq f_l_sheet (hr.mono (by decide)) rfl ZBB (ZAA (pv 3) (ZAA (pv 4) ZAB))))
  (ZAk
  (ZAD (ZAa (i:=7) sc_law.nd rfl (by walk_at "o") (ZAq f_sheet (hr.mono (by decide)) rfl ZCa (ZAA (ZBi ZAl (pv 5) ZAE (fun _ _=>rfl)) (ZAA (ZBi ZAl (pv 5) ZAE (fun _ _=>rfl)) ZAB))))
  (ZAk
  (ZAD (ZBR (PW.pt (ZCY (ZB6 (ZB5 (ZAI ZAw rfl T.b_isinstance PyProof.Rows.boot_isinstance (ZAA (pv 7) (ZAA (ZCE rfl T.b_str PyProof.Rows.boot_str) ZAB))))) (ZCD (ZAd ZCb (pv 7) (pv 6) (ZAe _)))))
  (ZAF (ZAU ZCS)) ZAi)
  (ZAk
  (ZAD (ZAa (i:=8) sc_law.nd rfl (by walk_at "o") (ZAq f_spoiled (hr.mono (by decide)) rfl ZBB (ZAA (pv 4) (ZAA (ZAq f_cell_at (hr.mono (by decide)) rfl ZBB (ZAA (pv 0) (ZAA ZAE ZAB))) ZAB))))
  (ZAk
  (ZAD (ZBR (ZAd (ZCT hr.units) (ZAI call_sorted rfl T.b_sorted PyProof.Rows.boot_sorted (ZAA (pv 8) ZAB)) (ZAQ (call_list_rng rfl) rfl T.b_list PyProof.Rows.boot_list (ZAA (ZAQ call_rng1 rfl T.b_range PyProof.Rows.boot_range (ZAA (ZAI ZAR rfl T.b_len PySem.boot_len (ZAA (pv 3) ZAB)) ZAB)) ZAB)) (ZAe _))
  (ZAF (ZBR (ZAd ZCb (ZAq f_sheet (hr.mono (by decide)) rfl ZCa (ZAA (pv 3) (ZAA (pv 8) ZAB))) (ZAq f_l_sheet (hr.mono (by decide)) rfl ZBB (ZAA (pv 3) (ZAA (pv 8) ZAB))) (ZAe _))
  (ZAF (ZAU ZCS)) ZAi))
  (ZAF (ZBR (ZB6 (ZB5 (ZAq f_refused (hr.mono (by decide)) rfl ZBB (ZAA (pv 3) (ZAA (pv 8) ZAB)))))
  (ZAF (ZAU ZCS)) ZAi)))
  (ZAk
  (ZAF (ZAU (ZCF (ZBv (ZCT hr.units) (pv 5) (ZBQ (ZAA (pv 3) (ZAA (pv 4) ZAB))) (ZAe _)) (ZCF (ZBv ZCB (ZAq f_sheet (hr.mono (by decide)) rfl ZCa (ZAA (ZBQ ZAB) (ZAA (ZBQ ZAB) ZAB))) ZA9 (ZAe _)) (ZCR (ZBv ZCB (ZAq f_sheet (hr.mono (by decide)) rfl ZCa (ZAA (ZBi ZAl (pv 5) ZAE (fun _ _=>rfl)) (ZAA (ZBi ZAl (pv 5) ZAE (fun _ _=>rfl)) ZAB))) (pv 6) (ZAe _))))))))))))))))))))))))))),?_⟩
 walk_at "rd"
 refine ZB4 hS fun cl hcl=>?_
 rw [cutV_ints]
 have hml:((ns.drop (HT.sIx ns.length 0 (some 2))).take (HT.sIx ns.length ns.length (some 122)-HT.sIx ns.length 0 (some 2))).length <= 61:=by
  rw [show (some (2:Int))=some ((2:Nat):Int) from rfl,HT.sIx_nat,yAQ,yAW]
  omega
 generalize (ns.drop (HT.sIx ns.length 0 (some 2))).take (HT.sIx ns.length ns.length (some 122)-HT.sIx ns.length 0 (some 2))=ms at hml ⊢
 obtain ⟨H1,e1,s1,h1⟩:=newH hcl (.lst (ms.map V.int))
 rw [e1];clear e1
 refine ZBA ?_
 walk_at "rd"
 refine ⟨a,ns,0,rfl,s1.seq hS,by decide,?_⟩
 walk_at "rd"
 refine ⟨by decide,?_⟩
 obtain ⟨wd,hw1,hw2⟩:∃ wd:Nat,1+cellOf ns 0 % 8=(wd:Int) /\ 0 < wd /\ wd <= 8:=⟨(1+cellOf ns 0 % 8).toNat,by omega,by omega,by omega⟩
 rw [hw1]
 refine ZBA ?_
 walk_at "rd"
 refine ZB0 (SqL.of h1) (by rw [yAA];omega) (fun i ys σ X=>∃ v rs,σ=[v,some (.int wd),some (.ref a)] /\ Same H1 X /\ Rws X rs ys /\ rs.length=i) ⟨_,[],rfl,.refl _,Rws.nil,rfl⟩ (fun i ys σ X _ z=>?_) (fun i ys x σ X hi hx z=>?_) fun ys σ X z rw hrw0=>?_
 .obtain ⟨v,rs,_,e,e2,e3⟩:=z
  exact ⟨SqL.of (e _ _ h1),by rw [e2.len,e3];exact yAB _⟩
 .obtain ⟨v,rs,rfl,sX,e2,e3⟩:=z
  obtain ⟨c,hc,rfl⟩:=ZBS hx
  walk_at "rd"
  refine ⟨a,ns,0,rfl,(s1.trans sX).seq hS,by decide,?_⟩
  walk_at "rd"
  refine ⟨⟨by decide,by decide⟩,c,_,wd,rfl,hw2.1,hw2.2,fun t X2 ms2 s2 ht0 ht hl hs=>.of hi ⟨_,rs++[ms2],rfl,sX.trans s2,(e2.keep s2).snoc ht (by omega) (by omega) hs,by rw [yAD,e3];rfl⟩⟩
 obtain ⟨v,rs,rfl,sX,hR,hrl⟩:=z
 rw [yAA] at hrl
 obtain ⟨H2,e2,s2,h2⟩:=newH hrw0 (.lst ys)
 rw [e2];clear e2
 have hR2:=hR.keep s2
 have hS2:=(s1.trans (sX.trans s2)).seq hS
 have h1:=s2 _ _ (sX _ _ h1)
 clear sX s1 s2 hR hcl hrw0 hS
 refine ZBA ?_
 walk_at "rd"
 refine ⟨cl,ms,rfl,h1,hml,fun pa H3 p s3 hpa h3 hp hpl=>?_⟩
 have hR3:=hR2.keep s3
 have h2:=s3 _ _ h2
 have hS3:=s3.seq hS2
 clear hR2 hS2 h1
 refine ZBA ?_
 walk_at "rd"
 refine ⟨rw,_,rfl,.inl (SqL.of h2),fun l1 hl1=>?_⟩
 obtain ⟨H4,e4,s4,h4⟩:=newH hl1 (.lst ys)
 rw [e4];clear e4
 refine ⟨pa,_,rfl,.inl (SqL.of (s4 _ _ h3)),fun l2 hl2=>?_⟩
 obtain ⟨H5,e5,s5,h5⟩:=newH hl2 (.lst (NL p))
 rw [e5];clear e5
 refine ⟨ZAZ (by decide),fun hd hhd=>?_⟩
 obtain ⟨H6,e6,s6,h6⟩:=newH hhd (.lst [.ref l1,.ref l2])
 rw [e6];clear e6
 have S:=s4.trans (s5.trans s6)
 have hR6:=hR3.keep S
 have h2:=S _ _ h2
 have h3:=S _ _ h3
 have h4:=s6 _ _ (s5 _ _ h4)
 have h5:=s6 _ _ h5
 have hS6:=S.seq hS3
 clear s4 s5 s6 S s3 hR3 hS3 hl1 hl2 hhd hpa
 have hpr:p.length=rs.length:=by rw [hpl,hrl]
 have hplt:∀ x∈p,x < rs.length:=fun x hx=>by rw [<- hpr];exact hp.lt hx
 refine ZBA ?_
 walk_at "rd"
 refine ⟨rw,pa,ys,rs,p,rfl,h2,hR6,h3,by omega,hplt,by omega,?_⟩
 refine ZBA ?_
 walk_at "rd"
 refine ZA0 (SqL.of h6) (ZA5 (by decide) rfl) (ZA0 (SqL.of h6) (ZA5 (by decide) rfl) ?_)
 refine ⟨l1,l2,ys,rs,_,rfl,h4,hR6,by rw [h5,ZCL],by rw [yAA];omega,by omega,fun p' hp' ez hpl' H7 s7=>?_,fun hbad=>absurd ⟨⟨p,hp,rfl⟩,by rw [yAA,hpr]⟩ hbad⟩
 cases ZCn ez
 have hR7:=hR6.keep s7
 have h2:=s7 _ _ h2
 have h3:=s7 _ _ h3
 have h4:=s7 _ _ h4
 have h5:=s7 _ _ h5
 have h6:=s7 _ _ h6
 have hS7:=s7.seq hS6
 clear hR6 hS6 s7
 refine ZBA ?_
 walk_at "rd"
 refine ZBz rfl (.str _) (ZBy rfl) ?_
 walk_at "rd"
 rw [if_neg (fun z=>z trivial)]
 refine ZBA ?_
 walk_at "rd"
 refine ⟨a,ns,1,rfl,hS7,by decide,?_⟩
 refine ⟨pa,p,_,rfl,h3,by omega,fun sl H8 zs s8 _ h8 hzl=>?_⟩
 have hR8:=hR7.keep s8
 have h2:=s8 _ _ h2
 have h3:=s8 _ _ h3
 have h4:=s8 _ _ h4
 have h5:=s8 _ _ h5
 have h6:=s8 _ _ h6
 clear hR7 hS7 s8
 refine ZBA ?_
 walk_at "rd"
 apply once85 (fun _:Hp=>[some (.ref a),some (.ref cl),some (.int wd),some (.ref rw),some (.ref pa),some (.ref hd),some (.str (shT rs p)),some (.str (shT rs p)),some (.ref sl)]) (fun Y=>Y) (fun Y=>Same H8 Y)
 .intro rest
  refine ⟨sl,zs,rfl,SqL.of h8,by omega,fun l3 ms2 hl3 hperm hsort=>?_⟩
  refine ⟨rw,ys,rfl,.inl (SqL.of (ZAG hl3 _ _ _ h2)),?_⟩
  refine ⟨_,rfl,fun p0 hp0=>?_⟩
  rw [hR8.len]
  refine ⟨p0,0,_,rfl,ZAH,by omega,fun l4 hl4=>?_⟩
  have S:Same H8 (upd (upd (upd H8 l3 (.lst (ms2.map V.int))) p0 (.rng 0 (rs.length:Nat))) l4 (.lst ((ZBE 0 (rs.length:Nat)).map V.int))):=(ZAG hl3 _).trans ((ZAG hp0 _).trans (ZAG hl4 _))
  refine eqD_of Enc.int.list (by decide) (ZBg (SqL.of ((ZAG hl4 _) _ _ ((ZAG hp0 _) _ _ ZAH)))) (ZBg (SqL.of ZAH)) ?_
  generalize upd (upd (upd H8 l3 (.lst (ms2.map V.int))) p0 (.rng 0 (rs.length:Nat))) l4 (.lst ((ZBE 0 (rs.length:Nat)).map V.int))=H9 at S ⊢
  walk_at "rd"
  have hri:ZBE 0 (rs.length:Nat)=(List.range rs.length).map fun x:Nat=>(x:Int):=by unfold ZBE;simp
  rw [hri]
  by_cases hz:ms2=(List.range rs.length).map fun x:Nat=>(x:Int)
  .rw [if_pos hz]
   have hzr:zs.length=rs.length:=by rw [<- hperm.length_eq,hz,yAA,List.length_range]
   obtain ⟨p2,hp2,e2⟩:=(ZBP hperm hsort).mp (by rw [hzr];exact hz)
   have hp2l:p2.length=rs.length:=by rw [<- hzr,e2,yAA]
   refine ⟨rw,sl,ys,rs,zs,rfl,S _ _ h2,hR8.keep S,S _ _ h8,by omega,by omega,fun p3 hp3 e3 hl3 H10 s10=>?_,fun hbad=>absurd ⟨⟨p2,hp2,e2⟩,by rw [hzr]⟩ hbad⟩
   refine ⟨rw,sl,ys,rs,p3,rfl,s10 _ _ (S _ _ h2),(hR8.keep S).keep s10,by rw [s10 _ _ (S _ _ h8),ZCL,e3],by omega,fun x hx=>by rw [<- hl3];exact hp3.lt hx,by omega,?_⟩
   walk_at "rd"
   rw [if_neg (by simp)]
   exact rest _ (S.trans s10)
  .rw [if_neg hz]
   refine ⟨rw,sl,ys,rs,zs,rfl,S _ _ h2,hR8.keep S,S _ _ h8,by omega,by omega,fun hbad=>hz ?_,fun H10 s10=>?_⟩
   .have hzr:zs.length=rs.length:=by omega
    rw [<- hzr];exact (ZBP hperm hsort).mpr hbad.1
   walk_at "rd"
   exact rest _ (S.trans s10)
 intro Hx sx
 refine ZBA ?_
 walk_at "rd"
 refine ⟨ZAZ (by decide),fun nl hnl=>?_⟩
 obtain ⟨H9,e9,s9,h9⟩:=newH hnl (.lst [.ref rw,.ref pa])
 rw [e9];clear e9
 have S:=sx.trans s9
 have hR9:=hR8.keep S
 refine eqD_refl (hd_dp (zs:=p.map fun x:Nat=>(x:Int)) (S _ _ h6) (S _ _ h4) hR9 (by rw [S _ _ h5,ZCL])) (hd_dp h9 (S _ _ h2) hR9 (by rw [S _ _ h3,ZCL])) (hd_lay _ _) (hd_dep _ _) ?_
 walk_at "rd"
 refine ⟨ZAZ (by decide),fun n1 hn1=>⟨ZAZ (by decide),fun n2 hn2=>?_⟩⟩
 have S2:Same H9 (upd (upd H9 n1 (.lst [])) n2 (.lst [])):=(ZAG hn1 _).trans (ZAG hn2 _)
 refine ⟨n1,n2,[],[],[],rfl,ZAG hn2 _ _ _ ZAH,Rws.nil,ZAH,by decide,by decide,fun p3 hp3 e3 hl3 H10 s10=>?_,fun hbad=>absurd ⟨⟨[],List.Perm.refl [],rfl⟩,rfl⟩ hbad⟩
 have e0:shT [] p3=Str.ofString "":=by rw [List.length_eq_zero_iff.mp hl3];rfl
 rw [e0]
 walk_at "rd"
 have S3:=S.trans (S2.trans s10)
 refine ZA0 (SqL.of (S3 _ _ h6)) (ZA5 (by decide) rfl) (ZA0 (SqL.of (S3 _ _ h6)) (ZA5 (by decide) rfl) ?_)
 refine ⟨l1,l2,ys,rs,_,rfl,S3 _ _ h4,hR8.keep S3,by rw [S3 _ _ h5,ZCL],by rw [yAA];omega,by omega,fun p' _ ez _ H11 _=>?_,fun hbad=>absurd ⟨⟨p,hp,rfl⟩,by rw [yAA,hpr]⟩ hbad⟩
 cases ZCn ez
 walk_at "rd"
 exact q _
end
theorem all_mk {l:PySem.W.OpenLaw} {w:World} {K:W.Frag} {h:Heap} {mg:Str->Option Value} {fa C_HallError C_NoPaper C_NoRow f_zad f_zac f_zaf f_zab f_zaa f_zam f_zaj f_zae f_zak f_zal f_zan f_zah f_zag f_zai f_zao:Addr} (X:K.In h) (G:h.Ns mainGlobals mg) (hfa:mg "law"=some (.ref fa))
  {od_zad an_zad:Option Addr} {sl_zad:Array (Option Value)} {oc_zad kV_zad dc_zad pm_zad cd_zad ct_zad:Value}
  {od_zac an_zac:Option Addr} {sl_zac:Array (Option Value)} {oc_zac kV_zac dc_zac pm_zac cd_zac ct_zac:Value}
  {od_zaf an_zaf:Option Addr} {sl_zaf:Array (Option Value)} {oc_zaf kV_zaf dc_zaf pm_zaf cd_zaf ct_zaf:Value}
  {od_zab an_zab:Option Addr} {sl_zab:Array (Option Value)} {oc_zab kV_zab dc_zab pm_zab cd_zab ct_zab:Value}
  {od_zaa an_zaa:Option Addr} {sl_zaa:Array (Option Value)} {oc_zaa kV_zaa dc_zaa pm_zaa cd_zaa ct_zaa:Value}
  {od_zam an_zam:Option Addr} {sl_zam:Array (Option Value)} {oc_zam kV_zam dc_zam pm_zam cd_zam ct_zam:Value}
  {od_zaj an_zaj:Option Addr} {sl_zaj:Array (Option Value)} {oc_zaj kV_zaj dc_zaj pm_zaj cd_zaj ct_zaj:Value}
  {od_zae an_zae:Option Addr} {sl_zae:Array (Option Value)} {oc_zae kV_zae dc_zae pm_zae cd_zae ct_zae:Value}
  {od_zak an_zak:Option Addr} {sl_zak:Array (Option Value)} {oc_zak kV_zak dc_zak pm_zak cd_zak ct_zak:Value}
  {od_zal an_zal:Option Addr} {sl_zal:Array (Option Value)} {oc_zal kV_zal dc_zal pm_zal cd_zal ct_zal:Value}
  {od_zan an_zan:Option Addr} {sl_zan:Array (Option Value)} {oc_zan kV_zan dc_zan pm_zan cd_zan ct_zan:Value}
  {od_zah an_zah:Option Addr} {sl_zah:Array (Option Value)} {oc_zah kV_zah dc_zah pm_zah cd_zah ct_zah:Value}
  {od_zag an_zag:Option Addr} {sl_zag:Array (Option Value)} {oc_zag kV_zag dc_zag pm_zag cd_zag ct_zag:Value}
  {od_zai an_zai:Option Addr} {sl_zai:Array (Option Value)} {oc_zai kV_zai dc_zai pm_zai cd_zai ct_zai:Value}
  {od_zao an_zao:Option Addr} {sl_zao:Array (Option Value)} {oc_zao kV_zao dc_zao pm_zao cd_zao ct_zao:Value}
  (a_HallError:W.nsIn K mainGlobals "HallError"=some (some (.ref C_HallError)))
  (a_NoPaper:W.nsIn K mainGlobals "NoPaper"=some (some (.ref C_NoPaper)))
  (a_NoRow:W.nsIn K mainGlobals "NoRow"=some (some (.ref C_NoRow)))
  (xq_NoPaper:PySem.W.excIn K C_NoPaper bmV "ValueError.__new__"=true)
  (xg_NoPaper:W.findIn K (.ref C_NoPaper) "__getattribute__"=some (some (.builtin "BaseException.__getattribute__")))
  (xh_NoPaper:W.findIn K (.ref C_NoPaper) "__getattr__"=some none)
  (xa_NoPaper:W.findIn K (.ref C_NoPaper) "__class__"=some (some (.builtin "object.__class__")))
  (xs_NoPaper:PySem.W.specialIn K (.builtin "object.__class__") "__get__"=some (some (.builtin "getset_descriptor.__get__")))
  (xt_NoPaper:PySem.W.takesIn K (.builtin "object.__class__")=some true)
  (xo_NoPaper:PySem.W.mroIn K C_NoPaper (.type "object")=some true)
  (xb_NoPaper:PySem.W.mroIn K C_NoPaper (.type "BaseException")=some true)
  (xd_NoPaper:PySem.W.hasDictIn K C_NoPaper=true)
  (xm_NoPaper_HallError:PySem.W.exmOne K (.ref C_NoPaper) (.ref C_HallError)=some true)
  (a_zad:W.nsIn K mainGlobals "straight"=some (some (.ref f_zad)))
  (l_zad:K.lookup f_zad=some ⟨oc_zad,od_zad,.func (W.fnOf "straight" "straight" (ZAS ZAf) (ZAP ZAf) (ZAC ZAf) .none kV_zad dc_zad pm_zad an_zad cd_zad ct_zad),sl_zad⟩)
  (c_zad:W.codeIn K cd_zad "straight"=true)
  (k_zad:W.keepIn K (.ref f_zad)=true)
  (a_zac:W.nsIn K mainGlobals "is_number"=some (some (.ref f_zac)))
  (l_zac:K.lookup f_zac=some ⟨oc_zac,od_zac,.func (W.fnOf "is_number" "is_number" (ZAS ZAc) (ZAP ZAc) (ZAC ZAc) .none kV_zac dc_zac pm_zac an_zac cd_zac ct_zac),sl_zac⟩)
  (c_zac:W.codeIn K cd_zac "is_number"=true)
  (k_zac:W.keepIn K (.ref f_zac)=true)
  (a_zaf:W.nsIn K mainGlobals "is_paper"=some (some (.ref f_zaf)))
  (l_zaf:K.lookup f_zaf=some ⟨oc_zaf,od_zaf,.func (W.fnOf "is_paper" "is_paper" (ZAS ZAh) (ZAP ZAh) (ZAC ZAh) .none kV_zaf dc_zaf pm_zaf an_zaf cd_zaf ct_zaf),sl_zaf⟩)
  (c_zaf:W.codeIn K cd_zaf "is_paper"=true)
  (k_zaf:W.keepIn K (.ref f_zaf)=true)
  (a_zab:W.nsIn K mainGlobals "check_paper"=some (some (.ref f_zab)))
  (l_zab:K.lookup f_zab=some ⟨oc_zab,od_zab,.func (W.fnOf "check_paper" "check_paper" (ZAS ZAW) (ZAP ZAW) (ZAC ZAW) .none kV_zab dc_zab pm_zab an_zab cd_zab ct_zab),sl_zab⟩)
  (c_zab:W.codeIn K cd_zab "check_paper"=true)
  (k_zab:W.keepIn K (.ref f_zab)=true)
  (a_zaa:W.nsIn K mainGlobals "shown_thing"=some (some (.ref f_zaa)))
  (l_zaa:K.lookup f_zaa=some ⟨oc_zaa,od_zaa,.func (W.fnOf "shown_thing" "shown_thing" (ZAS ZAV) (ZAP ZAV) (ZAC ZAV) .none kV_zaa dc_zaa pm_zaa an_zaa cd_zaa ct_zaa),sl_zaa⟩)
  (c_zaa:W.codeIn K cd_zaa "shown_thing"=true)
  (k_zaa:W.keepIn K (.ref f_zaa)=true)
  (a_zam:W.nsIn K mainGlobals "sheet"=some (some (.ref f_zam)))
  (l_zam:K.lookup f_zam=some ⟨oc_zam,od_zam,.func (W.fnOf "sheet" "sheet" (ZAS ZBN) (ZAP ZBN) (ZAC ZBN) .none kV_zam dc_zam pm_zam an_zam cd_zam ct_zam),sl_zam⟩)
  (c_zam:W.codeIn K cd_zam "sheet"=true)
  (k_zam:W.keepIn K (.ref f_zam)=true)
  (a_zaj:W.nsIn K mainGlobals "_law_cell_at"=some (some (.ref f_zaj)))
  (l_zaj:K.lookup f_zaj=some ⟨oc_zaj,od_zaj,.func (W.fnOf "_law_cell_at" "_law_cell_at" (ZAS ZAp) (ZAP ZAp) (ZAC ZAp) .none kV_zaj dc_zaj pm_zaj an_zaj cd_zaj ct_zaj),sl_zaj⟩)
  (c_zaj:W.codeIn K cd_zaj "_law_cell_at"=true)
  (k_zaj:W.keepIn K (.ref f_zaj)=true)
  (a_zae:W.nsIn K mainGlobals "_law_paper_by"=some (some (.ref f_zae)))
  (l_zae:K.lookup f_zae=some ⟨oc_zae,od_zae,.func (W.fnOf "_law_paper_by" "_law_paper_by" (ZAS ZAg) (ZAP ZAg) (ZAC ZAg) .none kV_zae dc_zae pm_zae an_zae cd_zae ct_zae),sl_zae⟩)
  (c_zae:W.codeIn K cd_zae "_law_paper_by"=true)
  (k_zae:W.keepIn K (.ref f_zae)=true)
  (a_zak:W.nsIn K mainGlobals "_law_number"=some (some (.ref f_zak)))
  (l_zak:K.lookup f_zak=some ⟨oc_zak,od_zak,.func (W.fnOf "_law_number" "_law_number" (ZAS ZA6) (ZAP ZA6) (ZAC ZA6) .none kV_zak dc_zak pm_zak an_zak cd_zak ct_zak),sl_zak⟩)
  (c_zak:W.codeIn K cd_zak "_law_number"=true)
  (k_zak:W.keepIn K (.ref f_zak)=true)
  (a_zal:W.nsIn K mainGlobals "_law_thing"=some (some (.ref f_zal)))
  (l_zal:K.lookup f_zal=some ⟨oc_zal,od_zal,.func (W.fnOf "_law_thing" "_law_thing" (ZAS ZBM) (ZAP ZBM) (ZAC ZBM) .none kV_zal dc_zal pm_zal an_zal cd_zal ct_zal),sl_zal⟩)
  (c_zal:W.codeIn K cd_zal "_law_thing"=true)
  (k_zal:W.keepIn K (.ref f_zal)=true)
  (a_zan:W.nsIn K mainGlobals "_law_line"=some (some (.ref f_zan)))
  (l_zan:K.lookup f_zan=some ⟨oc_zan,od_zan,.func (W.fnOf "_law_line" "_law_line" (ZAS ZBl) (ZAP ZBl) (ZAC ZBl) .none kV_zan dc_zan pm_zan an_zan cd_zan ct_zan),sl_zan⟩)
  (c_zan:W.codeIn K cd_zan "_law_line"=true)
  (k_zan:W.keepIn K (.ref f_zan)=true)
  (a_zah:W.nsIn K mainGlobals "_law_sheet"=some (some (.ref f_zah)))
  (l_zah:K.lookup f_zah=some ⟨oc_zah,od_zah,.func (W.fnOf "_law_sheet" "_law_sheet" (ZAS ZAo) (ZAP ZAo) (ZAC ZAo) .none kV_zah dc_zah pm_zah an_zah cd_zah ct_zah),sl_zah⟩)
  (c_zah:W.codeIn K cd_zah "_law_sheet"=true)
  (k_zah:W.keepIn K (.ref f_zah)=true)
  (a_zag:W.nsIn K mainGlobals "_law_spoiled"=some (some (.ref f_zag)))
  (l_zag:K.lookup f_zag=some ⟨oc_zag,od_zag,.func (W.fnOf "_law_spoiled" "_law_spoiled" (ZAS ZAm) (ZAP ZAm) (ZAC ZAm) .none kV_zag dc_zag pm_zag an_zag cd_zag ct_zag),sl_zag⟩)
  (c_zag:W.codeIn K cd_zag "_law_spoiled"=true)
  (k_zag:W.keepIn K (.ref f_zag)=true)
  (a_zai:W.nsIn K mainGlobals "_law_refused"=some (some (.ref f_zai)))
  (l_zai:K.lookup f_zai=some ⟨oc_zai,od_zai,.func (W.fnOf "_law_refused" "_law_refused" (ZAS ZAn) (ZAP ZAn) (ZAC ZAn) .none kV_zai dc_zai pm_zai an_zai cd_zai ct_zai),sl_zai⟩)
  (c_zai:W.codeIn K cd_zai "_law_refused"=true)
  (k_zai:W.keepIn K (.ref f_zai)=true)
  (a_zao:W.nsIn K mainGlobals "law"=some (some (.ref f_zao)))
  (l_zao:K.lookup f_zao=some ⟨oc_zao,od_zao,.func (W.fnOf "law" "law" (ZAS ZBs) (ZAP ZBs) (ZAC ZBs) .none kV_zao dc_zao pm_zao an_zao cd_zao ct_zao),sl_zao⟩)
  (c_zao:W.codeIn K cd_zao "law"=true)
  (k_zao:W.keepIn K (.ref f_zao)=true)
  (z_len:W.nsIn K mainGlobals "len"=some none)
  (z_range:W.nsIn K mainGlobals "range"=some none)
  (z_tuple:W.nsIn K mainGlobals "tuple"=some none)
  (z_list:W.nsIn K mainGlobals "list"=some none)
  (z_isinstance:W.nsIn K mainGlobals "isinstance"=some none)
  (z_bool:W.nsIn K mainGlobals "bool"=some none)
  (z_int:W.nsIn K mainGlobals "int"=some none)
  (z_str:W.nsIn K mainGlobals "str"=some none)
  (z_all:W.nsIn K mainGlobals "all"=some none)
  (z_sorted:W.nsIn K mainGlobals "sorted"=some none)
  (z_ValueError:W.nsIn K mainGlobals "ValueError"=some none)
  (kit_int_bool:PySem.W.kitOne K (.type "int") (.type "bool")=some false)
  (kit_NoPaper_NoPaper:PySem.W.kitOne K (.ref C_NoPaper) (.ref C_NoPaper)=some true)
  (kit_NoPaper_NoRow:PySem.W.kitOne K (.ref C_NoPaper) (.ref C_NoRow)=some false) :
  ∃ fd:FuncData,(∀ (s:Shared) (v:Value),BindsTo s fd ⟨[v],[]⟩ [("_law_script",v)]) /\ ∀ base:Heap,K.In base->base.Ns mainGlobals mg->FnOk l.prog w K mg base CX0 6 fa fd ["_law_script"] (ZCX K):=by
 have e:=hfa.symm.trans (PySem.W.mg_of X G a_zao)
 cases e
 have F_zad:=ZAj (st:=ZAf) l_zad c_zad k_zad
 have b_zad:=F_zad.binds (ps:=["many"]) fun _ _ _ _ _ _ us hl=>by obtain ⟨_,rfl⟩:=us1 hl;rfl
 have F_zac:=ZAj (st:=ZAc) l_zac c_zac k_zac
 have b_zac:=F_zac.binds (ps:=["some"]) fun _ _ _ _ _ _ us hl=>by obtain ⟨_,rfl⟩:=us1 hl;rfl
 have F_zaf:=ZAj (st:=ZAh) l_zaf c_zaf k_zaf
 have b_zaf:=F_zaf.binds (ps:=["some"]) fun _ _ _ _ _ _ us hl=>by obtain ⟨_,rfl⟩:=us1 hl;rfl
 have F_zab:=ZAj (st:=ZAW) l_zab c_zab k_zab
 have b_zab:=F_zab.binds (ps:=["some","many"]) fun _ _ _ _ _ _ us hl=>by obtain ⟨_,_,rfl⟩:=us2 hl;rfl
 have F_zaa:=ZAj (st:=ZAV) l_zaa c_zaa k_zaa
 have b_zaa:=F_zaa.binds (ps:=["thing"]) fun _ _ _ _ _ _ us hl=>by obtain ⟨_,rfl⟩:=us1 hl;rfl
 have F_zam:=ZAj (st:=ZBN) l_zam c_zam k_zam
 have b_zam:=F_zam.binds (ps:=["row","paper"]) fun _ _ _ _ _ _ us hl=>by obtain ⟨_,_,rfl⟩:=us2 hl;rfl
 have F_zaj:=ZAj (st:=ZAp) l_zaj c_zaj k_zaj
 have b_zaj:=F_zaj.binds (ps:=["_law_script","_law_k"]) fun _ _ _ _ _ _ us hl=>by obtain ⟨_,_,rfl⟩:=us2 hl;rfl
 have F_zae:=ZAj (st:=ZAg) l_zae c_zae k_zae
 have b_zae:=F_zae.binds (ps:=["_law_cells"]) fun _ _ _ _ _ _ us hl=>by obtain ⟨_,rfl⟩:=us1 hl;rfl
 have F_zak:=ZAj (st:=ZA6) l_zak c_zak k_zak
 have b_zak:=F_zak.binds (ps:=["_law_cell"]) fun _ _ _ _ _ _ us hl=>by obtain ⟨_,rfl⟩:=us1 hl;rfl
 have F_zal:=ZAj (st:=ZBM) l_zal c_zal k_zal
 have b_zal:=F_zal.binds (ps:=["_law_cell","_law_width","_law_kind"]) fun _ _ _ _ _ _ us hl=>by obtain ⟨_,_,_,rfl⟩:=us3 hl;rfl
 have F_zan:=ZAj (st:=ZBl) l_zan c_zan k_zan
 have b_zan:=F_zan.binds (ps:=["_law_place","_law_many","_law_thing_here"]) fun _ _ _ _ _ _ us hl=>by obtain ⟨_,_,_,rfl⟩:=us3 hl;rfl
 have F_zah:=ZAj (st:=ZAo) l_zah c_zah k_zah
 have b_zah:=F_zah.binds (ps:=["_law_row","_law_paper"]) fun _ _ _ _ _ _ us hl=>by obtain ⟨_,_,rfl⟩:=us2 hl;rfl
 have F_zag:=ZAj (st:=ZAm) l_zag c_zag k_zag
 have b_zag:=F_zag.binds (ps:=["_law_paper","_law_cell"]) fun _ _ _ _ _ _ us hl=>by obtain ⟨_,_,rfl⟩:=us2 hl;rfl
 have F_zai:=ZAj (st:=ZAn) l_zai c_zai k_zai
 have b_zai:=F_zai.binds (ps:=["_law_row","_law_paper"]) fun _ _ _ _ _ _ us hl=>by obtain ⟨_,_,rfl⟩:=us2 hl;rfl
 have F_zao:=ZAj (st:=ZBs) l_zao c_zao k_zao
 have b_zao:=F_zao.binds (ps:=["_law_script"]) fun _ _ _ _ _ _ us hl=>by obtain ⟨_,rfl⟩:=us1 hl;rfl
 have T:Bt K mg C_HallError C_NoPaper C_NoRow:=⟨PySem.W.mg_none_of X G z_len,PySem.W.mg_none_of X G z_range,PySem.W.mg_none_of X G z_tuple,PySem.W.mg_none_of X G z_list,PySem.W.mg_none_of X G z_isinstance,PySem.W.mg_none_of X G z_bool,PySem.W.mg_none_of X G z_int,PySem.W.mg_none_of X G z_str,PySem.W.mg_none_of X G z_all,PySem.W.mg_none_of X G z_sorted,PySem.W.mg_none_of X G z_ValueError,PySem.W.mg_of X G a_HallError,PySem.W.mg_of X G a_NoPaper,PySem.W.mg_of X G a_NoRow,xq_NoPaper,⟨xg_NoPaper,xh_NoPaper,xa_NoPaper,xs_NoPaper,xt_NoPaper,xo_NoPaper,xb_NoPaper⟩,xd_NoPaper,xm_NoPaper_HallError,kit_int_bool,kit_NoPaper_NoPaper,kit_NoPaper_NoRow⟩
 refine ⟨W.fnOf "law" "law" (ZAS ZBs) (ZAP ZBs) (ZAC ZBs) .none kV_zao dc_zao pm_zao an_zao cd_zao ct_zao,fun s v=>.of_eq rfl,fun base _ _=>?_⟩
 have f_zae':Fn l.prog w K mg base CX0 "_law_paper_by" 1 ["_law_cells"] (ZBZ):=⟨_,_,ok_paper_by F_zae T ,b_zae,k_zae,PySem.W.mg_of X G a_zae⟩
 have f_zan':Fn l.prog w K mg base CX0 "_law_line" 1 ["_law_place","_law_many","_law_thing_here"] (ZBr):=⟨_,_,ok_line F_zan T ,b_zan,k_zan,PySem.W.mg_of X G a_zan⟩
 have f_zah':Fn l.prog w K mg base CX0 "_law_sheet" 2 ["_law_row","_law_paper"] (ZBo):=⟨_,_,ok_l_sheet F_zah T f_zan',b_zah,k_zah,PySem.W.mg_of X G a_zah⟩
 have f_zad':Fn l.prog w K mg base CX0 "straight" 1 ["many"] (ZBJ):=⟨_,_,ok_straight F_zad T ,b_zad,k_zad,PySem.W.mg_of X G a_zad⟩
 have f_zac':Fn l.prog w K mg base CX0 "is_number" 1 ["some"] (ZBL):=⟨_,_,ok_is_number F_zac T ,b_zac,k_zac,PySem.W.mg_of X G a_zac⟩
 have f_zaf':Fn l.prog w K mg base CX0 "is_paper" 2 ["some"] (ZBa):=⟨_,_,ok_is_paper F_zaf T f_zad' f_zac',b_zaf,k_zaf,PySem.W.mg_of X G a_zaf⟩
 have f_zab':Fn l.prog w K mg base (CXE l.prog w) "check_paper" 3 ["some","many"] (ZAx C_NoPaper):=⟨_,_,ok_check_paper F_zab T f_zaf',b_zab,k_zab,PySem.W.mg_of X G a_zab⟩
 have f_zaa':Fn l.prog w K mg base CX0 "shown_thing" 1 ["thing"] (ZBY):=⟨_,_,ok_shown_thing F_zaa T ,b_zaa,k_zaa,PySem.W.mg_of X G a_zaa⟩
 have f_zam':Fn l.prog w K mg base (CXE l.prog w) "sheet" 4 ["row","paper"] (ZBp C_NoPaper):=⟨_,_,ok_sheet F_zam T f_zab' f_zaa',b_zam,k_zam,PySem.W.mg_of X G a_zam⟩
 have f_zag':Fn l.prog w K mg base CX0 "_law_spoiled" 1 ["_law_paper","_law_cell"] (ZBX):=⟨_,_,ok_spoiled F_zag T ,b_zag,k_zag,PySem.W.mg_of X G a_zag⟩
 have f_zak':Fn l.prog w K mg base CX0 "_law_number" 1 ["_law_cell"] (ZBK):=⟨_,_,ok_number F_zak T ,b_zak,k_zak,PySem.W.mg_of X G a_zak⟩
 have f_zal':Fn l.prog w K mg base CX0 "_law_thing" 2 ["_law_cell","_law_width","_law_kind"] (ZBW):=⟨_,_,ok_thing F_zal T f_zak',b_zal,k_zal,PySem.W.mg_of X G a_zal⟩
 have f_zaj':Fn l.prog w K mg base CX0 "_law_cell_at" 1 ["_law_script","_law_k"] (ZCP K):=⟨_,_,ok_cell_at F_zaj T ,b_zaj,k_zaj,PySem.W.mg_of X G a_zaj⟩
 have f_zai':Fn l.prog w K mg base CX0 "_law_refused" 5 ["_law_row","_law_paper"] (ZBq):=⟨_,_,ok_refused F_zai T f_zam',b_zai,k_zai,PySem.W.mg_of X G a_zai⟩
 exact ok_law F_zao T f_zae' f_zah' f_zam' f_zag' f_zal' f_zaj' f_zai'
theorem walk {l:PySem.W.OpenLaw} {q:Program} {loose:List Str} {XP:(Str->Option Value)->Heap->Prop} {YP:World->Heap->Prop} {d:DefRec} {K:Params->W.Frag} (hn:l.most=some 63) (hdf:d.params.defaults=[])
  (hY:∀ (w:World) (h:Heap),YP w h->(K w.params).In h)
  (F:∀ (w:World) (mg:Str->Option Value) (fa:Addr) (h:Heap),(K w.params).In h->h.Ns mainGlobals mg->mg d.name=some (.ref fa) ->
   ∃ fd:FuncData,(∀ (s:Shared) (u:Value),BindsTo s fd ⟨[u],[]⟩ [("_law_script",u)]) /\ ∀ base:Heap,(K w.params).In base->base.Ns mainGlobals mg->FnOk l.prog w (K w.params) mg base CX0 6 fa fd ["_law_script"] (ZCX (K w.params))) :
  PySem.W.WalkO q loose XP YP l.row.toRowW d [] (fun f vs=>PySem.call f vs) :=
 L2.walk_of (n:=63) (k:=6) (x:="_law_script") (CX:=fun _=>CX0) (sp:=fun w=>ZCX (K w.params)) hn (by decide) hdf ⟨rfl,by decide,by decide,rfl⟩ hY F (fun _ _ a ns hl _ hS=>⟨a,ns,rfl,hS,hl,fun _=>rfl⟩) fun _ _ _ _ _ z=>z
end Law
open PySem PySem.W PyProof.Rows
set_option maxRecDepth 100000 in
set_option maxHeartbeats 0 in
theorem PySem.Challenge.cw_sorthall_k85_sheets_holds : PySem.Challenge.rw_sorthall_k85_sheets.Holds := by
 refine L2.hd0 ?_
 k_fill
 refine Law.walk (l:=PySem.Challenge.rw_sorthall_k85_sheets) rfl rfl (fun w h Y=>PySem.W.kIn_of Y) ?F
 case F=>
  intro w mg fa h KX G hmg
  refine' Law.all_mk KX G hmg ?a_HallError ?a_NoPaper ?a_NoRow ?xq_NoPaper ?xg_NoPaper ?xh_NoPaper ?xa_NoPaper ?xs_NoPaper ?xt_NoPaper ?xo_NoPaper ?xb_NoPaper ?xd_NoPaper ?xm_NoPaper_HallError ?a_zad ?l_zad ?c_zad ?k_zad ?a_zac ?l_zac ?c_zac ?k_zac ?a_zaf ?l_zaf ?c_zaf ?k_zaf ?a_zab ?l_zab ?c_zab ?k_zab ?a_zaa ?l_zaa ?c_zaa ?k_zaa ?a_zam ?l_zam ?c_zam ?k_zam ?a_zaj ?l_zaj ?c_zaj ?k_zaj ?a_zae ?l_zae ?c_zae ?k_zae ?a_zak ?l_zak ?c_zak ?k_zak ?a_zal ?l_zal ?c_zal ?k_zal ?a_zan ?l_zan ?c_zan ?k_zan ?a_zah ?l_zah ?c_zah ?k_zah ?a_zag ?l_zag ?c_zag ?k_zag ?a_zai ?l_zai ?c_zai ?k_zai ?a_zao ?l_zao ?c_zao ?k_zao ?z_len ?z_range ?z_tuple ?z_list ?z_isinstance ?z_bool ?z_int ?z_str ?z_all ?z_sorted ?z_ValueError ?kit_int_bool ?kit_NoPaper_NoPaper ?kit_NoPaper_NoRow
  (case a_HallError=>k_is)
  (case a_NoPaper=>k_is)
  (case a_NoRow=>k_is)
  (case xq_NoPaper=>k_exc)
  (case xg_NoPaper=>k_is)
  (case xh_NoPaper=>k_is)
  (case xa_NoPaper=>k_is)
  (case xs_NoPaper=>k_is)
  (case xt_NoPaper=>k_is)
  (case xo_NoPaper=>k_is)
  (case xb_NoPaper=>k_is)
  (case xd_NoPaper=>k_is)
  (case xm_NoPaper_HallError=>kts_exm)
  (case a_zad=>k_is)
  (case l_zad=>k_is)
  (case c_zad=>k_is)
  (case k_zad=>k_is)
  (case a_zac=>k_is)
  (case l_zac=>k_is)
  (case c_zac=>k_is)
  (case k_zac=>k_is)
  (case a_zaf=>k_is)
  (case l_zaf=>k_is)
  (case c_zaf=>k_is)
  (case k_zaf=>k_is)
  (case a_zab=>k_is)
  (case l_zab=>k_is)
  (case c_zab=>k_is)
  (case k_zab=>k_is)
  (case a_zaa=>k_is)
  (case l_zaa=>k_is)
  (case c_zaa=>k_is)
  (case k_zaa=>k_is)
  (case a_zam=>k_is)
  (case l_zam=>k_is)
  (case c_zam=>k_is)
  (case k_zam=>k_is)
  (case a_zaj=>k_is)
  (case l_zaj=>k_is)
  (case c_zaj=>k_is)
  (case k_zaj=>k_is)
  (case a_zae=>k_is)
  (case l_zae=>k_is)
  (case c_zae=>k_is)
  (case k_zae=>k_is)
  (case a_zak=>k_is)
  (case l_zak=>k_is)
  (case c_zak=>k_is)
  (case k_zak=>k_is)
  (case a_zal=>k_is)
  (case l_zal=>k_is)
  (case c_zal=>k_is)
  (case k_zal=>k_is)
  (case a_zan=>k_is)
  (case l_zan=>k_is)
  (case c_zan=>k_is)
  (case k_zan=>k_is)
  (case a_zah=>k_is)
  (case l_zah=>k_is)
  (case c_zah=>k_is)
  (case k_zah=>k_is)
  (case a_zag=>k_is)
  (case l_zag=>k_is)
  (case c_zag=>k_is)
  (case k_zag=>k_is)
  (case a_zai=>k_is)
  (case l_zai=>k_is)
  (case c_zai=>k_is)
  (case k_zai=>k_is)
  (case a_zao=>k_is)
  (case l_zao=>k_is)
  (case c_zao=>k_is)
  (case k_zao=>k_is)
  (case z_len=>k_is)
  (case z_range=>k_is)
  (case z_tuple=>k_is)
  (case z_list=>k_is)
  (case z_isinstance=>k_is)
  (case z_bool=>k_is)
  (case z_int=>k_is)
  (case z_str=>k_is)
  (case z_all=>k_is)
  (case z_sorted=>k_is)
  (case z_ValueError=>k_is)
  (case kit_int_bool=>kit_is)
  (case kit_NoPaper_NoPaper=>kit_is)
  (case kit_NoPaper_NoRow=>kit_is)
