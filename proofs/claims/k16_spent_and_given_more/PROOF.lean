import PyProof.Rows.All
import Wide.All
import OpenK.AllK
import Wide.FinOn
import Lean
import PyProof.EqAt
import PyProof.EqKinds
import PyProof.TupleCall
import PyProof.Rows.FStrParts
import KE.KRevIter
import PyProof.CollectIter
import PyProof.SumWalkG
import KE.KDictOf
import PyProof.IsiH_list
import PyProof.RaisesAny
import PyProof.P3In
import PySem.Challenge.RW_sorthall_k16_spent_and_given_more
local macro_rules | `(tactic| omega)=>`(tactic| first | with_reducible assumption | lia | omega (splitDisjunctions:=true))
set_option Elab.async false
set_option linter.all false
set_option maxRecDepth 100000
open List renaming mem_cons→yAA,mem_cons_self→yAC,not_mem_nil→yAE,mem_singleton→yAF,length_append→yAJ,size_toArray→yAK,mem_cons_of_mem→yAL,length_cons→yAN,map_cons→yAO,length_map→yAP,nodup_cons→yAQ,getElem?_eq_some_iff→yAR,mem_append_right→yAS,getElem?_eq_getElem→yAT,getElem?_append_left→yAV,append_nil→yAW,getElem?_map→yAX,lookup_cons→yAY,length_nil→yBA,getElem?_append_right→yBB,mem_of_getElem?→yBC,of_mem_zip→yBE,length_replicate→yBF,nodup_nil→yBG
open Nat renaming le_refl→yAB,ne_of_lt→yAD,lt_of_lt_of_le→yAG,le_trans→yAH,le_succ→yAM,zero_le→yAU,lt_irrefl→yAZ,lt_succ_self→yBD
open Bool renaming false_ne_true→yAI
namespace L2
open PySem PySem.W
theorem left_boot {p q:Program} {loose:List Str} {Xt:Shared->Bool} {α:Type} {Yf:Shared->α} {Ya:World->α} {N:Nat} {g0:Bool}
  (open_:∀ w:World,(fencedOpening treeTable p w N).map (fun s=>(s.heap,s.gens,s.drawn,s.toks))=some (boot_heap w.params,Array.mk [],boot_drawn,boot_toks))
  (h:∀ (w:World) (os:OsState),(topFrom treeTable p w N ⟨boot_heap w.params,Array.mk [],boot_drawn,boot_toks,os⟩).map (fun s=>(openSeen q loose (importedModules p.main.body) Xt g0 s,Yf s))=some (openGood q loose,Ya w)):LeftO p q loose Xt Yf Ya N g0:=fun w=>by
 obtain ⟨⟨hh,gs,d,k,os⟩,e,e'⟩:=Option.map_eq_some_iff.mp (open_ w)
 obtain ⟨rfl,rfl,rfl,rfl⟩:hh=boot_heap w.params /\ gs=Array.mk [] /\ d=boot_drawn /\ k=boot_toks:=by simpa using e'
 unfold openEnds
 rw [e]
 exact h w os
theorem left_two {p q:Program} {loose:List Str} {Xt:Shared->Bool} {α:Type} {Yf:Shared->α} {Ya:World->α} {N:Nat} {g0:Bool}
  (open_:∀ w:World,(fencedOpening treeTable p w N).map (fun s=>(s.heap,s.gens,s.drawn,s.toks))=some (boot_heap w.params,Array.mk [],boot_drawn,boot_toks))
  (h1:∀ (w:World) (os:OsState),(topFrom treeTable p w N ⟨boot_heap w.params,Array.mk [],boot_drawn,boot_toks,os⟩).map (fun s=>openSeen q loose (importedModules p.main.body) Xt g0 s)=some (openGood q loose))
  (h2:∀ (w:World) (os:OsState),(topFrom treeTable p w N ⟨boot_heap w.params,Array.mk [],boot_drawn,boot_toks,os⟩).map (fun s=>Yf s)=some (Ya w)):LeftO p q loose Xt Yf Ya N g0 :=
 left_boot open_ fun w os=>by
  have a:=h1 w os
  have b:=h2 w os
  generalize topFrom treeTable p w N ⟨boot_heap w.params,Array.mk [],boot_drawn,boot_toks,os⟩=r at a b
  cases r with
  | none=>cases a
  | some s=>exact congrArg some (Prod.ext (Option.some.inj a) (Option.some.inj b))
noncomputable def s0B (w:World) (os:OsState):Shared:=⟨boot_heap w.params,Array.mk [],boot_drawn,boot_toks,os⟩
def ofLB:List Obj->Nat->BT->BT
 | [],_,t=>t
 | o::r,n,t=>ofLB r (n+1) (t.ins n o)
noncomputable def sTB (w:World) (os:OsState):SharedT:=⟨ofLB (boot_heap w.params).objs.toList 0 .nil,(boot_heap w.params).objs.size,(boot_heap w.params).life,Array.mk [],boot_drawn,boot_toks,os⟩
noncomputable def topRunQ (p:Program) (w:World) (n₀:Nat) (ann:Option Value):Nat->SharedT->Thread->Option SharedT
 | 0,_,_=>none
 | n+1,s,t=>match through t with
  | true=>some s
  | false=>match PySem.W.Fast.tw6613529449190102663 n₀ ann t with
   | false=>none
   | true=>match PySem.W.Fast.tw10156331382660048174 (PySem.W.Fast.tw11892475500146522536 PySem.W.Fast.tw14364793385576792824) p w s t with
    | some (s',t')=>topRunQ p w n₀ ann n s' t'
    | none=>none
theorem topRunQ_spec {p:Program} {w:World} {n₀:Nat} {ann:Option Value}:∀ {n:Nat} {s s':SharedT} {t:Thread},topRunQ p w n₀ ann n s t=some s'->topRun treeTable p w n₀ ann n s.abs t=some s'.abs
 | 0,_,_,_,h=>by cases h
 | n+1,s,s',t,h=>by
  unfold topRunQ at h
  rw [<- PySem.W.Fast.te6613529449190102663,<- PySem.W.Fast.te10156331382660048174,<- PySem.W.Fast.te11892475500146522536,<- PySem.W.Fast.te14364793385576792824] at h
  unfold topRun
  cases he:through t with
  | true=>rw [he] at h;cases h;rfl
  | false=>
   rw [he] at h
   cases hk:stepOk n₀ ann t with
   | false=>rw [hk] at h;cases h
   | true=>
    rw [hk] at h
    cases hs:stepT (denote treeTable) p w s t with
    | none=>rw [hs] at h;cases h
    | some r=>obtain ⟨s₂,t₂⟩:=r;rw [hs] at h;rw [stepT_spec hs];exact topRunQ_spec h
set_option maxHeartbeats 0 in
theorem sTB_abs:∀ (w:World) (os:OsState),(sTB w os).abs=s0B w os:=by
 intro w os
 kernel_rfl
set_option maxHeartbeats 0 in
theorem s0B_ns:∀ (w:World) (os:OsState),((s0B w os).heap.isNs mainGlobals && (s0B w os).gens.size == 0)=true:=by
 intro w os
 kernel_rfl
def topOkB (p:Program) (s₀ s₁:Shared):Bool:=staticsOk (importedModules p.main.body) s₀.heap s₁.heap && namesBound p s₁.heap && gensDone s₁ && laidKept s₀.heap s₁.heap
theorem via_tree {α:Type} {p:Program} {N:Nat} {F:Shared->α} {G:α} (w:World) (os:OsState)
  (h:(topRunQ p w (s0B w os).heap.objs.size ((s0B w os).heap.nsMap mainGlobals "__annotations__") N (sTB w os) (topStub p)).map (fun s=>(topOkB p (s0B w os) s.abs,F s.abs))=some (true,G)):(topFrom treeTable p w N ⟨boot_heap w.params,Array.mk [],boot_drawn,boot_toks,os⟩).map F=some G:=by
 obtain ⟨s',e1,e2⟩:=Option.map_eq_some_iff.mp h
 have r:=topRunQ_spec e1
 rw [sTB_abs] at r
 obtain ⟨e3,e4⟩:=Prod.mk.inj e2
 show (topFrom treeTable p w N (s0B w os)).map F=some G
 unfold topFrom
 rw [s0B_ns w os]
 dsimp only
 rw [r,Option.bind_some]
 unfold topOkB at e3
 rw [e3]
 exact congrArg some e4
def vw (p:Program) (ix:List Nat):Program:={ p with main:={ p.main with body:=ix.filterMap fun i=>p.main.body[i]? } }
def Vw:Program:=vw PySem.Challenge.pw_sorthall_k16_spent_and_given_more [0,2,3,4,5,6,7,8,9,10,12,14,15,17,18,19,20,21,22,23,24]
set_option maxHeartbeats 0 in
theorem seen1:∀ (w:World) (os:OsState),(topFrom treeTable PySem.Challenge.pw_sorthall_k16_spent_and_given_more w 6580 ⟨boot_heap w.params,Array.mk [],boot_drawn,boot_toks,os⟩).map (fun s=>openSeen L2.Vw [] (importedModules PySem.Challenge.pw_sorthall_k16_spent_and_given_more.main.body) (fun s=>xlAt L2.Vw [] s && recOk (RowW.records (OpenRow.toRowW (OpenLaw.row PySem.Challenge.rw_sorthall_k16_spent_and_given_more))) s) true s)=some (openGood L2.Vw []):=by
 intro w os
 refine via_tree w os ?_
 rw [PySem.W.Fast.te4187177175401517315]
 kernel_rfl
local macro_rules | `(tactic| o_law)=>`(tactic| refine holds_law (by decide +kernel) fun said=>?_)
set_option hygiene false in
local macro_rules | `(tactic| o_head $H)=>`(tactic| (refine holds_open (q:=L2.Vw) (loose:=[]) (Xt:=fun s=>xlAt L2.Vw [] s && recOk (RowW.records _) s) (XP:=XL L2.Vw []) (Yf:=Hook.obs $H) (Ya:=Hook.val $H) (YP:=Hook.says $H) (N:=6580) ?hl (Hook.of $H) (Hook.keeps $H) (fun s e=>xl_of s (Bool.and_eq_true_iff.mp e).1) XL.keeps (by rfl) (by rfl) (by rfl) (fun s e=>recFacts_of (Bool.and_eq_true_iff.mp e).2) (by rfl) (by first | assumption | decide +kernel) (by decide +kernel) ⟨rfl,rfl,rfl,rfl,rfl,by decide +kernel⟩ ?hw ?hc;(case hl=>(refine L2.left_two (PySem.W.boot_open (by rfl) (by decide) (fun s=>rfl)) (fun w os=>?h1) (fun w os=>?h2);(case h1=>exact L2.seen1 w os);(case h2=>(refine L2.via_tree w os ?_;kernel_rfl))))))
set_option maxHeartbeats 0 in
open_top hd0 for PySem.Challenge.rw_sorthall_k16_spent_and_given_more
end L2
namespace L2
open PySem PySem.Spec PyProof.Rows
abbrev Key:=Sum Int Str
def keyIs:Key->Value->Bool
 | .inl k,v=>Value.isInt k v
 | .inr x,v=>Value.isStrOf x v
def keyH (w:World):Key->Int
 | .inl k=>hashInt k
 | .inr x=>hashStr w x
theorem ZAe:∀ {k:Key} {v:Value},keyIs k v=true->(∃ i t,k=Sum.inl i /\ v=Value.int i t)∨(∃ x t,k=Sum.inr x /\ v=Value.str x t)
 | .inl i,v,h=>by
  obtain ⟨t,e⟩:=Value.isInt_shape (k:=i) (v:=v) h
  exact .inl ⟨i,t,rfl,e⟩
 | .inr x,v,h=>by
  obtain ⟨t,e⟩:=Value.isStrOf_shape (x:=x) (v:=v) h
  exact .inr ⟨x,t,rfl,e⟩
theorem key_ll (a b:Int):decide ((Sum.inl a:Key)=Sum.inl b)=(a == b):=by
 by_cases e:a=b
 .subst e;simp
 .have h:¬ (Sum.inl a:Key)=Sum.inl b:=fun q=>e (Sum.inl.inj q)
  rw [decide_eq_false h]
  exact (beq_eq_false_iff_ne.mpr e).symm
theorem key_rr (a b:Str):decide ((Sum.inr a:Key)=Sum.inr b)=decide (a=b):=by
 by_cases e:a=b
 .subst e;simp
 .have h:¬ (Sum.inr a:Key)=Sum.inr b:=fun q=>e (Sum.inr.inj q)
  rw [decide_eq_false h,decide_eq_false e]
theorem key_lr (a:Int) (b:Str):decide ((Sum.inl a:Key)=Sum.inr b)=false:=decide_eq_false (fun q=>nomatch q)
theorem key_rl (a:Str) (b:Int):decide ((Sum.inr a:Key)=Sum.inl b)=false:=decide_eq_false (fun q=>nomatch q)
def mixKind (prog:Program) (w:World):PySem.KeyKind prog w Key where
 is:=keyIs
 hash:=keyH w
 inj:=fun v a b ha hb=>by
  rcases ZAe ha with ⟨i,t,rfl,rfl⟩ | ⟨x,t,rfl,rfl⟩
  .rcases ZAe hb with ⟨j,u,rfl,e⟩ | ⟨y,u,rfl,e⟩
   .injection e with e1 _;rw [e1]
   .exact nomatch e
  .rcases ZAe hb with ⟨j,u,rfl,e⟩ | ⟨y,u,rfl,e⟩
   .exact nomatch e
   .injection e with e1 _;rw [e1]
 byValue:=fun k v h=>by
  rcases ZAe h with ⟨i,t,rfl,rfl⟩ | ⟨x,t,rfl,rfl⟩ <;> rfl
 pyHash:=fun hv h=>by
  rcases ZAe hv with ⟨i,t,rfl,rfl⟩ | ⟨x,t,rfl,rfl⟩
  .exact wpAny_pyHash_int h
  .exact wpAny_pyHash_str h
 eqBool:=fun hu hv h=>by
  rcases ZAe hu with ⟨i,t,rfl,rfl⟩ | ⟨x,t,rfl,rfl⟩
  .rcases ZAe hv with ⟨j,u,rfl,rfl⟩ | ⟨y,u,rfl,rfl⟩
   .rw [key_ll] at h;exact wpAny_eqBool_int h
   .rw [key_lr] at h;exact SeqAt.EqAt.int_str i t y u _ _ _ _ h
  .rcases ZAe hv with ⟨j,u,rfl,rfl⟩ | ⟨y,u,rfl,rfl⟩
   .rw [key_rl] at h;exact SeqAt.EqAt.str_int x t j u _ _ _ _ h
   .rw [key_rr] at h;exact wpAny_eqBool_str h
 «strs»:=fun k x t v h=>by
  rcases ZAe h with ⟨i,u,rfl,e⟩ | ⟨y,u,rfl,e⟩
  .exact nomatch e
  .injection e with e1 _
   subst e1
   cases v <;> rfl
inductive V where
 | non | bl (b:Bool) | int (i:Int) | str (x:Str) | byt (b:Array UInt8) | flt (b:UInt64) | ref (a:Addr) | ty (n:String)
 deriving DecidableEq
def RelV:V->Value->Prop
 | .non,u=>u=Value.none
 | .bl b,u=>u=Value.bool b
 | .int i,u=>∃ t,u=Value.int i t
 | .str x,u=>∃ t,u=Value.str x t
 | .byt b,u=>∃ t,u=Value.bytes b t
 | .flt b,u=>∃ t,u=Value.float b t
 | .ref a,u=>u=Value.ref a
 | .ty n,u=>u=Value.type n
abbrev Vals:List V->List Value->Prop:=Paired RelV
theorem Vals.length {xs:List V} {us:List Value} (r:Vals xs us):xs.length=us.length:=Paired.length r
theorem Vals.get:∀ {xs:List V} {us:List Value} {i:Nat} {x:V},Vals xs us->xs[i]?=some x->∃ u,us[i]?=some u /\ RelV x u
 | _,_,_,_,.nil,e=>by simp at e
 | _,_,0,_,.cons r _,e=>by simp at e;subst e;exact ⟨_,rfl,r⟩
 | _,_,i+1,x,.cons _ t,e=>by
  obtain ⟨u,h1,h2⟩:=Vals.get (i:=i) (x:=x) t (by simpa using e)
  exact ⟨u,by simpa using h1,h2⟩
theorem Vals.set {x:V} {u:Value} (r:RelV x u):∀ {xs:List V} {us:List Value} (i:Nat),Vals xs us->Vals (xs.set i x) (us.set i u)
 | _,_,_,.nil=>.nil
 | _,_,0,.cons _ t=>.cons r t
 | _,_,i+1,.cons q t=>.cons q (Vals.set r i t)
theorem Vals.append:∀ {xs ys:List V} {us ws:List Value},Vals xs us->Vals ys ws->Vals (xs++ys) (us++ws)
 | _,_,_,_,.nil,s=>s
 | _,_,_,_,.cons r t,s=>.cons r (Vals.append t s)
theorem Vals.take:∀ {xs:List V} {us:List Value} (n:Nat),Vals xs us->Vals (xs.take n) (us.take n)
 | _,_,0,_=>.nil
 | _,_,_+1,.nil=>.nil
 | _,_,n+1,.cons r t=>.cons r (Vals.take n t)
theorem Vals.drop:∀ {xs:List V} {us:List Value} (n:Nat),Vals xs us->Vals (xs.drop n) (us.drop n)
 | _,_,0,r=>r
 | _,_,_+1,.nil=>.nil
 | _,_,n+1,.cons _ t=>Vals.drop n t
def RelO:Option V->Option Value->Prop
 | some v,some u=>RelV v u
 | none,none=>True
 | _,_=>False
def KV {κ:Type}:List (κ×V)->List (κ×Value)->Prop:=Paired fun (p:κ×V) (q:κ×Value)=>p.1=q.1 /\ RelV p.2 q.2
def kV:Key->V
 | .inl i=>.int i
 | .inr x=>.str x
inductive HO where
 | lst (xs:List V)
 | tup (xs:List V)
 | dK (kvs:List (Key×V)) | dT (kvs:List (List Key×V))
 | set (S:Int->Bool) (n:Nat)
 | ins (C dx:Addr) (fs:List (Str×V))
 | own (x:Addr)
 | xd (fs:List (Str×V))
 | met (f x:Addr)
 | rng (lo hi:Int)
 | frz (o:Obj) (u:HO)
 | tbl (ps:Array Value)
 | ext (φ:Heap->Prop)
abbrev Hp:=Addr->Option HO
def upd (H:Hp) (a:Addr) (o:HO):Hp:=fun b=>if b=a then some o else H b
theorem ZAG {H:Hp} {a:Addr} {o:HO}:upd H a o a=some o:=by unfold upd;rw [if_pos rfl]
theorem ZAC {H:Hp} {a b:Addr} {o:HO} (h:b≠a):upd H a o b=H b:=by unfold upd;rw [if_neg h]
theorem ZAF {H:Hp} {a b:Addr} {o:HO} (h:H a=some o) (h':H b=none):a≠b:=by
 intro e;subst e;rw [h] at h';cases h'
section
variable (P:Program) (w:World)
def ObjOk (H:Hp) (h:Heap) (a:Addr):HO->Prop
 | .lst xs=>xs.length <= sizeLine /\ ∃ (its:List Value) (n:Nat),Vals xs its /\ h.get? a=some { cls:=.type "list",data:=.seq its.toArray n }
 | .tup xs=>xs.length <= sizeLine /\ ∃ its:List Value,Vals xs its /\ IsTup h a its.toArray
 | .dK kvs=>kvs.length <= sizeLine /\ (a == sysModules)=false /\ ∃ vs,KV kvs vs /\ h.DictOf (mixKind P w) a vs
 | .dT kvs=>kvs.length <= sizeLine /\ (a == sysModules)=false /\ ∃ xs:List (List Key×Addr×Value),
   Paired (fun (p:List Key×V) (q:List Key×Addr×Value)=>p.1=q.1 /\ H q.2.1=some (.tup (p.1.map kV)) /\ RelV p.2 q.2.2) kvs xs /\
   ∃ o es ep,h.get? a=some o /\ o.ExactDict /\ o.data=.dict es ep /\ es.toList=xs.map (entryOfKey (tupleKind (mixKind P w))) /\ (xs.map (·.1)).Nodup
 | .set S n=>h.SetOf (intKind P w) a S n
 | .ins C dx fs=>H dx=some (.own a) /\ fs.length <= 1000 /\ dx≠a /\ h.get? a=some (PySem.W.instObj C dx) /\
   ∃ mA,h.Ns1 dx mA /\ (∀ f,RelO (fs.lookup f) (mA f)) /\ PySem.Within mA (fs.map (·.1))
 | .own _=>∃ o,h.get? a=some o
 | .xd fs=>∃ mA,h.Ns1 a mA /\ ∀ f,RelO (fs.lookup f) (mA f)
 | .rng lo hi=>∃ t u v,h.get? a=some { cls:=.type "range",data:=.fields #[.int lo t,.int hi u,.int 1 v] }
 | .frz o u=>h.get? a=some o /\ ObjOk H h a u
 | .tbl ps=>h.get? a=some { cls:=.none,data:=.fields ps }
 | .met f x=>h.get? a=some (PySem.W.methodObj (.ref f) (.ref x))
 | .ext φ=>φ h /\ (∃ o,h.get? a=some o) /\ ∀ h1 h2:Heap,φ h1->(∀ o,h1.get? a=some o->h2.get? a=some o)->φ h2
def HOk (H:Hp) (h:Heap):Prop:=∀ a o,H a=some o->ObjOk P w H h a o
end
section
variable {P:Program} {w:World} {H H':Hp} {h h':Heap} {a:Addr} {o:HO}
theorem ObjOk.lt (x:ObjOk P w H h a o):a < h.objs.size:=by
 cases o with
 | lst xs=>obtain ⟨_,_,_,_,e⟩:=x;exact Heap.lt_size e
 | tup xs=>obtain ⟨_,_,_,p⟩:=x;exact p.lt
 | dK kvs=>obtain ⟨_,_,_,_,o,_,_,e,_⟩:=x;exact Heap.lt_size e
 | dT kvs=>obtain ⟨_,_,_,_,o,_,_,e,_⟩:=x;exact Heap.lt_size e
 | set S n=>obtain ⟨o,_,_,_,e,_⟩:=x;exact Heap.lt_size e
 | ins C dx fs=>obtain ⟨_,_,_,e,_⟩:=x;exact Heap.lt_size e
 | own y=>obtain ⟨_,e⟩:=x;exact Heap.lt_size e
 | xd fs=>obtain ⟨_,⟨_,_,_,e,_⟩,_⟩:=x;exact Heap.lt_size e
 | rng lo hi=>obtain ⟨_,_,_,e⟩:=x;exact Heap.lt_size e
 | frz ob u=>obtain ⟨e,_⟩:=x;exact Heap.lt_size e
 | tbl ps=>exact Heap.lt_size (show h.get? a=some _ from x)
 | met f y=>exact Heap.lt_size (show h.get? a=some _ from x)
 | ext φ=>obtain ⟨_,⟨_,e⟩,_⟩:=x;exact Heap.lt_size e
theorem Paired.mapP {α β:Type} {F G:α->β->Prop}:∀ {l₁:List α} {l₂:List β},Paired F l₁ l₂->(∀ a b,F a b->G a b)->Paired G l₁ l₂
 | _,_,.nil,_=>.nil
 | _,_,.cons r t,f=>.cons (f _ _ r) (Paired.mapP t f)
theorem ObjOk.stay (x:ObjOk P w H h a o) (k:∀ b u,(b=a∨H b=some (.own a))->h.get? b=some u->h'.get? b=some u)
  (ho:∀ b,H b=some (.own a)->H' b=some (.own a)) (ht:∀ b xs,H b=some (.tup xs)->H' b=some (.tup xs)):ObjOk P w H' h' a o:=by
 induction o with
 | lst xs=>obtain ⟨z,its,n,r,e⟩:=x;exact ⟨z,its,n,r,k _ _ (.inl rfl) e⟩
 | tup xs=>obtain ⟨z,its,r,ob,e,c⟩:=x;exact ⟨z,its,r,ob,k _ _ (.inl rfl) e,c⟩
 | dK kvs=>obtain ⟨z,y,vs,r,ob,es,ep,e,c⟩:=x;exact ⟨z,y,vs,r,ob,es,ep,k _ _ (.inl rfl) e,c⟩
 | dT kvs=>
  obtain ⟨z,y,xs,r,ob,es,ep,e,c⟩:=x
  exact ⟨z,y,xs,Paired.mapP r fun p q z=>⟨z.1,ht _ _ z.2.1,z.2.2⟩,ob,es,ep,k _ _ (.inl rfl) e,c⟩
 | set S n=>obtain ⟨ob,es,ep,t,e,c⟩:=x;exact ⟨ob,es,ep,t,k _ _ (.inl rfl) e,c⟩
 | ins C dx fs=>
  obtain ⟨d,z,ne,e,mA,⟨od,es,ep,e2,c⟩,r⟩:=x
  exact ⟨ho _ d,z,ne,k _ _ (.inl rfl) e,mA,⟨od,es,ep,k _ _ (.inr d) e2,c⟩,r⟩
 | own y=>obtain ⟨ob,e⟩:=x;exact ⟨ob,k _ _ (.inl rfl) e⟩
 | xd fs=>obtain ⟨mA,⟨od,es,ep,e,c⟩,r⟩:=x;exact ⟨mA,⟨od,es,ep,k _ _ (.inl rfl) e,c⟩,r⟩
 | rng lo hi=>obtain ⟨t,u,v,e⟩:=x;exact ⟨t,u,v,k _ _ (.inl rfl) e⟩
 | frz ob u ih=>obtain ⟨e,q⟩:=x;exact ⟨k _ _ (.inl rfl) e,ih q⟩
 | tbl ps=>
  have e:h.get? a=some { cls:=.none,data:=.fields ps }:=x
  show h'.get? a=some { cls:=.none,data:=.fields ps }
  exact k a _ (.inl rfl) e
 | met f y=>
  have e:h.get? a=some (PySem.W.methodObj (.ref f) (.ref y)):=x
  show h'.get? a=some (PySem.W.methodObj (.ref f) (.ref y))
  exact k a _ (.inl rfl) e
 | ext φ=>obtain ⟨p,⟨o,e⟩,st⟩:=x;exact ⟨st _ _ p fun o q=>k _ _ (.inl rfl) q,⟨o,k _ _ (.inl rfl) e⟩,st⟩
theorem HOk.lt (x:HOk P w H h) (e:H a=some o):a < h.objs.size:=(x a o e).lt
theorem HOk.fresh (x:HOk P w H h) (e:h.objs.size <= a):H a=none:=by
 cases q:H a with
 | none=>rfl
 | some u=>exact absurd (yAG (x.lt q) e) (yAZ _)
theorem HOk.kept (x:HOk P w H h) (k:∀ b u,h.get? b=some u->h'.get? b=some u):HOk P w H h':=fun a o e=>
 (x a o e).stay (fun b u _ q=>k b u q) (fun _ q=>q) fun _ _ q=>q
theorem HOk.laid (x:HOk P w H h) (k:∀ b u,h.get? b=some u->h'.get? b=some u) (hp:h.objs.size <= a) (new:ObjOk P w (upd H a o) h' a o):HOk P w (upd H a o) h':=fun b u e=>by
 have hn:=x.fresh hp
 by_cases hb:b=a
 .subst hb;rw [ZAG] at e;cases e;exact new
 .rw [ZAC hb] at e
  exact (x b u e).stay (fun c v _ q=>k c v q) (fun c q=>by rw [ZAC (ZAF q hn)];exact q) fun c xs q=>by rw [ZAC (ZAF q hn)];exact q
end
def Rd (H:Hp) (a:Addr) (u:HO):Prop:=H a=some u∨∃ o,H a=some (.frz o u)
theorem Rd.ok {P:Program} {w:World} {H:Hp} {h:Heap} {a:Addr} {u:HO} (r:Rd H a u) (x:HOk P w H h):ObjOk P w H h a u:=by
 rcases r with r | ⟨o,r⟩
 .exact x a u r
 .obtain ⟨_,q⟩:=x a _ r
  exact q
def Mut:Option HO->Prop
 | some (.lst _)=>True
 | some (.dK _)=>True
 | some (.dT _)=>True
 | some (.set _ _)=>True
 | some (.ins _ _ _)=>True
 | some (.ext _)=>True
 | _=>False
section
variable {P:Program} {w:World} {H:Hp} {h h':Heap} {x e:Addr} {o':HO}
theorem HOk.write (ok:HOk P w H h) (mu:Mut (H x)) (he:e=x∨H e=some (.own x)) (k:∀ b u,b≠e->h.get? b=some u->h'.get? b=some u) (heo:∃ u,h'.get? e=some u)
  (new:ObjOk P w (upd H x o') h' x o'):HOk P w (upd H x o') h':=fun b u q=>by
 have nown:∀ c y,H c=some (.own y)->c≠x:=fun c y r z=>by subst z;rw [r] at mu;exact mu
 have ntup:∀ c xs,H c=some (.tup xs)->c≠x:=fun c xs r z=>by subst z;rw [r] at mu;exact mu
 by_cases hb:b=x
 .subst hb;rw [ZAG] at q;cases q;exact new
 .rw [ZAC hb] at q
  by_cases hbe:b=e
  .have q':H b=some (.own x):=by
    rcases he with z | z
    .exact absurd (hbe.trans z) hb
    .rw [hbe];exact z
   rw [q] at q';cases q'
   obtain ⟨v,hv⟩:=heo
   exact ⟨v,by rw [hbe];exact hv⟩
  .refine (ok b u q).stay (fun c v hc r=>k c v ?_ r) (fun c r=>by rw [ZAC (nown c b r)];exact r) fun c xs r=>by rw [ZAC (ntup c xs r)];exact r
   rcases hc with rfl | hc
   .exact hbe
   .rintro rfl
    rcases he with z | z
    .exact nown c b hc z
    .rw [hc] at z;cases z;exact hb rfl
end
structure Un (fs ex:List Addr) (H H':Hp) (h h':Heap):Prop where
 keep:∀ b o,h.get? b=some o->H b=none->b∉fs->b∉ex->h'.get? b=some o
 slot:∀ b o,h.get? b=some o->H b=none->b∈fs->b∉ex->∃ sl,h'.get? b=some { o with slots:=sl }
 free:∀ b o,h.get? b=some o->H b=none->b∉ex->H' b=none
 there:∀ b o,h.get? b=some o->b∉ex->∃ o',h'.get? b=some o'
 tups:∀ b xs,H b=some (.tup xs)->H' b=some (.tup xs)
 frzs:∀ b o u,H b=some (.frz o u)->H' b=some (.frz o u)
 tbls:∀ b ps,H b=some (.tbl ps)->∃ more,H' b=some (.tbl (ps++more))
section
variable {fs fs' ex ex':List Addr} {H H1 H2:Hp} {h h1 h2 h':Heap} {a x e:Addr} {o:HO}
theorem Un.any (u:Un fs ex H H1 h h1) {b:Addr} {ob:Obj} (q:h.get? b=some ob) (n:H b=none) (hx:b∉ex):∃ sl,h1.get? b=some { ob with slots:=sl }:=by
 by_cases hb:b∈fs
 .exact u.slot b ob q n hb hx
 .exact ⟨ob.slots,u.keep b ob q n hb hx⟩
theorem Un.trans (a:Un fs ex H H1 h h1) (b:Un fs ex H1 H2 h1 h2):Un fs ex H H2 h h2 where
 keep:=fun c ob q n hc hx=>b.keep c ob (a.keep c ob q n hc hx) (a.free c ob q n hx) hc hx
 slot:=fun c ob q n hc hx=>by
  obtain ⟨sl,e1⟩:=a.slot c ob q n hc hx
  obtain ⟨sl',e2⟩:=b.slot c _ e1 (a.free c ob q n hx) hc hx
  exact ⟨sl',e2⟩
 free:=fun c ob q n hx=>by
  obtain ⟨o',e1⟩:=a.there c ob q hx
  exact b.free c o' e1 (a.free c ob q n hx) hx
 there:=fun c ob q hx=>by
  obtain ⟨o',e1⟩:=a.there c ob q hx
  exact b.there c o' e1 hx
 tups:=fun c xs q=>b.tups c xs (a.tups c xs q)
 frzs:=fun c ob xs q=>b.frzs c ob xs (a.frzs c ob xs q)
 tbls:=fun c ps q=>by
  obtain ⟨m1,e1⟩:=a.tbls c ps q
  obtain ⟨m2,e2⟩:=b.tbls c _ e1
  exact ⟨m1++m2,by rw [e2,Array.append_assoc]⟩
theorem Un.kept (k:∀ b u,h.get? b=some u->h'.get? b=some u):Un fs ex H H h h' :=
 ⟨fun b ob q _ _ _=>k b ob q,fun b ob q _ _ _=>⟨ob.slots,k b ob q⟩,fun _ _ _ n _=>n,fun b ob q _=>⟨ob,k b ob q⟩,fun _ _ q=>q,fun _ _ _ q=>q,fun _ ps q=>⟨#[],by rw [q];simp⟩⟩
theorem Un.refl:Un fs ex H H h h:=Un.kept fun _ _ q=>q
theorem Un.laid (k:∀ b u,h.get? b=some u->h'.get? b=some u) (hp:h.objs.size <= a) (hn:H a=none):Un fs ex H (upd H a o) h h' where
 keep:=fun b u q _ _ _=>k b u q
 slot:=fun b u q _ _ _=>⟨u.slots,k b u q⟩
 free:=fun b u q n _=>by rw [ZAC (yAD (yAG (Heap.lt_size q) hp))];exact n
 there:=fun b u q _=>⟨u,k b u q⟩
 tups:=fun b xs q=>by rw [ZAC (ZAF q hn)];exact q
 frzs:=fun b u xs q=>by rw [ZAC (ZAF q hn)];exact q
 tbls:=fun b ps q=>⟨#[],by rw [ZAC (ZAF q hn),q];simp⟩
theorem Un.write (mu:Mut (H x)) (he:e=x∨H e=some (.own x)) (k:∀ b u,b≠e->h.get? b=some u->h'.get? b=some u) (heo:∃ u,h'.get? e=some u):Un fs ex H (upd H x o) h h':=by
 have hx:∀ b,H b=none->b≠x:=fun b n z=>by subst z;rw [n] at mu;exact mu
 have hb:∀ b,H b=none->b≠e:=fun b n z=>by
  subst z
  rcases he with r | r
  .exact hx b n r
  .rw [n] at r;cases r
 have hm:∀ b u,H b=some u->¬ Mut (some u)->b≠x:=fun b u q nm z=>by subst z;rw [q] at mu;exact nm mu
 refine ⟨fun b u q n _ _=>k b u (hb b n) q,fun b u q n _ _=>⟨u.slots,k b u (hb b n) q⟩,fun b u q n _=>by rw [ZAC (hx b n)];exact n,fun b u q _=>?_,
  fun b xs q=>by rw [ZAC (hm b _ q fun z=>z)];exact q,fun b u xs q=>by rw [ZAC (hm b _ q fun z=>z)];exact q,fun b ps q=>⟨#[],by rw [ZAC (hm b _ q fun z=>z),q];simp⟩⟩
 by_cases hbe:b=e
 .subst hbe;exact heo
 .exact ⟨u,k b u hbe q⟩
end
def trk (h:Heap) (H:Hp):List Addr:=(List.range h.objs.size).filter fun a=>(H a).isSome
def hidT (h:Heap) (H:Hp):Heap:=PySem.W.hideAll h (trk h H)
theorem hidT_size (h:Heap) (H:Hp):(hidT h H).objs.size=h.objs.size:=PySem.W.hideAll_size _ _
theorem hidT_get {h:Heap} {H:Hp} {b:Addr} {o:Obj} (e:h.get? b=some o) (n:H b=none):(hidT h H).get? b=some o :=
 PySem.W.hideAll_get _ e fun hm=>by
  have q:(H b).isSome=true:=(List.mem_filter.mp hm).2
  rw [n] at q;simp at q
theorem of_hidT {h:Heap} {H:Hp} {b:Addr} {o:Obj} (e:(hidT h H).get? b=some o):h.get? b=some o /\ H b=none:=by
 have e':h.get? b=some o:=PySem.W.of_hideAll (trk h H) e
 refine ⟨e',?_⟩
 cases q:H b with
 | none=>rfl
 | some x=>
  have hm:b∈trk h H:=List.mem_filter.mpr ⟨List.mem_range.mpr (Heap.lt_size e'),by simp [q]⟩
  have z:(hidT h H).get? b=none:=PySem.W.hideAll_none (trk h H) hm
  rw [z] at e;cases e
structure Mod (K:W.Frag) (mg:Str->Option Value) (base:Heap):Prop where
 kin:K.In base
 glob:base.Ns mainGlobals mg
 blt:∃ mb,base.Ns builtinsNs mb /\ ∀ x:Str,x≠"__name__"->mb x=bootBuiltins x
 nolimit:base.NoLimit
structure Cx where
 prog:Program
 w:World
 K:W.Frag
 mg:Str->Option Value
 base:Heap
 A:Around
 N:List Str
 s₀:Shared
 H₀:Hp
 env:Env
 outer:List Env
 stack:List Env
 ex:List Addr
 fn:Str->Bool
 calm:Bool
 pn:List (Addr×Obj)
 xe:Value->Shared->Prop
def frs (l:List Env):List Addr:=l.filterMap (·.frame)
abbrev Cx.fs (X:Cx):List Addr:=frs X.outer
def Vis (sc:Scope) (x:Str):Prop:=sc.names.lookup x=some .local∨sc.names.lookup x=some .cell∨sc.names.lookup x=some .free
def Loc (sc:Scope) (x:Str):Prop:=sc.names.lookup x=some .local∨sc.names.lookup x=some .cell
def Look (env:Env) (h:Heap) (m:Str->Option Value) (x:Str) (u:Value):Prop :=
 (env.kindOf x=some .local /\ m x=some u)∨((env.kindOf x=some .cell∨env.kindOf x=some .free) /\ ∃ c,env.cells.lookup x=some c /\ h.IsCell c (some u))
structure Cx.Ok (X:Cx):Prop where
 mod:Mod X.K X.mg X.base
 kind:X.env.scope.kind=.function
 glob:X.env.globals=mainGlobals
 blt:X.env.builtins=builtinsNs
 above:X.s₀.heap.objs.size <= X.env.locals
 inj:∀ x y c,X.env.cells.lookup x=some c->X.env.cells.lookup y=some c->x=y
 has:∀ x,(X.env.kindOf x=some .cell∨X.env.kindOf x=some .free)->∃ c,X.env.cells.lookup x=some c
 cab:∀ x c,X.fn x=true->X.env.cells.lookup x=some c->X.s₀.heap.objs.size <= c
 hd:X.calm=true->X.A.handled=none
 frames:X.A.frames=some X.stack
 stk:X.stack=X.outer∨(X.stack=X.env::X.outer /\ X.env.frame=some X.env.locals)
 exf:∀ b∈X.ex,b≠X.env.locals /\ ∀ x c,X.env.cells.lookup x=some c->c≠b
 bs:∀ b o,X.base.get? b=some o->X.s₀.heap.get? b=some o /\ X.H₀ b=none
 bsz:X.base.objs.size <= X.s₀.heap.objs.size
 noex:∀ b o,X.base.get? b=some o->b∉X.ex
 exfs:∀ b∈X.ex,b∉X.fs
 funs:X.s₀.heap.FunFrames X.base X.outer
 frf:∀ b∈X.fs,X.H₀ b=none
structure Inv (X:Cx) (pins:List (Addr×Obj)) (σ:List (Option V)) (H:Hp) (s:Shared):Prop where
 ok:X.Ok
 os:s.os=X.s₀.os
 bare:AllBare s.gens
 base:Un X.fs X.ex X.H₀ H X.s₀.heap s.heap
 loc:∃ m,s.heap.Ns X.env.locals m /\ ∀ (i:Nat) (x:Str) (v:V),X.N[i]?=some x->σ[i]?=some (some v)->Vis X.env.scope x->∃ u,RelV v u /\ Look X.env s.heap m x u
 cell:∀ x c,X.env.cells.lookup x=some c->∃ v,s.heap.IsCell c v
 free:H X.env.locals=none
 freeC:∀ x c,X.env.cells.lookup x=some c->H c=none
 pin:∀ p∈X.pn++pins,s.heap.get? p.1=some p.2 /\ H p.1=none /\ p.1≠X.env.locals /\ p.1∉X.fs /\ ∀ v,p.2.data≠.cell v
 hok:HOk X.prog X.w H s.heap
 len:σ.length=X.N.length
section
variable {X:Cx} {pins:List (Addr×Obj)} {σ:List (Option V)} {H H':Hp} {s:Shared} {h':Heap}
theorem Cx.Ok.nofr (ok:X.Ok) {b:Addr} {o:Obj} (e:X.base.get? b=some o):b∉X.fs:=fun hb=>by
 have:=(ok.funs.mem hb).1
 rw [e] at this;cases this
theorem Inv.bs (I:Inv X pins σ H s):∀ b o,X.base.get? b=some o->s.heap.get? b=some o /\ H b=none:=fun b o e=>
 ⟨I.base.keep b o (I.ok.bs b o e).1 (I.ok.bs b o e).2 (I.ok.nofr e) (I.ok.noex b o e),I.base.free b o (I.ok.bs b o e).1 (I.ok.bs b o e).2 (I.ok.noex b o e)⟩
theorem Inv.bk (I:Inv X pins σ H s):∀ b o,X.base.get? b=some o->s.heap.get? b=some o:=fun b o e=>(I.bs b o e).1
theorem Inv.mod (I:Inv X pins σ H s):Mod X.K X.mg X.base:=I.ok.mod
theorem Inv.kIn (I:Inv X pins σ H s):X.K.In s.heap:=I.ok.mod.kin.keeps I.bk
theorem Inv.lt (I:Inv X pins σ H s):X.env.locals < s.heap.objs.size:=let ⟨_,hn,_⟩:=I.loc;hn.lt
theorem Inv.sz (I:Inv X pins σ H s):X.s₀.heap.objs.size <= s.heap.objs.size:=yAH I.ok.above (Nat.le_of_lt I.lt)
theorem Inv.nofs (I:Inv X pins σ H s) {a:Addr} (h:s.heap.objs.size <= a):a∉X.fs:=fun hb=>by
 obtain ⟨_,o,ho,_⟩:=I.ok.funs.mem hb
 exact absurd (yAG (Heap.lt_size ho) (yAH I.sz h)) (yAZ _)
theorem Inv.cne (I:Inv X pins σ H s):∀ x c,X.env.cells.lookup x=some c->c≠X.env.locals:=fun x c e z=>by
 obtain ⟨v,o,ho,hd⟩:=I.cell x c e
 obtain ⟨m,⟨o',es,ep,ho',hd',_⟩,_⟩:=I.loc
 rw [z,ho'] at ho;cases ho;rw [hd'] at hd;cases hd
theorem Inv.funs (I:Inv X pins σ H s):s.heap.FunFrames X.base X.outer:=by
 have all:∀ (l:List Env),(∀ b∈frs l,b∈X.fs)->X.s₀.heap.FunFrames X.base l->s.heap.FunFrames X.base l:=by
  intro l
  induction l with
  | nil=>intro _ _;trivial
  | cons env r ih=>
   intro hs hl
   obtain ⟨hk,⟨L,o,hf,hn,ho,hd⟩,hr⟩:=hl
   have hL:L∈X.fs:=hs L (by unfold frs;rw [List.filterMap_cons,hf];exact yAC)
   obtain ⟨sl,e⟩:=I.base.slot L o ho (I.ok.frf L hL) hL fun z=>I.ok.exfs L z hL
   exact ⟨hk,⟨L,_,hf,hn,e,hd⟩,ih (fun b hb=>hs b (by unfold frs;rw [List.filterMap_cons,hf];exact yAL _ hb)) hr⟩
 exact all X.outer (fun _ hb=>hb) I.ok.funs
theorem Inv.stack (I:Inv X pins σ H s):s.heap.FunFrames X.base X.stack:=by
 rcases I.ok.stk with e | ⟨e,hf⟩
 .rw [e];exact I.funs
 .rw [e]
  obtain ⟨m,hn,_⟩:=I.loc
  refine .cons (by rw [I.ok.kind];decide) hf hn ?_ I.funs
  exact Heap.get?_none_of_le (yAH I.ok.bsz I.ok.above)
theorem Inv.stkSub (I:Inv X pins σ H s):∀ b∈frs X.stack,b∈X.env.locals::X.fs:=fun b hb=>by
 rcases I.ok.stk with e | ⟨e,hf⟩
 .rw [e] at hb;exact yAL _ hb
 .rw [e] at hb
  unfold frs at hb
  rw [List.filterMap_cons,hf] at hb
  exact hb
theorem Inv.stkFree (I:Inv X pins σ H s):∀ b∈frs X.stack,H b=none:=fun b hb=>by
 rcases yAA.mp (I.stkSub b hb) with e | hb
 .rw [e];exact I.free
 .obtain ⟨_,o,ho,_⟩:=I.ok.funs.mem hb
  exact I.base.free b o ho (I.ok.frf b hb) fun z=>I.ok.exfs b z hb
theorem Inv.step {g':Array GenState} {t':Nat} {d':Drawn} {ch:List Addr} (I:Inv X pins σ H s)
  (hch:∀ b∈ch,(b∈X.ex∨X.s₀.heap.objs.size <= b) /\ b≠X.env.locals /\ (∀ x c,X.env.cells.lookup x=some c->c≠b) /\ ∀ p∈X.pn++pins,p.1≠b)
  (keep:∀ b o,b≠X.env.locals->b∉X.fs->b∉ch->s.heap.get? b=some o->H b=none->h'.get? b=some o)
  (slot:∀ b o,b≠X.env.locals->b∈X.fs->b∉ch->s.heap.get? b=some o->H b=none->∃ sl,h'.get? b=some { o with slots:=sl }) (free:∀ b o,b∉ch->s.heap.get? b=some o->H b=none->H' b=none)
  (there:∀ b o,b∉ch->s.heap.get? b=some o->∃ o',h'.get? b=some o')
  (tups:∀ b xs,H b=some (.tup xs)->H' b=some (.tup xs)) (frzs:∀ b o u,H b=some (.frz o u)->H' b=some (.frz o u)) (tbls:∀ b ps,H b=some (.tbl ps)->∃ more,H' b=some (.tbl (ps++more)))
  (ns:∀ m,s.heap.Ns X.env.locals m->h'.Ns X.env.locals m) (hok:HOk X.prog X.w H' h') (hg:AllBare g') :
  Inv X pins σ H' { s with heap:=h',gens:=g',drawn:=d',toks:=t' }:=by
 have neL:∀ b o,X.s₀.heap.get? b=some o->b≠X.env.locals:=fun b o e=>yAD (yAG (Heap.lt_size e) I.ok.above)
 have neC:∀ b o,X.s₀.heap.get? b=some o->b∉X.ex->b∉ch:=fun b o e hx hb=>by
  rcases (hch b hb).1 with z | z
  .exact hx z
  .exact absurd (yAG (Heap.lt_size e) z) (yAZ _)
 have cellK:∀ x c,X.env.cells.lookup x=some c->∀ v,s.heap.IsCell c v->h'.IsCell c v:=fun x c e v ⟨o,ho,hd⟩=>by
  have nch:c∉ch:=fun z=>(hch c z).2.2.1 x c e rfl
  by_cases hc:c∈X.fs
  .obtain ⟨sl,q⟩:=slot c o (I.cne x c e) hc nch ho (I.freeC x c e)
   exact ⟨_,q,hd⟩
  .exact ⟨o,keep c o (I.cne x c e) hc nch ho (I.freeC x c e),hd⟩
 refine ⟨I.ok,I.os,hg,⟨fun b o e n hb hx=>?_,fun b o e n hb hx=>?_,fun b o e n hx=>?_,fun b o e hx=>?_,fun b xs e=>tups b xs (I.base.tups b xs e),fun b o xs e=>frzs b o xs (I.base.frzs b o xs e),fun b ps e=>?_⟩,?_,fun x c e=>?_,?_,fun x c e=>?_,fun p hp=>?_,hok,I.len⟩
 .exact keep b o (neL b o e) hb (neC b o e hx) (I.base.keep b o e n hb hx) (I.base.free b o e n hx)
 .obtain ⟨sl,e1⟩:=I.base.slot b o e n hb hx
  obtain ⟨sl',e2⟩:=slot b _ (neL b o e) hb (neC b o e hx) e1 (I.base.free b o e n hx)
  exact ⟨sl',e2⟩
 .obtain ⟨o',e1⟩:=I.base.there b o e hx
  exact free b o' (neC b o e hx) e1 (I.base.free b o e n hx)
 .obtain ⟨o',e1⟩:=I.base.there b o e hx
  exact there b o' (neC b o e hx) e1
 .obtain ⟨m1,e1⟩:=I.base.tbls b ps e
  obtain ⟨m2,e2⟩:=tbls b _ e1
  exact ⟨m1++m2,by rw [e2,Array.append_assoc]⟩
 .obtain ⟨m,hn,hl⟩:=I.loc
  refine ⟨m,ns m hn,fun i x v e1 e2 e3=>?_⟩
  obtain ⟨u,r,l⟩:=hl i x v e1 e2 e3
  refine ⟨u,r,?_⟩
  rcases l with l | ⟨k,c,e,z⟩
  .exact .inl l
  .exact .inr ⟨k,c,e,cellK x c e _ z⟩
 .obtain ⟨v,z⟩:=I.cell x c e
  exact ⟨v,cellK x c e v z⟩
 .obtain ⟨m,⟨o,_,_,ho,_⟩,_⟩:=I.loc
  exact free _ o (fun z=>(hch _ z).2.1 rfl) ho I.free
 .obtain ⟨v,o,ho,hd⟩:=I.cell x c e
  exact free c o (fun z=>(hch c z).2.2.1 x c e rfl) ho (I.freeC x c e)
 .obtain ⟨e,n,ne,nf,d⟩:=I.pin p hp
  have nch:p.1∉ch:=fun z=>(hch p.1 z).2.2.2 p hp rfl
  exact ⟨keep p.1 p.2 ne nf nch e n,free p.1 p.2 nch e n,ne,nf,d⟩
theorem Inv.un {t':Nat} (I:Inv X pins σ H s) (u:Un X.fs [] H H' s.heap h') (hok:HOk X.prog X.w H' h'):Inv X pins σ H' { s with heap:=h',toks:=t' }:=by
 obtain ⟨m,⟨o,es,ep,ho,r⟩,_⟩:=id I.loc
 obtain ⟨sl,hL⟩:=u.any ho I.free (by simp)
 exact I.step (g':=s.gens) (d':=s.drawn) (ch:=[]) (fun _ z=>nomatch z) (fun b o _ hb _ e n=>u.keep b o e n hb (by simp)) (fun b o _ hb _ e n=>u.slot b o e n hb (by simp)) (fun b o _ e n=>u.free b o e n (by simp)) (fun b o _ e=>u.there b o e (by simp)) u.tups u.frzs u.tbls (fun m' hm=>by
  obtain ⟨o',es',ep',ho',r'⟩:=hm
  rw [ho] at ho';cases ho'
  exact ⟨_,es',ep',hL,r'⟩) hok I.bare
theorem Inv.call {g':Array GenState} {t':Nat} {d':Drawn} {ch:List Addr} (I:Inv X pins σ H s) (u:Un (frs X.stack) ch H H' s.heap h') (hok:HOk X.prog X.w H' h') (hg:AllBare g')
  (hch:∀ b∈ch,(b∈X.ex∨X.s₀.heap.objs.size <= b) /\ b≠X.env.locals /\ (∀ x c,X.env.cells.lookup x=some c->c≠b) /\ ∀ p∈X.pn++pins,p.1≠b) :
  Inv X pins σ H' { s with heap:=h',gens:=g',drawn:=d',toks:=t' }:=by
 obtain ⟨m,⟨o,es,ep,ho,r⟩,_⟩:=id I.loc
 obtain ⟨sl,hL⟩:=u.any ho I.free fun z=>(hch _ z).2.1 rfl
 exact I.step (ch:=ch) hch (fun b o hL hb hc e n=>u.keep b o e n (fun z=>(yAA.mp (I.stkSub b z)).elim hL hb) hc) (fun b o _ _ hc e n=>u.any e n hc) (fun b o hc e n=>u.free b o e n hc) (fun b o hc e=>u.there b o e hc) u.tups u.frzs u.tbls (fun m' hm=>by
  obtain ⟨o',es',ep',ho',r'⟩:=hm
  rw [ho] at ho';cases ho'
  exact ⟨_,es',ep',hL,r'⟩) hok hg
theorem Inv.turned {t':Nat} {it:Addr} (I:Inv X pins σ H s) (k:∀ b o,b≠it->s.heap.get? b=some o->h'.get? b=some o) (hn:H it=none) (hL:it≠X.env.locals)
  (h1:it∈X.ex∨X.s₀.heap.objs.size <= it) (h2:∀ x c,X.env.cells.lookup x=some c->c≠it) (h3:∀ p∈X.pn++pins,p.1≠it):Inv X pins σ H { s with heap:=h',toks:=t' }:=by
 have nit:∀ b u,H b=some u->b≠it:=fun b u e z=>by rw [z,hn] at e;cases e
 refine I.step (g':=s.gens) (d':=s.drawn) (ch:=[it]) (fun b hb=>?_) (fun b o _ _ hc e _=>k b o (fun z=>hc (by simp [z])) e) (fun b o _ _ hc e _=>⟨o.slots,k b o (fun z=>hc (by simp [z])) e⟩) (fun _ _ _ _ n=>n)
  (fun b o hc e=>⟨o,k b o (fun z=>hc (by simp [z])) e⟩) (fun _ _ e=>e) (fun _ _ _ e=>e) (fun b ps e=>⟨#[],by rw [e];simp⟩) (fun m hm=>?_) (fun b u e=>?_) I.bare
 .have e:b=it:=by simpa using hb
  subst e
  exact ⟨h1,hL,h2,h3⟩
 .obtain ⟨o,es,ep,ho,r⟩:=hm
  exact ⟨o,es,ep,k _ o (Ne.symm hL) ho,r⟩
 .refine (I.hok b u e).stay (fun c v hc q=>k c v ?_ q) (fun _ q=>q) fun _ _ q=>q
  rcases hc with z | z
  .rw [z];exact nit b u e
  .exact nit c _ z
theorem Inv.tok (I:Inv X pins σ H s) (t:Nat):Inv X pins σ H { s with toks:=t }:=I.un (h':=s.heap) (t':=t) Un.refl I.hok
theorem Inv.kept {t':Nat} (I:Inv X pins σ H s) (k:∀ b u,s.heap.get? b=some u->h'.get? b=some u):Inv X pins σ H { s with heap:=h',toks:=t' }:=I.un (Un.kept k) (I.hok.kept k)
theorem Inv.laid {a:Addr} {o:HO} {t':Nat} (I:Inv X pins σ H s) (k:∀ b u,s.heap.get? b=some u->h'.get? b=some u) (hp:s.heap.objs.size <= a) (new:ObjOk X.prog X.w (upd H a o) h' a o) :
  Inv X pins σ (upd H a o) { s with heap:=h',toks:=t' }:=I.un (Un.laid k hp (I.hok.fresh hp)) (I.hok.laid k hp new)
theorem Inv.write {x e:Addr} {o:HO} {t':Nat} (I:Inv X pins σ H s) (mu:Mut (H x)) (he:e=x∨H e=some (.own x)) (k:∀ b u,b≠e->s.heap.get? b=some u->h'.get? b=some u) (heo:∃ u,h'.get? e=some u)
  (new:ObjOk X.prog X.w (upd H x o) h' x o):Inv X pins σ (upd H x o) { s with heap:=h',toks:=t' }:=I.un (Un.write mu he k heo) (I.hok.write mu he k heo new)
theorem Inv.pins_of {pins':List (Addr×Obj)} (I:Inv X pins σ H s) (h:∀ p∈pins',s.heap.get? p.1=some p.2 /\ H p.1=none /\ p.1≠X.env.locals /\ p.1∉X.fs /\ ∀ v,p.2.data≠.cell v):Inv X pins' σ H s :=
 ⟨I.ok,I.os,I.bare,I.base,I.loc,I.cell,I.free,I.freeC,fun p hp=>(List.mem_append.mp hp).elim (fun z=>I.pin p (List.mem_append_left _ z)) (h p),I.hok,I.len⟩
theorem ZCF {N:List Str} (hN:N.Nodup) {i j:Nat} {x:Str} (a:N[i]?=some x) (b:N[j]?=some x):i=j:=by
 obtain ⟨h1,e1⟩:=yAR.mp a
 obtain ⟨h2,e2⟩:=yAR.mp b
 exact (List.getElem_inj hN).mp (e1.trans e2.symm)
theorem store_ok2 {M:Model} {A:Around} {E:Value->Shared->Prop} {i:Nat} {x:Str} {v:V} {u:Value} {Q:Unit->Shared->Prop} (I:Inv X pins σ H s) (hN:X.N.Nodup) (hi:X.N[i]?=some x) (hx:Loc X.env.scope x) (r:RelV v u)
  (h:∀ s',Inv X pins (σ.set i (some v)) H s'->(∃ a,Heap.SameBut a s.heap s'.heap /\ (a=X.env.locals∨X.env.cells.lookup x=some a))->Q () s') (hf:X.fn x=true∨X.env.scope.names.lookup x=some .local:=by first | exact .inl rfl | exact .inr rfl | assumption):wpAny M A (storeName X.env x u) Q E s:=by
 obtain ⟨m,hn,hl⟩:=id I.loc
 have hcls:(X.env.scope.kind == .class || (X.env.scope.kind == .module && X.env.locals != X.env.globals))=false:=by rw [I.ok.kind];rfl
 have hiσ:i < σ.length:=by rw [I.len];exact (yAR.mp hi).1
 have cne:=I.cne
 have tracked:∀ {a:Addr} {h':Heap},(∃ o,s.heap.get? a=some o /\ H a=none)->Heap.SameBut a s.heap h'->HOk X.prog X.w H h':=fun {a h'} ha hs b ob e=>by
  obtain ⟨_,_,hfree⟩:=ha
  refine (I.hok b ob e).stay (fun c w' hc q=>(hs.2 c ?_).trans q) (fun _ q=>q) fun _ _ q=>q
  rintro rfl
  rcases hc with rfl | hc
  .rw [hfree] at e;cases e
  .rw [hfree] at hc;cases hc
 rcases hx with hk | hk
 .refine wpAny_storeName_local hk hn (fun h' hn' hs=>?_) hcls
  obtain ⟨oL,_,_,hoL,_⟩:=id hn
  refine h _ ⟨I.ok,I.os,I.bare,⟨fun b o e n hb hx=>?_,fun b o e n hb hx=>?_,I.base.free,fun b o e hx=>?_,I.base.tups,I.base.frzs,I.base.tbls⟩,⟨_,hn',fun j y v' e1 e2 e3=>?_⟩,fun y c e=>?_,I.free,I.freeC,fun p hp=>?_,tracked ⟨oL,hoL,I.free⟩ hs,by simpa using I.len⟩ ⟨_,hs,.inl rfl⟩
  .exact (hs.2 b (yAD (yAG (Heap.lt_size e) I.ok.above))).trans (I.base.keep b o e n hb hx)
  .obtain ⟨sl,e1⟩:=I.base.slot b o e n hb hx
   exact ⟨sl,(hs.2 b (yAD (yAG (Heap.lt_size e) I.ok.above))).trans e1⟩
  .obtain ⟨o',e1⟩:=I.base.there b o e hx
   exact ⟨o',(hs.2 b (yAD (yAG (Heap.lt_size e) I.ok.above))).trans e1⟩
  .by_cases hj:j=i
   .subst hj
    rw [hi] at e1;cases e1
    rw [List.getElem?_set_self hiσ] at e2
    cases e2
    exact ⟨u,r,.inl ⟨hk,by simp⟩⟩
   .rw [List.getElem?_set_ne (Ne.symm hj)] at e2
    obtain ⟨u',r',q⟩:=hl j y v' e1 e2 e3
    refine ⟨u',r',?_⟩
    rcases q with ⟨k,e⟩ | ⟨k,c,e,z⟩
    .refine .inl ⟨k,?_⟩
     have:y≠x:=fun e=>hj (ZCF hN e1 (e ▸ hi))
     simp [this,e]
    .exact .inr ⟨k,c,e,z.sameBut hs (cne y c e)⟩
  .obtain ⟨w',z⟩:=I.cell y c e
   exact ⟨w',z.sameBut hs (cne y c e)⟩
  .obtain ⟨e,n,ne,nf,d⟩:=I.pin p hp
   exact ⟨(hs.2 p.1 ne).trans e,n,ne,nf,d⟩
 .have hfn:X.fn x=true:=by
   rcases hf with z | z
   .exact z
   .rw [z] at hk;cases hk
  obtain ⟨c,hc⟩:=I.ok.has x (.inl hk)
  obtain ⟨w',z⟩:=I.cell x c hc
  refine wpAny_storeName_cell I.ok.kind hk hc z (fun h' hc' hs=>?_)
  obtain ⟨oc,hoc,hocd⟩:=id z
  refine h { s with heap:=h' } ⟨I.ok,I.os,I.bare,⟨fun b o e n hb hx=>?_,fun b o e n hb hx=>?_,I.base.free,fun b o e hx=>?_,I.base.tups,I.base.frzs,I.base.tbls⟩,⟨m,hn.sameBut hs (Ne.symm (cne x c hc)),fun j y v' e1 e2 e3=>?_⟩,fun y c' e=>?_,I.free,I.freeC,fun p hp=>?_,tracked ⟨oc,hoc,I.freeC x c hc⟩ hs,by simpa using I.len⟩ ⟨c,hs,.inr hc⟩
  .exact (hs.2 b (yAD (yAG (Heap.lt_size e) (I.ok.cab x c hfn hc)))).trans (I.base.keep b o e n hb hx)
  .obtain ⟨sl,e1⟩:=I.base.slot b o e n hb hx
   exact ⟨sl,(hs.2 b (yAD (yAG (Heap.lt_size e) (I.ok.cab x c hfn hc)))).trans e1⟩
  .obtain ⟨o',e1⟩:=I.base.there b o e hx
   exact ⟨o',(hs.2 b (yAD (yAG (Heap.lt_size e) (I.ok.cab x c hfn hc)))).trans e1⟩
  .by_cases hj:j=i
   .subst hj
    rw [hi] at e1;cases e1
    rw [List.getElem?_set_self hiσ] at e2
    cases e2
    exact ⟨u,r,.inr ⟨.inl hk,c,hc,hc'⟩⟩
   .rw [List.getElem?_set_ne (Ne.symm hj)] at e2
    obtain ⟨u',r',q⟩:=hl j y v' e1 e2 e3
    refine ⟨u',r',?_⟩
    rcases q with q | ⟨k,c',e,z'⟩
    .exact .inl q
    .refine .inr ⟨k,c',e,z'.sameBut hs ?_⟩
     rintro rfl
     exact hj (ZCF hN e1 (I.ok.inj _ _ _ e hc ▸ hi))
  .by_cases hcc:c'=c
   .subst hcc;exact ⟨_,hc'⟩
   .obtain ⟨w2,z2⟩:=I.cell y c' e
    exact ⟨w2,z2.sameBut hs hcc⟩
  .obtain ⟨e,n,ne,nf,d⟩:=I.pin p hp
   refine ⟨(hs.2 p.1 ?_).trans e,n,ne,nf,d⟩
   intro q
   rw [q,hoc] at e
   have q':oc=p.2:=Option.some.inj e
   exact d w' (by rw [<- q'];exact hocd)
theorem ZCA {M:Model} {A:Around} {E:Value->Shared->Prop} {i:Nat} {x:Str} {v:V} {u:Value} {Q:Unit->Shared->Prop} (I:Inv X pins σ H s) (hN:X.N.Nodup) (hi:X.N[i]?=some x) (hx:Loc X.env.scope x) (r:RelV v u)
  (h:∀ s',Inv X pins (σ.set i (some v)) H s'->Q () s') (hf:X.fn x=true∨X.env.scope.names.lookup x=some .local:=by first | exact .inl rfl | exact .inr rfl | assumption):wpAny M A (storeName X.env x u) Q E s :=
 store_ok2 I hN hi hx r (fun s' I' _=>h s' I') hf
theorem Inv.call' {s':Shared} {ch:List Addr} (I:Inv X pins σ H s) (ho:s'.os=s.os) (u:Un (frs X.stack) ch H H' s.heap s'.heap) (hok:HOk X.prog X.w H' s'.heap) (hg:AllBare s'.gens)
  (hch:∀ b∈ch,(b∈X.ex∨X.s₀.heap.objs.size <= b) /\ b≠X.env.locals /\ (∀ x c,X.env.cells.lookup x=some c->c≠b) /\ ∀ p∈X.pn++pins,p.1≠b):Inv X pins σ H' s':=by
 obtain ⟨h',g',d',t',o'⟩:=s'
 have e:o'=s.os:=ho
 subst e
 exact I.call (g':=g') (t':=t') (d':=d') u hok hg hch
end
abbrev XK:=Value->Option Addr->Hp->Prop
abbrev St:=List (Option V)
abbrev VK:=V->Hp->Prop
abbrev TE:=St->Hp->VK->Prop
abbrev TT:=St->Hp->(Bool->Hp->Prop)->Prop
abbrev TA:=St->Hp->(List V->Hp->Prop)->Prop
structure Ends where
 nx:St->Hp->Prop
 rt:VK
 bk:St->Hp->Prop:=fun _ _=>False
 ct:St->Hp->Prop:=fun _ _=>False
abbrev TS:=Ends->St->Hp->Prop
def EP (X:Cx) (pins:List (Addr×Obj)) (σ:St) (Q:VK) (u:Value) (s':Shared):Prop:=∃ v H',Inv X pins σ H' s' /\ RelV v u /\ Q v H'
def TP (X:Cx) (pins:List (Addr×Obj)) (σ:St) (Q:Bool->Hp->Prop) (b:Bool) (s':Shared):Prop:=∃ H',Inv X pins σ H' s' /\ Q b H'
def AP (X:Cx) (pins:List (Addr×Obj)) (σ:St) (Q:List V->Hp->Prop) (us:List Value) (s':Shared):Prop:=∃ vs H',Inv X pins σ H' s' /\ Vals vs us /\ Q vs H'
def SP (X:Cx) (pins:List (Addr×Obj)) (D:Ends) (f:Flow) (s':Shared):Prop :=
 match f with
 | .next=>∃ σ' H',Inv X pins σ' H' s' /\ D.nx σ' H'
 | .brk=>∃ σ' H',Inv X pins σ' H' s' /\ D.bk σ' H'
 | .cont=>∃ σ' H',Inv X pins σ' H' s' /\ D.ct σ' H'
 | .ret u=>∃ v σ' H',Inv X pins σ' H' s' /\ RelV v u /\ D.rt v H'
def PE (X:Cx) (e:Expr) (t:TE):Prop :=
 ∀ (pins:List (Addr×Obj)) (s:Shared) (σ:St) (H:Hp) (Q:VK),Inv X pins σ H s->t σ H Q->wpAny (model X.prog X.w) X.A (eval e X.env) (EP X pins σ Q) X.xe s
def PT (X:Cx) (e:Expr) (t:TT):Prop :=
 ∀ (pins:List (Addr×Obj)) (s:Shared) (σ:St) (H:Hp) (Q:Bool->Hp->Prop),Inv X pins σ H s->t σ H Q->wpAny (model X.prog X.w) X.A (isTrue e X.env (eval e X.env)) (TP X pins σ Q) X.xe s
def PW (X:Cx) (e:Expr) (t:TT):Prop :=
 ∀ (whole:Sem Value) (pins:List (Addr×Obj)) (s:Shared) (σ:St) (H:Hp) (Q:Bool->Hp->Prop),Inv X pins σ H s->t σ H Q->wpAny (model X.prog X.w) X.A (isTrue e X.env whole) (TP X pins σ Q) X.xe s
theorem PW.pt {X:Cx} {e:Expr} {t:TT} (h:PW X e t):PT X e t:=h _
def PA (X:Cx) (es:List Expr) (t:TA):Prop :=
 ∀ (pos:Pos) (pins:List (Addr×Obj)) (s:Shared) (σ:St) (H:Hp) (Q:List V->Hp->Prop),Inv X pins σ H s->t σ H Q->wpAny (model X.prog X.w) X.A (spliced (backTo pos (starEach es X.env))) (AP X pins σ Q) X.xe s
def PS (X:Cx) (st:Stmt) (t:TS):Prop :=
 ∀ (pins:List (Addr×Obj)) (s:Shared) (σ:St) (H:Hp) (D:Ends),Inv X pins σ H s->t D σ H->wpAny (model X.prog X.w) X.A (exec st X.env) (SP X pins D) X.xe s
def PSs (X:Cx) (st:List Stmt) (t:TS):Prop :=
 ∀ (pins:List (Addr×Obj)) (s:Shared) (σ:St) (H:Hp) (D:Ends),Inv X pins σ H s->t D σ H->wpAny (model X.prog X.w) X.A (execs st X.env) (SP X pins D) X.xe s
theorem thn {α:Type} {t:Sem α} {Q Q':α->Shared->Prop} {M:Model} {A:Around} {E:Value->Shared->Prop} {s:Shared} (h:wpAny M A t Q E s) (hQ:∀ a s,Q a s->Q' a s):wpAny M A t Q' E s:=wpAny_mono h hQ fun _ _ x=>x
section
variable {X:Cx}
def tVar (i:Nat):TE:=fun σ H Q=>∃ v,σ[i]?=some (some v) /\ Q v H
def tC (v:V):TE:=fun _ H Q=>Q v H
theorem pe_var {i:Nat} {x:Str} {pos:Pos} (hN:X.N[i]?=some x) (hv:Vis X.env.scope x) (hd:(x == ("__debug__":Str))=false:=by decide) (hcd:(x == ("__classdict__":Str))=false:=by decide):PE X (.Name x pos) (tVar i):=by
 intro pins s σ H Q I h
 obtain ⟨v,e,h⟩:=h
 obtain ⟨m,hn,hl⟩:=I.loc
 obtain ⟨u,r,l⟩:=hl i x v hN e hv
 have fin:EP X pins σ Q u s:=⟨v,H,I,r,h⟩
 rcases l with ⟨hk,hm⟩ | ⟨hk,c,hc,hcell⟩
 .exact wpAny_Name (wpAny_loadName_local I.ok.kind hk hn hm fin) hd
 .rcases hk with hk | hk
  .exact wpAny_Name (wpAny_loadName_cell I.ok.kind hk hc hcell fin) hd
  .exact wpAny_Name (wpAny_loadName_free I.ok.kind hk hc hcell fin hcd) hd
theorem ZAH {i j pos}:PE X (.Constant (.int i) j pos) (tC (.int i)):=fun _ _ _ H _ I h=>wpAny_Constant_int ⟨.int i,H,I.tok _,⟨_,rfl⟩,h⟩
theorem ZCD {b j pos}:PE X (.Constant (.bool b) j pos) (tC (.bl b)):=fun _ _ _ H _ I h=>Constant_bool ⟨.bl b,H,I,rfl,h⟩
theorem ZBa {j pos}:PE X (.Constant .none j pos) (tC .non):=fun _ _ _ H _ I h=>Constant_none ⟨.non,H,I,rfl,h⟩
theorem pe_str {x j pos}:PE X (.Constant (.str x) j pos) (tC (.str x)):=fun _ _ _ H _ I h=>Calls.Constant_str ⟨.str x,H,I.tok _,⟨_,rfl⟩,h⟩
def Gl (X:Cx) (x:Str):Prop:=X.env.kindOf x=some .globalImplicit
theorem ZBW {E:Value->Shared->Prop} {pins:List (Addr×Obj)} {s:Shared} {σ:St} {H:Hp} {x:Str} {u:Value} {pos:Pos} {Q:Value->Shared->Prop} (I:Inv X pins σ H s) (hg:Gl X x) (hm:X.mg x=some u) (h:Q u s)
  (hd:(x == ("__debug__":Str))=false:=by decide):wpAny (model X.prog X.w) X.A (eval (.Name x pos) X.env) Q E s :=
 Calls.Name_function_global I.ok.kind hg (Calls.loadGlobal_global (by rw [I.ok.glob];exact I.mod.glob.keeps I.bk) hm h) hd
theorem ZCf {E:Value->Shared->Prop} {pins:List (Addr×Obj)} {s:Shared} {σ:St} {H:Hp} {x:Str} {u:Value} {pos:Pos} {Q:Value->Shared->Prop} (I:Inv X pins σ H s) (hg:Gl X x) (hm:X.mg x=none) (hv:bootBuiltins x=some u) (h:Q u s)
  (hn:x≠"__name__":=by decide) (hd:(x == ("__debug__":Str))=false:=by decide):wpAny (model X.prog X.w) X.A (eval (.Name x pos) X.env) Q E s:=by
 obtain ⟨mb,h1,h2⟩:=I.mod.blt
 exact Calls.Name_function_global I.ok.kind hg (Calls.loadGlobal_builtin (by rw [I.ok.glob];exact I.mod.glob.keeps I.bk) hm (by rw [I.ok.blt];exact h1.keeps I.bk) ((h2 x hn).trans hv) h) hd
theorem pe_glob {x:Str} {v:V} {u:Value} {pos:Pos} (hg:Gl X x) (hm:X.mg x=some u) (r:RelV v u) (hd:(x == ("__debug__":Str))=false:=by decide):PE X (.Name x pos) (tC v) :=
 fun _ _ _ H _ I h=>ZBW I hg hm ⟨v,H,I,r,h⟩ hd
theorem pe_bltn {x:Str} {v:V} {u:Value} {pos:Pos} (hg:Gl X x) (hm:X.mg x=none) (hv:bootBuiltins x=some u) (r:RelV v u) (hn:x≠"__name__":=by decide) (hd:(x == ("__debug__":Str))=false:=by decide):PE X (.Name x pos) (tC v) :=
 fun _ _ _ H _ I h=>ZCf I hg hm hv ⟨v,H,I,r,h⟩ hn hd
variable {a b:Expr} {ta tb:TE} {pos:Pos}
def tB (t:TE):TT:=fun σ H Q=>t σ H fun x H1=>∃ c,x=.bl c /\ Q c H1
theorem ZBn {e:Expr} {t:TE} (h:PE X e t) (he:∀ whole,isTrue e X.env whole=(do let v <- whole;standAt e.pos;holding [v] (truthy v)):=by intro _;rfl):PT X e (tB t):=by
 intro pins s σ H Q I hw
 refine isTrue_plain (thn (h pins s σ H _ I hw) fun v s1 ⟨x,H1,I1,r1,q1⟩=>?_) (he _)
 obtain ⟨d,rfl,q⟩:=q1
 cases r1
 exact wpAny_truthy_bool ⟨H1,I1,q⟩
variable {tA tB':TT} {rest:List Expr}
def tAnd (t u:TT):TT:=fun σ H Q=>t σ H fun c H1=>if c=true then u σ H1 Q else Q false H1
def tOr (t u:TT):TT:=fun σ H Q=>t σ H fun c H1=>if c=true then Q true H1 else u σ H1 Q
def tNot (t:TT):TT:=fun σ H Q=>t σ H fun c H1=>Q (!c) H1
theorem pw_and1 (ha:PT X a tA):PW X (.BoolOp .And [a] pos) tA:=by
 intro wh pins s σ H Q I h
 refine isTrue_and (thn (ha pins s σ H Q I h) fun c s1 e=>?_)
 cases c with
 | true=>exact isTrue_and_nil e
 | false=>exact e
theorem ZCd (ha:PT X a tA):PW X (.BoolOp .Or [a] pos) tA:=by
 intro wh pins s σ H Q I h
 refine isTrue_or (thn (ha pins s σ H Q I h) fun c s1 e=>?_)
 cases c with
 | false=>exact isTrue_or_nil e
 | true=>exact e
theorem pw_and (ha:PT X a tA) (hb:PW X (.BoolOp .And (b::rest) pos) tB'):PW X (.BoolOp .And (a::b::rest) pos) (tAnd tA tB'):=by
 intro wh pins s σ H Q I h
 refine isTrue_and (thn (ha pins s σ H _ I h) fun c s1 ⟨H1,I1,q1⟩=>?_)
 cases c with
 | true=>exact hb wh pins s1 σ H1 Q I1 q1
 | false=>exact ⟨H1,I1,q1⟩
theorem ZCt (ha:PT X a tA) (hb:PW X (.BoolOp .Or (b::rest) pos) tB'):PW X (.BoolOp .Or (a::b::rest) pos) (tOr tA tB'):=by
 intro wh pins s σ H Q I h
 refine isTrue_or (thn (ha pins s σ H _ I h) fun c s1 ⟨H1,I1,q1⟩=>?_)
 cases c with
 | true=>exact ⟨H1,I1,q1⟩
 | false=>exact hb wh pins s1 σ H1 Q I1 q1
theorem ZBo (ha:PT X a tA):PT X (.UnaryOp .Not a pos) (tNot tA):=by
 intro pins s σ H Q I h
 exact isTrue_not (ha pins s σ H (fun c H1=>Q (!c) H1) I h)
def ZC6 (ta tb:TE):TE:=fun σ H Q=>ta σ H fun x H1=>∃ c,x=.bl c /\ if c=true then tb σ H1 Q else Q (.bl false) H1
def tOrV (ta tb:TE):TE:=fun σ H Q=>ta σ H fun x H1=>∃ c,x=.bl c /\ if c=true then Q (.bl true) H1 else tb σ H1 Q
def ZC3 (ta:TE):TE:=fun σ H Q=>ta σ H fun x H1=>∃ c,x=.bl c /\ Q (.bl (!c)) H1
theorem ZB1 {op} {t:TE} (h:PE X a t):PE X (.BoolOp op [a] pos) t:=fun pins s σ H Q I hw=>BoolOp_one (h pins s σ H Q I hw)
theorem ZB3 (ha:PE X a ta) (hb:PE X (.BoolOp .And (b::rest) pos) tb):PE X (.BoolOp .And (a::b::rest) pos) (ZC6 ta tb):=by
 intro pins s σ H Q I h
 refine BoolOp_and (thn (ha pins s σ H _ I h) fun v s1 ⟨x,H1,I1,r1,q1⟩=>?_)
 obtain ⟨c,rfl,q1⟩:=q1
 cases r1
 refine wpAny_truthy_bool ?_
 cases c with
 | true=>exact hb pins s1 σ H1 Q I1 q1
 | false=>exact ⟨.bl false,H1,I1,rfl,q1⟩
theorem ZCu (ha:PE X a ta):PE X (.UnaryOp .Not a pos) (ZC3 ta):=by
 intro pins s σ H Q I h
 refine UnaryOp_ (thn (ha pins s σ H _ I h) fun v s1 ⟨x,H1,I1,r1,q1⟩=>?_)
 obtain ⟨c,rfl,q1⟩:=q1
 cases r1
 exact not_of (wpAny_truthy_bool ⟨.bl (!c),H1,I1,rfl,q1⟩)
def tIf (t:TT) (ta tb:TE):TE:=fun σ H Q=>t σ H fun c H1=>if c=true then ta σ H1 Q else tb σ H1 Q
theorem pe_ifExp {c:Expr} (hc:PT X c tA) (ha:PE X a ta) (hb:PE X b tb):PE X (.IfExp c a b pos) (tIf tA ta tb):=by
 intro pins s σ H Q I h
 refine wpAny_IfExp (thn (hc pins s σ H _ I h) fun d s1 ⟨H1,I1,q1⟩=>?_)
 cases d with
 | true=>exact ha pins s1 σ H1 Q I1 q1
 | false=>exact hb pins s1 σ H1 Q I1 q1
end
def SqL (K:W.Frag) (H:Hp) (a:Addr) (xs:List V):Prop :=
 Rd H a (.lst xs) ∨
  ∃ (o:Obj) (its:Array Value) (n:Nat),K.lookup a=some o /\ o.cls=.type "list" /\ o.dict=none /\ o.data=.seq its n /\ its.size <= sizeLine /\ Vals xs its.toList
def SqT (K:W.Frag) (H:Hp) (a:Addr) (xs:List V):Prop :=
 Rd H a (.tup xs) ∨
  ∃ (o:Obj) (its:Array Value) (n:Nat),K.lookup a=some o /\ o.cls=.type "tuple" /\ o.data=.seq its n /\ its.size <= sizeLine /\ Vals xs its.toList
def absV:Value->Option V
 | .none=>some .non
 | .bool b=>some (.bl b)
 | .int i _=>some (.int i)
 | .str x _=>some (.str x)
 | .bytes b _=>some (.byt b)
 | .float b _=>some (.flt b)
 | .ref a=>some (.ref a)
 | .type n=>some (.ty n)
 | _=>none
theorem RelV.abs {x:V} {u:Value} (r:RelV x u):absV u=some x:=by
 cases x with
 | non=>cases r;rfl
 | bl _=>cases r;rfl
 | int _=>obtain ⟨t,rfl⟩:=r;rfl
 | str _=>obtain ⟨t,rfl⟩:=r;rfl
 | byt _=>obtain ⟨t,rfl⟩:=r;rfl
 | flt _=>obtain ⟨t,rfl⟩:=r;rfl
 | ref _=>cases r;rfl
 | ty _=>cases r;rfl
theorem RelV.inj {x y:V} {u:Value} (r:RelV x u) (q:RelV y u):x=y:=Option.some.inj (r.abs.symm.trans q.abs)
theorem Vals.inj:∀ {xs ys:List V} {us:List Value},Vals xs us->Vals ys us->xs=ys
 | _,_,_,.nil,.nil=>rfl
 | _,_,_,.cons r t,.cons r' t'=>by rw [r.inj r',Vals.inj t t']
section
variable {X:Cx} {pins:List (Addr×Obj)} {σ:St} {H:Hp} {s:Shared} {a:Addr} {xs ys:List V}
theorem SqL.of {K:W.Frag} (h:H a=some (.lst xs)):SqL K H a xs:=.inl (.inl h)
theorem SqT.of {K:W.Frag} (h:H a=some (.tup xs)):SqT K H a xs:=.inl (.inl h)
theorem Inv.list (I:Inv X pins σ H s) (h:SqL X.K H a xs):∃ its:List Value,Vals xs its /\ PlainL s.heap a its.toArray /\ xs.length <= sizeLine:=by
 rcases h with h | ⟨o,its,n,hk,hc,hd,hs,hz,r⟩
 .obtain ⟨z,its,n,r,e⟩:=h.ok I.hok
  exact ⟨its,r,⟨_,n,e,rfl,rfl,rfl⟩,z⟩
 .refine ⟨its.toList,r,⟨o,n,I.kIn a o hk,hc,hd,by simpa using hs⟩,?_⟩
  have e:=r.length
  simp only [Array.length_toList] at e
  omega
theorem Inv.tuple (I:Inv X pins σ H s) (h:SqT X.K H a xs):∃ its:List Value,Vals xs its /\ IsTup s.heap a its.toArray /\ xs.length <= sizeLine:=by
 rcases h with h | ⟨o,its,n,hk,hc,hs,hz,r⟩
 .obtain ⟨z,its,r,p⟩:=h.ok I.hok
  exact ⟨its,r,p,z⟩
 .refine ⟨its.toList,r,⟨o,I.kIn a o hk,hc,n,by simpa using hs⟩,?_⟩
  have e:=r.length
  simp only [Array.length_toList] at e
  omega
theorem Inv.list_inj (I:Inv X pins σ H s) (h:SqL X.K H a xs) (h':SqL X.K H a ys):xs=ys:=by
 obtain ⟨its,r,⟨o,n,e,_,_,d⟩,_⟩:=I.list h
 obtain ⟨its',r',⟨o',n',e',_,_,d'⟩,_⟩:=I.list h'
 rw [e] at e';cases e'
 rw [d] at d'
 injection d' with d1 _
 have:its=its':=by simpa using congrArg Array.toList d1
 subst this
 exact r.inj r'
end
abbrev Cx.wish (X:Cx) (E:Value->Shared->Prop):Cx:={ X with xe:=E }
abbrev Cx.nox (X:Cx):Cx:=X.wish fun _ _=>False
theorem Cx.Ok.wish {X:Cx} (ok:X.Ok) (E:Value->Shared->Prop):(X.wish E).Ok :=
 ⟨ok.mod,ok.kind,ok.glob,ok.blt,ok.above,ok.inj,ok.has,ok.cab,ok.hd,ok.frames,ok.stk,ok.exf,ok.bs,ok.bsz,ok.noex,ok.exfs,ok.funs,ok.frf⟩
theorem Cx.Ok.unwish {X:Cx} {E:Value->Shared->Prop} (ok:(X.wish E).Ok):X.Ok :=
 ⟨ok.mod,ok.kind,ok.glob,ok.blt,ok.above,ok.inj,ok.has,ok.cab,ok.hd,ok.frames,ok.stk,ok.exf,ok.bs,ok.bsz,ok.noex,ok.exfs,ok.funs,ok.frf⟩
section
variable {X:Cx} {pins:List (Addr×Obj)} {σ:St} {H:Hp} {s:Shared} {E:Value->Shared->Prop}
theorem Inv.wish (I:Inv X pins σ H s) (E:Value->Shared->Prop):Inv (X.wish E) pins σ H s:=⟨I.ok.wish E,I.os,I.bare,I.base,I.loc,I.cell,I.free,I.freeC,I.pin,I.hok,I.len⟩
theorem Inv.unwish (I:Inv (X.wish E) pins σ H s):Inv X pins σ H s:=⟨I.ok.unwish,I.os,I.bare,I.base,I.loc,I.cell,I.free,I.freeC,I.pin,I.hok,I.len⟩
theorem SP.unwish {D:Ends} {f:Flow} {s':Shared} (h:SP (X.wish E) pins D f s'):SP X pins D f s':=by
 cases f with
 | next=>obtain ⟨σ',H',I,q⟩:=h;exact ⟨σ',H',I.unwish,q⟩
 | brk=>obtain ⟨σ',H',I,q⟩:=h;exact ⟨σ',H',I.unwish,q⟩
 | cont=>obtain ⟨σ',H',I,q⟩:=h;exact ⟨σ',H',I.unwish,q⟩
 | ret u=>obtain ⟨v,σ',H',I,r,q⟩:=h;exact ⟨v,σ',H',I.unwish,r,q⟩
theorem PSs.nox {st:List Stmt} {t:TS} (h:PSs X.nox st t):PSs X st t:=fun pins s σ H D I hw=>
 wpAny_mono (h pins s σ H D (I.wish _) hw) (fun _ _ q=>q.unwish) fun _ _ z=>False.elim z
end
section
variable {X:Cx} {st:Stmt} {rest:List Stmt} {t u:TS} {e:Expr} {te:TE} {pos:Pos}
def ZC4:TS:=fun D σ H=>D.nx σ H
def tSeq (t u:TS):TS:=fun D σ H=>t { D with nx:=u D } σ H
theorem ZAo:PSs X [] ZC4:=fun _ _ σ H _ I h=>wpAny_execs_nil ⟨σ,H,I,h⟩
theorem ZAE (h1:PS X st t) (h2:PSs X rest u):PSs X (st::rest) (tSeq t u):=by
 intro pins s σ H D I h
 refine wpAny_execs_cons (thn (h1 pins s σ H { D with nx:=u D } I h) fun f s1 q=>?_)
 cases f with
 | next=>
  obtain ⟨σ',H',I',q⟩:=q
  exact h2 pins s1 σ' H' D I' q
 | ret v=>exact q
 | brk=>exact q
 | cont=>exact q
theorem ZAM (h1:PS X st t):PSs X [st] t:=by
 intro pins s σ H D I h
 refine wpAny_execs_cons (thn (h1 pins s σ H D I h) fun f s1 q=>?_)
 cases f with
 | next=>exact wpAny_execs_nil q
 | ret v=>exact q
 | brk=>exact q
 | cont=>exact q
theorem Inv.quiet {pins:List (Addr×Obj)} {σ:St} {H:Hp} {s:Shared} (I:Inv X pins σ H s):interactive X.env=false:=by simp [interactive,I.ok.kind]
def ZC5 (te:TE):TS:=fun D σ H=>te σ H fun _ H1=>D.nx σ H1
theorem ZBF (he:PE X e te) (hs:swapsWith e none pos.line X.env=pure false:=by rfl):PS X (.Expr e pos) (ZC5 te):=by
 intro pins s σ H D I h
 exact wpAny_Expr_any (thn (he pins s σ H _ I h) fun v s1 ⟨x,H1,I1,r1,q1⟩=>⟨σ,H1,I1,q1⟩) I.quiet hs
def tRet (te:TE):TS:=fun D σ H=>te σ H D.rt
theorem ZAh (he:PE X e te):PS X (.Return (some e) pos) (tRet te):=by
 intro pins s σ H D I h
 exact wpAny_Return_some (thn (he pins s σ H _ I h) fun v s1 ⟨x,H1,I1,r1,q1⟩=>⟨x,σ,H1,I1,r1,q1⟩)
def tRetN:TS:=fun D _ H=>D.rt .non H
def tIfS (c:TT) (t u:TS):TS:=fun D σ H=>c σ H fun b H1=>if b=true then t D σ H1 else u D σ H1
theorem ZBU {c:Expr} {a b:List Stmt} {tc:TT} (hc:PT X c tc) (ha:PSs X a t) (hb:PSs X b u):PS X (.If c a b pos) (tIfS tc t u):=by
 intro pins s σ H D I h
 refine wpAny_If (thn (hc pins s σ H _ I h) fun d s1 ⟨H1,I1,q1⟩=>?_)
 cases d with
 | true=>exact ha pins s1 σ H1 D I1 q1
 | false=>exact hb pins s1 σ H1 D I1 q1
def tNever:TS:=fun _ _ _=>False
end
abbrev TG:=V->St->Hp->(St->Hp->Prop)->Prop
abbrev TGs:=List V->St->Hp->(St->Hp->Prop)->Prop
def PG (X:Cx) (target:Expr) (t:TG):Prop :=
 ∀ (pins:List (Addr×Obj)) (s:Shared) (σ:St) (H:Hp) (v:V) (u:Value) (Q:St->Hp->Prop),Inv X pins σ H s->RelV v u->t v σ H Q ->
  wpAny (model X.prog X.w) X.A (assign target X.env u) (fun _ s'=>∃ σ' H',Inv X pins σ' H' s' /\ Q σ' H') X.xe s
abbrev TSet:=V->V->V->Hp->(Hp->Prop)->Prop
def PSet (X:Cx) (t:TSet):Prop :=
 ∀ (pins:List (Addr×Obj)) (s:Shared) (σ:St) (H:Hp) (o i v:V) (ov iv u:Value) (Q:Hp->Prop),Inv X pins σ H s->RelV o ov->RelV i iv->RelV v u->t o i v H Q ->
  wpAny (model X.prog X.w) X.A (setItem ov iv u) (fun _ s'=>∃ H',Inv X pins σ H' s' /\ Q H') X.xe s
abbrev TIp:=V->V->Hp->VK->Prop
section
variable {X:Cx} {pos:Pos}
def ZCz (i:Nat):TG:=fun v σ H Q=>Q (σ.set i (some v)) H
theorem ZCU {i:Nat} {x:Str} (hN:X.N.Nodup) (hi:X.N[i]?=some x) (hx:Loc X.env.scope x) (hf:X.fn x=true∨X.env.scope.names.lookup x=some .local:=by first | exact .inl rfl | exact .inr rfl | assumption):PG X (.Name x pos) (ZCz i):=by
 intro pins s σ H v u Q I r h
 exact wpAny_assign_Name (ZCA I hN hi hx r (fun s' I'=>⟨_,H,I',h⟩) hf)
def gNil:TGs:=fun vs σ H Q=>vs=[] /\ Q σ H
def gCons (t:TG) (u:TGs):TGs:=fun vs σ H Q=>∃ v r,vs=v::r /\ t v σ H fun σ' H'=>u r σ' H' Q
def gSub (to ti:TE) (t:TSet):TG:=fun v σ H Q=>to σ H fun o H1=>ti σ H1 fun i H2=>t o i v H2 fun H3=>Q σ H3
theorem pg_sub {o i:Expr} {to ti:TE} {t:TSet} (ho:PE X o to) (hi:PE X i ti) (hs:PSet X t)
  (ha:∀ v,assign (.Subscript o i pos) X.env v=(do
   let ov <- holding [v] (eval o X.env)
   let iv <- holding [v,ov] (eval i X.env)
   standAt pos
   holding [v,ov,iv] (setItem ov iv v)
   release [v,ov,iv] []):=by intro _;rfl):PG X (.Subscript o i pos) (gSub to ti t):=by
 intro pins s σ H v u Q I r h
 rw [ha]
 refine wpAny_bind (wpAny_holding (thn (ho pins s σ H _ I h) fun ov s1 ⟨x,H1,I1,r1,q1⟩=>?_))
 refine wpAny_bind (wpAny_holding (thn (hi pins s1 σ H1 _ I1 q1) fun iv s2 ⟨y,H2,I2,r2,q2⟩=>?_))
 refine wpAny_bind (wpAny_standAt (wpAny_bind (wpAny_holding (thn (hs pins s2 σ H2 x y v ov iv u _ I2 r1 r2 r q2) fun _ s3 ⟨H3,I3,q3⟩=>?_))))
 exact wpAny_release ⟨σ,H3,I3,q3⟩
def tAsg (te:TE) (g:TG):TS:=fun D σ H=>te σ H fun x H1=>g x σ H1 D.nx
theorem ps_asg {tg e:Expr} {te:TE} {g:TG} (he:PE X e te) (hg:PG X tg g) (hs:swapsWithSole [tg] e pos.line X.env=pure false:=by rfl) (hw:swappedStores [tg] e X.env=pure none:=by rfl)
  (h1:(assignEach [tg] X.env).map (·.2)=[assign tg X.env]:=by rfl):PS X (.Assign [tg] e pos) (tAsg te g):=by
 intro pins s σ H D I h
 refine wpAny_Assign_stores (thn (he pins s σ H _ I h) fun v s1 ⟨x,H1,I1,r1,q1⟩=>?_) hs hw
 rw [h1]
 exact thn (hg pins s1 σ H1 x v _ I1 r1 q1) fun _ s2 q=>q
theorem ZAn {i:Nat} {x:Str} {e:Expr} {te:TE} {pos':Pos} (hN:X.N.Nodup) (hi:X.N[i]?=some x) (hx:Loc X.env.scope x) (he:PE X e te) (hs:swapsWith e (some (.Name x pos')) pos.line X.env=pure false:=by rfl) (hf:X.fn x=true∨X.env.scope.names.lookup x=some .local:=by first | exact .inl rfl | exact .inr rfl | assumption) :
  PS X (.Assign [.Name x pos'] e pos) (tAsg te (ZCz i)):=by
 intro pins s σ H D I h
 refine wpAny_Assign_Name (thn (he pins s σ H _ I h) fun v s1 ⟨y,H1,I1,r1,q1⟩=>?_) hs
 exact ZCA I1 hN hi hx r1 (fun s2 I2=>⟨_,H1,I2,q1⟩) hf
def tAug (i:Nat) (te:TE) (ti:TIp):TS:=fun D σ H=>∃ x,σ[i]?=some (some x) /\ te σ H fun y H1=>ti x y H1 fun z H2=>D.nx (σ.set i (some z)) H2
def ipI (f:Int->Int->Int):TIp:=fun x y H Q=>∃ i j,x=.int i /\ y=.int j /\ Q (.int (f i j)) H
end
section
variable {X:Cx} {pos:Pos}
end
structure It where
 go:Nat->Hp->Prop
 yld:Nat->Hp->V->Hp->Prop
 stop:Nat->Hp->Prop
def FpOk (X:Cx) (pins:List (Addr×Obj)) (H:Hp) (b:Addr):Prop :=
 H b=none /\ b≠X.env.locals /\ b∉X.fs /\ (b∈X.ex∨X.s₀.heap.objs.size <= b) /\ (∀ x c,X.env.cells.lookup x=some c->c≠b) /\ ∀ p∈X.pn++pins,p.1≠b
theorem Inv.fpOk {X:Cx} {pins:List (Addr×Obj)} {σ:St} {H H':Hp} {s:Shared} {b:Addr} (I:Inv X pins σ H s) (hb:s.heap.objs.size <= b) (hn:H' b=none):FpOk X pins H' b:=by
 refine ⟨hn,Nat.ne_of_gt (yAG I.lt hb),I.nofs hb,.inr (yAH I.sz hb),fun x c e z=>?_,fun p hp z=>?_⟩
 .obtain ⟨v,q⟩:=I.cell x c e
  exact absurd (yAG q.lt (by rw [z];exact hb)) (yAZ _)
 .exact absurd (yAG (Heap.lt_size (I.pin p hp).1) (by rw [z];exact hb)) (yAZ _)
structure Turn (P:Program) (w:World) (K:W.Frag) (tg:Expr) (J:It) (fp:List Addr) (it:Addr) (tn:Nat->Heap->Prop):Prop where
 mem:it∈fp
 obj:∀ i h,tn i h->∀ b∈fp,∃ o,h.get? b=some o /\ ∀ v,o.data≠.cell v
 keep:∀ i h h',tn i h->(∀ b∈fp,∀ o,h.get? b=some o->h'.get? b=some o)->tn i h'
 item:∀ (X:Cx),X.prog=P->X.w=w->X.K=K->X.calm=true->∀ (i:Nat) (pins:List (Addr×Obj)) (s:Shared) (σ:St) (H:Hp) (E:Value->Shared->Prop),Inv X pins σ H s->(∀ b∈fp,FpOk X pins H b)->tn i s.heap->J.go i H ->
  wpAny (model P w) X.A (pyNext (.ref it)) (fun r s1=>∃ u,r=some u /\
   wpAny (model P w) X.A (letOwnedTupleGo tg (.ref it) u) (fun _ s2=>∃ x H',Inv X pins σ H' s2 /\ RelV x u /\ J.yld i H x H' /\ tn (i+1) s2.heap /\ ∀ b∈fp,H' b=none) E s1) E s
 done:∀ (X:Cx),X.prog=P->X.w=w->X.K=K->X.calm=true->∀ (i:Nat) (pins:List (Addr×Obj)) (s:Shared) (σ:St) (H:Hp) (E:Value->Shared->Prop),Inv X pins σ H s->(∀ b∈fp,FpOk X pins H b)->tn i s.heap->J.stop i H ->
  wpAny (model P w) X.A (pyNext (.ref it)) (fun r s1=>r=none /\ Inv X pins σ H s1) E s
 self:∀ (A:Around) (i:Nat) (s:Shared) (Q:Value->Shared->Prop) (E:Value->Shared->Prop),tn i s.heap->Q (.ref it) s->wpAny (model P w) A (pyIter (.ref it)) Q E s
abbrev TI:=St->Hp->(It->Hp->Prop)->Prop
def PIE (X:Cx) (pins:List (Addr×Obj)) (σ:St) (tg:Expr) (R:It->Hp->Prop) (itv:Value) (s2:Shared):Prop :=
 ∃ (it:Addr) (fp:List Addr) (tn:Nat->Heap->Prop) (J:It) (H':Hp),itv=.ref it /\ Inv X pins σ H' s2 /\ Turn X.prog X.w X.K tg J fp it tn /\ tn 0 s2.heap /\ (∀ b∈fp,FpOk X pins H' b) /\ R J H'
def PI (X:Cx) (tg iter:Expr) (wi:TI):Prop :=
 ∀ (pins:List (Addr×Obj)) (s:Shared) (σ:St) (H:Hp) (R:It->Hp->Prop),Inv X pins σ H s->wi σ H R ->
  wpAny (model X.prog X.w) X.A (eval iter X.env) (fun v s1=>wpAny (model X.prog X.w) X.A (pyIter v) (PIE X pins σ tg R) X.xe s1) X.xe s
theorem go_of {M:Model} {A:Around} {E:Value->Shared->Prop} {s:Shared} {tg:Expr} {it:Addr} {u:Value} {o:Obj} {n:String} {vs:Array Value} {Q:Unit->Shared->Prop} (ho:s.heap.get? it=some o) (hc:o.cls=.type n) (hd:o.data=.fields vs)
  (hn:["enumerate","zip","dict_itemiterator","dict_reverseitemiterator","odict_iterator","itertools.zip_longest","itertools.pairwise"].contains n=false) (hQ:Q () s):wpAny M A (letOwnedTupleGo tg (.ref it) u) Q E s:=by
 unfold letOwnedTupleGo
 cases tg <;> first
  | exact wpAny_pure hQ
  | (cases u <;> first
    | exact wpAny_pure hQ
    | (refine wpAny_bind (wpAny_load ho ?_)
       rw [hc,hd]
       show wpAny M A (if (["enumerate","zip","dict_itemiterator","dict_reverseitemiterator","odict_iterator","itertools.zip_longest","itertools.pairwise"].contains n && vs[0]? == some (rawInt _))=true then _ else _) Q E s
       rw [if_neg (by intro h;rw [hn,Bool.false_and] at h;cases h)]
       exact wpAny_pure hQ))
def Itl (K:W.Frag) (a:Addr):It :=
 ⟨fun i H=>∃ xs x,SqL K H a xs /\ xs[i]?=some x,fun i H x H'=>H'=H /\ ∀ xs,SqL K H a xs->xs[i]?=some x,fun i H=>∃ xs,SqL K H a xs /\ xs.length <= i⟩
def Itr (lo:Int) (n:Nat):It:=⟨fun i _=>i < n,fun i H x H'=>H'=H /\ x=.int (lo+i),fun i _=>n <= i⟩
theorem turn_list {P:Program} {w:World} {K:W.Frag} {tg:Expr} (a it:Addr):Turn P w K tg (Itl K a) [it] it (fun i h=>h.IsListIter it a i) where
 mem:=by simp
 obj:=fun i h st b hb=>by
  have e:b=it:=by simpa using hb
  subst e
  obtain ⟨o,e,c,d⟩:=st
  exact ⟨o,e,fun v z=>by rw [d] at z;cases z⟩
 keep:=fun i h h' st k=>st.at fun o e=>k it (by simp) o e
 item:=by
  intro X hP hw hK hc i pins s σ H E I hf st hg
  subst hP hw hK
  obtain ⟨xs,x,hq,hx⟩:=hg
  obtain ⟨its,rv,p,hz⟩:=I.list hq
  obtain ⟨u,hu,ru⟩:=rv.get hx
  obtain ⟨f0,f1,f2,f3,f4,f5⟩:=hf it (by simp)
  refine wpAny_pyNext_list_item st p.isList (x:=u) (by simpa using hu) fun h' st' sb=>?_
  have I1:Inv X pins σ H { s with heap:=h' }:=I.turned (t':=s.toks) (fun b o hb e=>(sb.2 b hb).trans e) f0 f1 f3 f4 f5
  obtain ⟨o,e,c,d⟩:=id st'
  exact ⟨u,rfl,go_of (s:={ s with heap:=h' }) e c d (by decide) ⟨x,H,I1,ru,⟨rfl,fun ys hy=>by rw [I.list_inj hy hq];exact hx⟩,st',fun b hb=>(hf b hb).1⟩⟩
 done:=by
  intro X hP hw hK hc i pins s σ H E I hf st hg
  subst hP hw hK
  obtain ⟨xs,hq,hx⟩:=hg
  obtain ⟨its,rv,p,hz⟩:=I.list hq
  obtain ⟨f0,f1,f2,f3,f4,f5⟩:=hf it (by simp)
  have hl:=rv.length
  exact wpAny_pyNext_list_end (I.ok.hd hc) st p.isList (by simp;omega) fun h' eb=>⟨rfl,I.turned (t':=s.toks) (fun b o hb e=>eb b o hb e) f0 f1 f3 f4 f5⟩
 self:=fun _ _ _ _ _ st h=>wpAny_pyIter_listiter st h
theorem turn_range {P:Program} {w:World} {K:W.Frag} {tg:Expr} (it:Addr) (lo:Int) (n:Nat):Turn P w K tg (Itr lo n) [it] it (fun i h=>IsRangeIter h it (lo+(i:Nat) * 1) ((n:Int)-(i:Nat)) 1) where
 mem:=by simp
 obj:=fun i h st b hb=>by
  have e:b=it:=by simpa using hb
  subst e
  exact ⟨_,st,fun v z=>by
   have z':Data.fields _=Data.cell v:=z
   cases z'⟩
 keep:=fun i h h' st k=>k it (by simp) _ st
 item:=by
  intro X hP hw hK hc i pins s σ H E I hf st hg
  subst hP hw hK
  obtain ⟨f0,f1,f2,f3,f4,f5⟩:=hf it (by simp)
  have W:=Walks.range (prog:=X.prog) (w:=X.w) (I.ok.hd hc) it lo 1 n
  refine W.item i s _ _ hg st fun v h' tk hv st' kk=>?_
  obtain ⟨t,rfl⟩:=hv
  have I1:Inv X pins σ H { s with heap:=h',toks:=tk }:=I.turned (fun b o hb e=>kk b o (by simpa using hb) e) f0 f1 f3 f4 f5
  refine ⟨_,rfl,go_of (s:={ s with heap:=h',toks:=tk }) (n:="range_iterator") st' rfl rfl (by decide) ⟨.int (lo+i),H,I1,⟨t,?_⟩,⟨rfl,rfl⟩,st',fun b hb=>(hf b hb).1⟩⟩
  rw [Int.mul_one]
 done:=by
  intro X hP hw hK hc i pins s σ H E I hf st hg
  subst hP hw hK
  obtain ⟨f0,f1,f2,f3,f4,f5⟩:=hf it (by simp)
  exact wpAny_pyNext_range_end (I.ok.hd hc) st (by have:n <= i:=hg;omega) fun h' eb=>⟨rfl,I.turned (t':=s.toks) (fun b o hb e=>eb b o hb e) f0 f1 f3 f4 f5⟩
 self:=fun _ _ _ _ _ st h=>wpAny_pyIter_rangeiter st h
section
variable {X:Cx} {tg:Expr}
def ZDC (K:W.Frag) (tl:TE):TI:=fun σ H R=>tl σ H fun x H1=>∃ a,x=.ref a /\ (∃ xs,SqL K H1 a xs) /\ R (Itl K a) H1
theorem pi_list {l:Expr} {tl:TE} (hl:PE X l tl):PI X tg l (ZDC X.K tl):=by
 intro pins s σ H R I h
 refine thn (hl pins s σ H _ I h) fun v s1 ⟨x,H1,I1,r1,q1⟩=>?_
 obtain ⟨a,e,⟨xs,hq⟩,q⟩:=q1
 subst e
 cases r1
 obtain ⟨its,rv,p,hz⟩:=I1.list hq
 refine wpAny_pyIter_list p.isList ?_
 refine ⟨s1.heap.objs.size,[s1.heap.objs.size],_,_,H1,rfl,I1.kept (t':=s1.toks) fun b o e=>Heap.get?_push_of_some _ e,turn_list a _,⟨_,Heap.get?_push_size _ rfl,rfl,rfl⟩,fun b hb=>?_,q⟩
 have e:b=s1.heap.objs.size:=by simpa using hb
 subst e
 exact I1.fpOk (yAB _) (I1.hok.fresh (yAB _))
theorem range_it {pins:List (Addr×Obj)} {σ:St} {H:Hp} {s:Shared} {R:It->Hp->Prop} {E:Value->Shared->Prop} {lo hi:Int} {t u v:Tok} {tk:Nat} (I:Inv X pins σ H s) (h1:-(2 ^ 62) <= lo) (h2:lo < 2 ^ 62) (h3:-(2 ^ 62) <= hi) (h4:hi < 2 ^ 62)
  (q:R (Itr lo (hi-lo).toNat) H):wpAny (model X.prog X.w) X.A (pyIter (.ref s.heap.objs.size)) (PIE X pins σ tg R) E { s with heap:=s.heap.push { cls:=.type "range",data:=.fields #[.int lo t,.int hi u,.int 1 v] },toks:=tk }:=by
 refine wpAny_pyIter_range (IsRange.new ..) (small_one h1 h2 h3 h4) ?_
 have I1:Inv X pins σ H { s with heap:=s.heap.push { cls:=.type "range",data:=.fields #[.int lo t,.int hi u,.int 1 v] },toks:=tk }:=I.kept fun b o e=>Heap.get?_push_of_some _ e
 refine ⟨(s.heap.push { cls:=.type "range",data:=.fields #[.int lo t,.int hi u,.int 1 v] }).objs.size,[(s.heap.push { cls:=.type "range",data:=.fields #[.int lo t,.int hi u,.int 1 v] }).objs.size],_,_,H,rfl,
  I1.kept (t':=tk) fun b o e=>Heap.get?_push_of_some _ e,turn_range _ lo (hi-lo).toNat,?_,fun b hb=>?_,q⟩
 .have e1:lo+((0:Nat):Int) * 1=lo:=by simp
  have e2:(((hi-lo).toNat:Nat):Int)-((0:Nat):Int)=Builtin.Range.rangeSize lo hi 1:=by rw [rangeSize_one];split <;> omega
  show IsRangeIter _ _ (lo+((0:Nat):Int) * 1) ((((hi-lo).toNat:Nat):Int)-((0:Nat):Int)) 1
  rw [e1,e2]
  exact Heap.get?_push_size _ rfl
 .have e:b=(s.heap.push { cls:=.type "range",data:=.fields #[.int lo t,.int hi u,.int 1 v] }).objs.size:=by simpa using hb
  subst e
  exact I1.fpOk (yAB _) (I1.hok.fresh (yAB _))
def ZDB (ta:TA):TI:=fun σ H R=>ta σ H fun vs H1=>∃ j:Int,vs=[.int j] /\ -(2 ^ 62) <= j /\ j < 2 ^ 62 /\ R (Itr 0 j.toNat) H1
def iRng2 (ta:TA):TI:=fun σ H R=>ta σ H fun vs H1=>∃ i j:Int,vs=[.int i,.int j] /\ (-(2 ^ 62) <= i /\ i < 2 ^ 62 /\ -(2 ^ 62) <= j /\ j < 2 ^ 62) /\ R (Itr i (j-i).toNat) H1
theorem pi_range1 {a:Expr} {ta:TA} {p pos:Pos} (hg:Gl X "range") (hm:X.mg "range"=none) (ha:PA X [a] ta) (hs:starEach [a] X.env=[(false,eval a X.env)]:=by rfl):PI X tg (.Call (.Name "range" p) [a] [] pos) (ZDB ta):=by
 intro pins s σ H R I h
 refine Call_ (ZCf I hg hm boot_range (PyProof.Rows.callWith_type1 (thn (ha pos pins s σ H _ I h) fun us s1 ⟨vs,H1,I1,r1,q1⟩=>?_) hs rfl))
 obtain ⟨j,e,q1,q2,q⟩:=q1
 subst e
 cases r1 with
 | cons r rr=>
  cases rr
  obtain ⟨t,rfl⟩:=r
  exact call_range_1 (range_it I1 (by omega) (by omega) q1 q2 (by simpa using q))
def tFor (wi:TI) (g:TG) (tb:TS):TS:=fun D σ H=>wi σ H fun J H1=>∃ W:Nat->Nat->St->Hp->Prop,(∃ m,W 0 m σ H1) /\ ∀ i m σ H,W i m σ H ->
 (J.stop i H /\ D.nx σ H)∨(J.go i H /\ ∃ N:St->Hp->Prop,(∀ σ' H',N σ' H'->∃ m',m' < m /\ W (i+1) m' σ' H') /\ ∀ x H',J.yld i H x H'->g x σ H' fun σ2 H2=>tb { D with nx:=N,ct:=N,bk:=D.nx } σ2 H2)
def ZCM (fp:List Addr) (h:Heap):List (Addr×Obj):=fp.filterMap fun b=>(h.get? b).map fun o=>(b,o)
theorem ZBO {fp:List Addr} {h:Heap} {b:Addr} {o:Obj} (hb:b∈fp) (e:h.get? b=some o):(b,o)∈ZCM fp h:=List.mem_filterMap.mpr ⟨b,hb,by rw [e];rfl⟩
theorem of_pinsAt {fp:List Addr} {h:Heap} {p:Addr×Obj} (hp:p∈ZCM fp h):p.1∈fp /\ h.get? p.1=some p.2:=by
 obtain ⟨b,hb,e⟩:=List.mem_filterMap.mp hp
 cases q:h.get? b with
 | none=>rw [q] at e;cases e
 | some o=>
  rw [q] at e
  have e':(b,o)=p:=Option.some.inj e
  subst e'
  exact ⟨hb,q⟩
theorem Inv.pinned {pins:List (Addr×Obj)} {σ:St} {H:Hp} {s:Shared} {fp:List Addr} (I:Inv X pins σ H s) (hf:∀ b∈fp,FpOk X pins H b) (ho:∀ b∈fp,∃ o,s.heap.get? b=some o /\ ∀ v,o.data≠.cell v):Inv X (pins++ZCM fp s.heap) σ H s :=
 I.pins_of fun p hp=>(List.mem_append.mp hp).elim (fun z=>I.pin p (yAS _ z)) fun z=>by
  obtain ⟨hb,e⟩:=of_pinsAt z
  obtain ⟨f0,f1,f2,_⟩:=hf p.1 hb
  obtain ⟨o,e',d⟩:=ho p.1 hb
  rw [e] at e';cases e'
  exact ⟨e,f0,f1,f2,d⟩
theorem Inv.unpinned {pins pl:List (Addr×Obj)} {σ:St} {H:Hp} {s:Shared} (I:Inv X (pins++pl) σ H s):Inv X pins σ H s:=I.pins_of fun p hp=>I.pin p (yAS _ (List.mem_append_left _ hp))
theorem ps_for {iter:Expr} {body:List Stmt} {wi:TI} {g:TG} {tb:TS} {pos:Pos} (hp:PassesOwn (model X.prog X.w) X.A X.env X.xe) (hc:X.calm=true) (hi:PI X tg iter wi) (hg:PG X tg g) (hb:PSs X body tb)
  (hs:∀ x,foldedSetIterable iter X.env x=pure x:=by intro _;rfl):PS X (.For tg iter body [] pos) (tFor wi g tb):=by
 intro pins s σ H D I h
 refine wpAny_For (thn (hi pins s σ H _ I h) fun v s1 h1=>thn h1 fun itv s2 h2=>?_) hs
 obtain ⟨it,fp,tn,J,H2,e,I2,T,st2,f2,W,⟨m0,w0⟩,turn⟩:=h2
 subst e
 have stat:∀ {H':Hp},(∀ b∈fp,H' b=none)->∀ b∈fp,FpOk X pins H' b:=fun hn b hb=>⟨hn b hb,(f2 b hb).2⟩
 refine codeAny_forLoop_any (fun n s'=>∃ i σ' H',Inv X pins σ' H' s' /\ tn i s'.heap /\ (∀ b∈fp,H' b=none) /\ W i n σ' H') ?_ m0 ⟨0,σ,H2,I2,st2,fun b hb=>(f2 b hb).1,w0⟩
 rintro n s3 ⟨i,σ3,H3,I3,st3,fr3,w3⟩
 rcases turn i n σ3 H3 w3 with ⟨stop,qn⟩ | ⟨go,N,hN,step⟩
 .refine wpAny_passesOwn hp (thn (T.done X rfl rfl rfl hc i pins s3 σ3 H3 X.xe I3 (stat fr3) st3 stop) fun r s4 ⟨hr,I4⟩=>?_)
  subst hr
  exact wpAny_execs_nil ⟨σ3,H3,I4,qn⟩
 .refine wpAny_passesOwn hp (thn (T.item X rfl rfl rfl hc i pins s3 σ3 H3 X.xe I3 (stat fr3) st3 go) fun r s4 ⟨u,hr,h4⟩=>?_)
  subst hr
  refine wpAny_passesOwn hp (thn h4 fun _ s5 ⟨x,H5,I5,r5,y5,st5,fr5⟩=>?_)
  have I5':=I5.pinned (stat fr5) (T.obj _ _ st5)
  refine wpAny_passesOwn hp (thn (hg _ s5 σ3 H5 x u _ I5' r5 (step x H5 y5)) fun _ s6 ⟨σ6,H6,I6,q6⟩=>?_)
  refine wpAny_passesOwn hp (thn (hb _ s6 σ6 H6 _ I6 q6) fun f s7 q7=>?_)
  have again:∀ {σ7:St} {H7:Hp},Inv X (pins++ZCM fp s5.heap) σ7 H7 s7->N σ7 H7->∃ m,m < n /\ ∃ i σ' H',Inv X pins σ' H' s7 /\ tn i s7.heap /\ (∀ b∈fp,H' b=none) /\ W i m σ' H':=fun {σ7 H7} I7 n7=>by
   obtain ⟨m',hm,w7⟩:=hN σ7 H7 n7
   refine ⟨m',hm,i+1,σ7,H7,I7.unpinned,T.keep _ _ _ st5 fun b hb o e=>(I7.pin (b,o) (yAS _ (yAS _ (ZBO hb e)))).1,fun b hb=>?_,w7⟩
   obtain ⟨o,e,d⟩:=T.obj _ _ st5 b hb
   exact (I7.pin (b,o) (yAS _ (yAS _ (ZBO hb e)))).2.1
  cases f with
  | next=>obtain ⟨σ7,H7,I7,n7⟩:=q7;exact again I7 n7
  | cont=>obtain ⟨σ7,H7,I7,n7⟩:=q7;exact again I7 n7
  | brk=>obtain ⟨σ7,H7,I7,q7⟩:=q7;exact ⟨σ7,H7,I7.unpinned,q7⟩
  | ret v=>obtain ⟨x7,σ7,H7,I7,r7,q7⟩:=q7;exact ⟨x7,σ7,H7,I7.unpinned,r7,q7⟩
end
theorem for_list {K:W.Frag} {a:Addr} {xs:List V} {g:TG} {tb:TS} {D:Ends} {σ:St} {H:Hp} (Pv:Nat->St->Hp->Prop) (h0:Pv 0 σ H) (hl:∀ i σ H,i <= xs.length->Pv i σ H->SqL K H a xs)
  (hs:∀ i x σ H,xs[i]?=some x->Pv i σ H->g x σ H fun σ2 H2=>tb { D with nx:=Pv (i+1),ct:=Pv (i+1),bk:=D.nx } σ2 H2) (hd:∀ σ H,Pv xs.length σ H->D.nx σ H) :
  ∃ W:Nat->Nat->St->Hp->Prop,(∃ m,W 0 m σ H) /\ ∀ i m σ H,W i m σ H ->
   ((Itl K a).stop i H /\ D.nx σ H)∨((Itl K a).go i H /\ ∃ N:St->Hp->Prop,(∀ σ' H',N σ' H'->∃ m',m' < m /\ W (i+1) m' σ' H') /\ ∀ x H',(Itl K a).yld i H x H'->g x σ H' fun σ2 H2=>tb { D with nx:=N,ct:=N,bk:=D.nx } σ2 H2):=by
 refine ⟨fun i m σ H=>m=xs.length-i /\ i <= xs.length /\ Pv i σ H,⟨xs.length,by simp,yAU _,h0⟩,?_⟩
 rintro i m σ H ⟨rfl,hi,p⟩
 have q:=hl i σ H hi p
 by_cases hlt:i < xs.length
 .refine .inr ⟨⟨xs,xs[i],q,by simp [hlt]⟩,Pv (i+1),fun σ' H' p'=>⟨xs.length-(i+1),by omega,rfl,hlt,p'⟩,fun x H' y=>?_⟩
  obtain ⟨e,y⟩:=y
  subst e
  exact hs i x σ _ (y xs q) p
 .have e:i=xs.length:=by omega
  subst e
  exact .inl ⟨⟨xs,q,yAB _⟩,hd σ H p⟩
theorem for_range {lo:Int} {n:Nat} {g:TG} {tb:TS} {D:Ends} {σ:St} {H:Hp} (Pv:Nat->St->Hp->Prop) (h0:Pv 0 σ H)
  (hs:∀ i σ H,i < n->Pv i σ H->g (.int (lo+i)) σ H fun σ2 H2=>tb { D with nx:=Pv (i+1),ct:=Pv (i+1),bk:=D.nx } σ2 H2) (hd:∀ σ H,Pv n σ H->D.nx σ H) :
  ∃ W:Nat->Nat->St->Hp->Prop,(∃ m,W 0 m σ H) /\ ∀ i m σ H,W i m σ H ->
   ((Itr lo n).stop i H /\ D.nx σ H)∨((Itr lo n).go i H /\ ∃ N:St->Hp->Prop,(∀ σ' H',N σ' H'->∃ m',m' < m /\ W (i+1) m' σ' H') /\ ∀ x H',(Itr lo n).yld i H x H'->g x σ H' fun σ2 H2=>tb { D with nx:=N,ct:=N,bk:=D.nx } σ2 H2):=by
 refine ⟨fun i m σ H=>m=n-i /\ i <= n /\ Pv i σ H,⟨n,by simp,yAU _,h0⟩,?_⟩
 rintro i m σ H ⟨rfl,hi,p⟩
 by_cases hlt:i < n
 .refine .inr ⟨hlt,Pv (i+1),fun σ' H' p'=>⟨n-(i+1),by omega,rfl,hlt,p'⟩,fun x H' y=>?_⟩
  obtain ⟨e,y⟩:=y
  subst e y
  exact hs i σ _ hlt p
 .have e:i=n:=by omega
  subst e
  exact .inl ⟨yAB _,hd σ H p⟩
abbrev R2:=V->V->Hp->VK->Prop
def OpR (X:Cx) (f:Value->Value->Sem Value) (r:R2):Prop :=
 ∀ (pins:List (Addr×Obj)) (s:Shared) (σ:St) (H:Hp) (x y:V) (v u:Value) (Q:VK),Inv X pins σ H s->RelV x v->RelV y u->r x y H Q ->
  wpAny (model X.prog X.w) X.A (f v u) (EP X pins σ Q) X.xe s
def ZBi (X:Cx) (f:Value) (r:List V->Hp->VK->Prop):Prop :=
 ∀ (pins:List (Addr×Obj)) (s:Shared) (σ:St) (H:Hp) (xs:List V) (us:List Value) (Q:VK),Inv X pins σ H s->Vals xs us->r xs H Q ->
  wpAny (model X.prog X.w) X.A (call f us) (EP X pins σ Q) X.xe s
def tOp (r:R2) (ta tb:TE):TE:=fun σ H Q=>ta σ H fun x H1=>tb σ H1 fun y H2=>r x y H2 Q
def tUn (r:V->Hp->VK->Prop) (ta:TE):TE:=fun σ H Q=>ta σ H fun x H1=>r x H1 Q
def rI (C:Int->Int->Prop) (g:Int->Int->V):R2:=fun x y H Q=>∃ i j,x=.int i /\ y=.int j /\ C i j /\ Q (g i j) H
def rI0 (g:Int->Int->V):R2:=fun x y H Q=>∃ i j,x=.int i /\ y=.int j /\ Q (g i j) H
def rU (g:Int->V):V->Hp->VK->Prop:=fun x H Q=>∃ i,x=.int i /\ Q (g i) H
section
variable {X:Cx} {a b c:Expr} {ta tb tc:TE} {pos:Pos}
theorem binT (ha:PE X a ta) (hb:PE X b tb) {pins:List (Addr×Obj)} {s:Shared} {σ:St} {H:Hp} {R:V->V->Hp->Prop} (I:Inv X pins σ H s)
  (h:ta σ H fun x H1=>tb σ H1 fun y H2=>R x y H2) {Q:Value->Shared->Prop} {f:Value->Value->Sem Value}
  (hf:∀ v u s2 x y H2,Inv X pins σ H2 s2->RelV x v->RelV y u->R x y H2->wpAny (model X.prog X.w) X.A (f v u) Q X.xe s2) :
  wpAny (model X.prog X.w) X.A (eval a X.env) (fun v s₁=>wpAny (model X.prog X.w) X.A (eval b X.env) (fun u s₂=>wpAny (model X.prog X.w) X.A (f v u) Q X.xe s₂) X.xe s₁) X.xe s:=by
 refine thn (ha pins s σ H _ I h) fun v s1 ⟨x,H1,I1,r1,q1⟩=>?_
 refine thn (hb pins s1 σ H1 _ I1 q1) fun u s2 ⟨y,H2,I2,r2,q2⟩=>?_
 exact hf v u s2 x y H2 I2 r1 r2 q2
theorem ZAm {op:Operator} {r:R2} (ho:OpR X (binaryOp op) r) (ha:PE X a ta) (hb:PE X b tb):PE X (.BinOp a op b pos) (tOp r ta tb):=by
 intro pins s σ H Q I h
 exact wpAny_BinOp (binT ha hb I h fun v u s2 x y H2 I2 rx ry q=>ho pins s2 σ H2 x y v u Q I2 rx ry q)
theorem opI {f:Value->Value->Sem Value} {C:Int->Int->Prop} {g:Int->Int->Int}
  (rule:∀ (i j:Int) (t u:Tok) (s:Shared) (Q:Value->Shared->Prop) (E:Value->Shared->Prop),C i j->Q (.int (g i j) s.toks) { s with toks:=s.toks+1 }->wpAny (model X.prog X.w) X.A (f (.int i t) (.int j u)) Q E s) :
  OpR X f (rI C fun i j=>.int (g i j)):=by
 intro pins s σ H x y v u Q I rx ry h
 obtain ⟨i,j,rfl,rfl,hc,q⟩:=h
 obtain ⟨t,rfl⟩:=rx
 obtain ⟨t',rfl⟩:=ry
 exact rule i j t t' s _ _ hc ⟨.int (g i j),H,I.tok _,⟨_,rfl⟩,q⟩
theorem opI0 {f:Value->Value->Sem Value} {g:Int->Int->Int}
  (rule:∀ (i j:Int) (t u:Tok) (s:Shared) (Q:Value->Shared->Prop) (E:Value->Shared->Prop),Q (.int (g i j) s.toks) { s with toks:=s.toks+1 }->wpAny (model X.prog X.w) X.A (f (.int i t) (.int j u)) Q E s) :
  OpR X f (rI0 fun i j=>.int (g i j)):=by
 intro pins s σ H x y v u Q I rx ry h
 obtain ⟨i,j,rfl,rfl,q⟩:=h
 obtain ⟨t,rfl⟩:=rx
 obtain ⟨t',rfl⟩:=ry
 exact rule i j t t' s _ _ ⟨.int (g i j),H,I.tok _,⟨_,rfl⟩,q⟩
theorem opB0 {f:Value->Value->Sem Value} {g:Int->Int->Bool}
  (rule:∀ (i j:Int) (t u:Tok) (s:Shared) (Q:Value->Shared->Prop) (E:Value->Shared->Prop),Q (.bool (g i j)) s->wpAny (model X.prog X.w) X.A (f (.int i t) (.int j u)) Q E s) :
  OpR X f (rI0 fun i j=>.bl (g i j)):=by
 intro pins s σ H x y v u Q I rx ry h
 obtain ⟨i,j,rfl,rfl,q⟩:=h
 obtain ⟨t,rfl⟩:=rx
 obtain ⟨t',rfl⟩:=ry
 exact rule i j t t' s _ _ ⟨.bl (g i j),H,I,rfl,q⟩
def CDiv (i j:Int):Prop:=0 < j /\ j < 1073741824
def CPow (i j:Int):Prop:=0 <= j /\ j <= 1000000 /\ i.natAbs < 2 ^ 64
def CMul (i j:Int):Prop:=(-(2 ^ 64) < i /\ i < 2 ^ 64)∨(-(2 ^ 64) < j /\ j < 2 ^ 64)
theorem CMul.ok {i j:Int} (h:CMul i j):IntMulOk i j:=by
 rcases h with ⟨h1,h2⟩ | ⟨h1,h2⟩
 .exact .of_left (intBits_le_64 h1 h2)
 .exact .of_right (intBits_le_64 h1 h2)
theorem ZB4:OpR X (binaryOp .Add) (rI0 fun i j=>.int (i+j)):=opI0 fun _ _ _ _ _ _ _ q=>add_int q
theorem op_sub:OpR X (binaryOp .Sub) (rI0 fun i j=>.int (i-j)):=opI0 fun _ _ _ _ _ _ _ q=>sub_int q
theorem op_mul:OpR X (binaryOp .Mult) (rI CMul fun i j=>.int (i * j)):=opI fun _ _ _ _ _ _ _ hc q=>mul_int q hc.ok
theorem ZBG:OpR X (binaryOp .FloorDiv) (rI CDiv fun i j=>.int (i / j)):=opI fun i j _ _ _ _ _ hc q=>by
 have h1:(0:Int) < j:=hc.1
 have h2:j < 1073741824:=hc.2
 exact floordiv_int (by omega) (by rw [Int.fdiv_eq_ediv_of_nonneg i (by omega)];exact q) (.inl (PyProof.noPylong_small (by omega)))
theorem ZBC:OpR X (binaryOp .Mod) (rI (fun _ j=>0 < j) fun i j=>.int (i % j)):=opI fun i j _ _ _ _ _ hc q=>by
 have h1:(0:Int) < j:=hc
 exact mod_int' (by omega) (by rw [Int.fmod_eq_emod_of_nonneg i (by omega)];exact q)
theorem op_pow:OpR X (binaryOp .Pow) (rI CPow fun i j=>.int (i ^ j.toNat)):=opI fun _ _ _ _ _ _ _ hc q=>pow_int_small hc.1 hc.2.1 hc.2.2 q
end
def scal:V->V->Bool
 | .non,.non=>true | .non,.int _=>true | .int _,.non=>true | .non,.bl _=>true | .bl _,.non=>true | .non,.str _=>true | .str _,.non=>true
 | .int _,.int _=>true | .bl _,.bl _=>true | .str _,.str _=>true | .byt _,.byt _=>true
 | .int _,.str _=>true | .str _,.int _=>true | .bl _,.str _=>true | .str _,.bl _=>true
 | _,_=>false
def rEq:R2:=fun x y H Q=>scal x y=true /\ Q (.bl (decide (x=y))) H
def rNe:R2:=fun x y H Q=>scal x y=true /\ Q (.bl (!decide (x=y))) H
theorem dec_int {i j:Int}:decide (V.int i=V.int j)=(i == j):=by
 rw [Bool.eq_iff_iff]
 simp
theorem dec_bl {i j:Bool}:decide (V.bl i=V.bl j)=(i == j):=by
 rw [Bool.eq_iff_iff]
 simp
theorem dec_str {i j:Str}:decide (V.str i=V.str j)=(i == j):=by
 rw [Bool.eq_iff_iff]
 simp
theorem dec_byt {i j:Array UInt8}:decide (V.byt i=V.byt j)=(i.toList == j.toList):=by
 rw [Bool.eq_iff_iff]
 cases i
 cases j
 simp
section
variable {X:Cx} {a b c:Expr} {ta tb tc:TE} {pos:Pos}
theorem ZAS {pins:List (Addr×Obj)} {σ:St} {H:Hp} {s:Shared} {Q:VK} {k k':Bool} (I:Inv X pins σ H s) (q:Q (.bl k) H) (e:k=k'):EP X pins σ Q (.bool k') s:=by
 subst e
 exact ⟨.bl k,H,I,rfl,q⟩
theorem ZCN:OpR X (compareOp .Eq) rEq:=by
 intro pins s σ H x y v u Q I rx ry h
 obtain ⟨hs,q⟩:=h
 cases x with
 | non=>
  cases rx
  cases y with
  | non=>cases ry;exact PySem.EqNone.eq_none_none (ZAS I q (by simp))
  | bl j=>cases ry;exact PySem.EqNone.eq_none_bool (ZAS I q (by simp))
  | int j=>obtain ⟨t',rfl⟩:=ry;exact PySem.EqNone.eq_none_int (ZAS I q (by simp))
  | str j=>obtain ⟨t',rfl⟩:=ry;exact PySem.EqNone.eq_none_str (ZAS I q (by simp))
  | _=>exact absurd (show false=true from hs) yAI
 | bl i=>
  cases rx
  cases y with
  | non=>cases ry;exact PySem.EqNone.eq_bool_none (ZAS I q (by simp))
  | bl j=>cases ry;exact eq_bool (ZAS I q dec_bl)
  | str j=>obtain ⟨t',rfl⟩:=ry;exact PySem.EqMixed.eq_bool_str (ZAS I q (by simp))
  | _=>exact absurd (show false=true from hs) yAI
 | int i=>
  obtain ⟨t,rfl⟩:=rx
  cases y with
  | non=>cases ry;exact PySem.EqNone.eq_int_none (ZAS I q (by simp))
  | int j=>obtain ⟨t',rfl⟩:=ry;exact eq_int (ZAS I q dec_int)
  | str j=>obtain ⟨t',rfl⟩:=ry;exact PySem.EqMixed.eq_int_str (ZAS I q (by simp))
  | _=>exact absurd (show false=true from hs) yAI
 | str i=>
  obtain ⟨t,rfl⟩:=rx
  cases y with
  | non=>cases ry;exact PySem.EqNone.eq_str_none (ZAS I q (by simp))
  | bl j=>cases ry;exact PySem.EqMixed.eq_str_bool (ZAS I q (by simp))
  | int j=>obtain ⟨t',rfl⟩:=ry;exact PySem.EqMixed.eq_str_int (ZAS I q (by simp))
  | str j=>obtain ⟨t',rfl⟩:=ry;exact eq_str (ZAS I q dec_str)
  | _=>exact absurd (show false=true from hs) yAI
 | byt i=>
  obtain ⟨t,rfl⟩:=rx
  cases y with
  | byt j=>obtain ⟨t',rfl⟩:=ry;exact PySem.W.eq_bytes (ZAS I q dec_byt)
  | _=>exact absurd (show false=true from hs) yAI
 | _=>cases y <;> exact absurd (show false=true from hs) yAI
theorem op_ne:OpR X (compareOp .NotEq) rNe:=by
 intro pins s σ H x y v u Q I rx ry h
 obtain ⟨hs,q⟩:=h
 cases x with
 | non=>
  cases rx
  cases y with
  | non=>cases ry;exact PySem.EqNone.ne_none_none (ZAS I q (by simp))
  | bl j=>cases ry;exact PySem.EqNone.ne_none_bool (ZAS I q (by simp))
  | int j=>obtain ⟨t',rfl⟩:=ry;exact PySem.EqNone.ne_none_int (ZAS I q (by simp))
  | str j=>obtain ⟨t',rfl⟩:=ry;exact PySem.EqNone.ne_none_str (ZAS I q (by simp))
  | _=>exact absurd (show false=true from hs) yAI
 | bl i=>
  cases rx
  cases y with
  | non=>cases ry;exact PySem.EqNone.ne_bool_none (ZAS I q (by simp))
  | bl j=>cases ry;exact ne_bool (ZAS I q (congrArg not dec_bl))
  | str j=>obtain ⟨t',rfl⟩:=ry;exact PySem.EqMixed.ne_bool_str (ZAS I q (by simp))
  | _=>exact absurd (show false=true from hs) yAI
 | int i=>
  obtain ⟨t,rfl⟩:=rx
  cases y with
  | non=>cases ry;exact PySem.EqNone.ne_int_none (ZAS I q (by simp))
  | int j=>obtain ⟨t',rfl⟩:=ry;exact ne_int (ZAS I q (congrArg not dec_int))
  | str j=>obtain ⟨t',rfl⟩:=ry;exact PySem.EqMixed.ne_int_str (ZAS I q (by simp))
  | _=>exact absurd (show false=true from hs) yAI
 | str i=>
  obtain ⟨t,rfl⟩:=rx
  cases y with
  | non=>cases ry;exact PySem.EqNone.ne_str_none (ZAS I q (by simp))
  | bl j=>cases ry;exact PySem.EqMixed.ne_str_bool (ZAS I q (by simp))
  | int j=>obtain ⟨t',rfl⟩:=ry;exact PySem.EqMixed.ne_str_int (ZAS I q (by simp))
  | str j=>obtain ⟨t',rfl⟩:=ry;exact ne_str (ZAS I q (congrArg not dec_str))
  | _=>exact absurd (show false=true from hs) yAI
 | byt i=>
  obtain ⟨t,rfl⟩:=rx
  cases y with
  | byt j=>obtain ⟨t',rfl⟩:=ry;exact PySem.W.ne_bytes (ZAS I q (congrArg not dec_byt))
  | _=>exact absurd (show false=true from hs) yAI
 | _=>cases y <;> exact absurd (show false=true from hs) yAI
theorem ZDA:OpR X (compareOp .Lt) (rI0 fun i j=>.bl (decide (i < j))):=opB0 fun _ _ _ _ _ _ _ q=>lt_int q
theorem op_ge:OpR X (compareOp .GtE) (rI0 fun i j=>.bl (decide (j <= i))):=opB0 fun _ _ _ _ _ _ _ q=>ge_int q
theorem op_isN:OpR X (compareOp .Is) (fun x y H Q=>y=.non /\ Q (.bl (decide (x=.non))) H):=by
 intro pins s σ H x y v u Q I rx ry h
 obtain ⟨rfl,q⟩:=h
 cases ry
 refine is_none_gen (ZAS I q ?_)
 cases x <;> first
  | (cases rx;rfl)
  | (obtain ⟨t,rfl⟩:=rx;rfl)
theorem ZBr:OpR X (compareOp .IsNot) (fun x y H Q=>y=.non /\ Q (.bl (!decide (x=.non))) H):=by
 intro pins s σ H x y v u Q I rx ry h
 obtain ⟨rfl,q⟩:=h
 cases ry
 refine isnot_none_gen (ZAS I q ?_)
 cases x <;> first
  | (cases rx;rfl)
  | (obtain ⟨t,rfl⟩:=rx;rfl)
theorem ZAb (b:Expr) {op:CmpOp} (h:op≠.In:=by decide) (h2:op≠.NotIn:=by decide):behindInMarks op b=false:=by
 have e1:(op == CmpOp.In)=false:=by cases op <;> first | rfl | exact absurd rfl h
 have e2:(op == CmpOp.NotIn)=false:=by cases op <;> first | rfl | exact absurd rfl h2
 cases b <;> simp [behindInMarks,e1,e2]
theorem ZA5 {op:CmpOp} {r:R2} (ho:OpR X (compareOp op) r) (ha:PE X a ta) (hb:PE X b tb) (hm:behindInMarks op b=false):PE X (.Compare a [op] [b] pos) (tOp r ta tb):=by
 intro pins s σ H Q I h
 exact wpAny_Compare1 (binT ha hb I h fun v u s2 x y H2 I2 rx ry q=>ho pins s2 σ H2 x y v u Q I2 rx ry q) hm
def ZC1 (t:TE):TT:=fun σ H Q=>t σ H fun x H'=>∃ k,x=.bl k /\ Q k H'
theorem ZAg {op:CmpOp} {r:R2} (ho:OpR X (compareOp op) r) (ha:PE X a ta) (hb:PE X b tb) (hm:behindInMarks op b=false):PT X (.Compare a [op] [b] pos) (ZC1 (tOp r ta tb)):=by
 intro pins s σ H Q I h
 refine wpAny_isTrue_Compare1 (thn (ha pins s σ H _ I h) fun v s1 ⟨x,H1,I1,r1,q1⟩=>thn (hb pins s1 σ H1 _ I1 q1) fun u s2 ⟨y,H2,I2,r2,q2⟩=>
  thn (ho pins s2 σ H2 x y v u _ I2 r1 r2 q2) fun c s3 ⟨z,H3,I3,r3,k,e,q3⟩=>?_) hm
 subst e
 cases r3
 exact wpAny_truthy_bool ⟨H3,I3,q3⟩
def tChain (r r':R2) (ta tb tc:TE):TE:=fun σ H Q=>ta σ H fun x H1=>tb σ H1 fun y H2=>r x y H2 fun z H3=>∃ k,z=.bl k /\
 (if k=true then tc σ H3 fun w' H4=>r' y w' H4 Q else Q (.bl false) H3)
theorem ZCe:(sizeLine:Nat) < 2 ^ 63:=by rw [sizeLine_eq];decide
theorem vals1 {x:V} {us:List Value} (r:Vals [x] us):∃ u,us=[u] /\ RelV x u:=by
 cases r with
 | cons r1 r2=>cases r2;exact ⟨_,rfl,r1⟩
theorem ZCl {x y:V} {us:List Value} (r:Vals [x,y] us):∃ u w',us=[u,w'] /\ RelV x u /\ RelV y w':=by
 cases r with
 | cons r1 r2=>
  cases r2 with
  | cons r3 r4=>cases r4;exact ⟨_,_,rfl,r1,r3⟩
theorem call_max2 (hc:X.calm=true):ZBi X (.builtin "max") (fun xs H Q=>∃ i j,xs=[.int i,.int j] /\ Q (.int (if j > i then j else i)) H):=by
 intro pins s σ H xs us Q I r h
 obtain ⟨i,j,rfl,q⟩:=h
 obtain ⟨u,w',rfl,⟨t,rfl⟩,⟨t',rfl⟩⟩:=ZCl r
 refine max_two_ints (I.ok.hd hc) fun h' tk k=>⟨_,H,I.kept k,?_,q⟩
 by_cases hj:j > i
 .rw [if_pos hj,if_pos hj];exact ⟨_,rfl⟩
 .rw [if_neg hj,if_neg hj];exact ⟨_,rfl⟩
theorem call_min2 (hc:X.calm=true):ZBi X (.builtin "min") (fun xs H Q=>∃ i j,xs=[.int i,.int j] /\ Q (.int (if j < i then j else i)) H):=by
 intro pins s σ H xs us Q I r h
 obtain ⟨i,j,rfl,q⟩:=h
 obtain ⟨u,w',rfl,⟨t,rfl⟩,⟨t',rfl⟩⟩:=ZCl r
 refine min_two_ints (I.ok.hd hc) fun h' tk k=>⟨_,H,I.kept k,?_,q⟩
 by_cases hj:j < i
 .rw [if_pos hj,if_pos hj];exact ⟨_,rfl⟩
 .rw [if_neg hj,if_neg hj];exact ⟨_,rfl⟩
end
structure ObjM (h:Heap) (x dx C:Addr) (mA:Str->Option Value):Prop where
 obj:h.get? x=some (PySem.W.instObj C dx)
 ns:h.Ns1 dx mA
 ne:dx≠x
theorem ZBs {h:Heap} {dx:Addr} {mA:Str->Option Value} (n:h.Ns1 dx mA):∃ od,h.get? dx=some od /\ ∀ name,PySem.W.lookIn name od=some (mA name):=by
 obtain ⟨o,es,ep,ho,hd,hk,_,hm⟩:=n
 refine ⟨o,ho,fun name=>?_⟩
 have e:=hm name
 unfold nsFind findBy at e
 rw [<- Array.find?_toList] at e
 unfold PySem.W.lookIn
 rw [hd]
 dsimp only
 split
 .rename_i y q
  rw [q] at e
  exact congrArg some e
 .rename_i q
  rw [q] at e
  have a:es.toList.any (·.refKey)=false:=by
   rw [List.any_eq_false]
   intro y hy
   obtain ⟨z,t,hkey⟩:=hk y (Array.mem_toList_iff.mp hy)
   simp [DictEntry.refKey,hkey]
  have a':¬ es.toList.any (·.refKey)=true:=by rw [a];exact yAI
  rw [if_neg a']
  exact congrArg some e
theorem ObjM.look {h:Heap} {x dx C:Addr} {mA:Str->Option Value} (I:ObjM h x dx C mA):∃ od,PySem.W.InstAt h x (PySem.W.instObj C dx) C (some od) /\ ∀ name,PySem.W.lookIn name od=some (mA name) :=
 let ⟨od,ho,hl⟩:=ZBs I.ns
 ⟨od,⟨I.obj,rfl,rfl,ho⟩,hl⟩
section
variable {prog:Program} {w:World} {A:Around} {E:Value->Shared->Prop} {s:Shared} {K:W.Frag} {x dx C f:Addr} {mA:Str->Option Value} {name:Str} {v:Value}
theorem get_map {expr:Bool} {Q:Value->Shared->Prop} (X:K.In s.heap) (I:ObjM s.heap x dx C mA) (hg:PySem.W.plainGet K C name=true) (hh:PySem.W.hasDictIn K C=true)
  (ha:W.findIn K (.ref C) name=some none) (hv:mA name=some v) (hv':PySem.W.handedIn v=true) (h:Q v { s with toks:=s.toks+1 }) :
  wpAny (model prog w) A (getAttr (.ref x) name expr) Q E s:=by
 obtain ⟨od,J,hl⟩:=I.look
 exact PySem.W.get_value X J (PySem.W.plainGet_of hg).1 (PySem.W.findObj_own hh ha rfl (by rw [hl,hv])) hv' h
theorem get_meth {pl:Sem Bool} {Q:Value×List Value->Shared->Prop} (X:K.In s.heap) (I:ObjM s.heap x dx C mA) (hg:PySem.W.plainGet K C name=true)
  (hf:W.findIn K (.ref C) name=some (some (.ref f))) (ht:PySem.W.isFn K (.ref f)=true) (hv:mA name=none) (h:Q (.ref f,[.ref x]) s) :
  wpAny (model prog w) A (getMethod (.ref x) name pl) Q E s:=by
 obtain ⟨od,J,hl⟩:=I.look
 exact PySem.W.method_fn X J (PySem.W.plainGet_of hg).1 (PySem.W.plainGet_of hg).2 hf (beq_iff_eq.mp ht) (by show (PySem.W.lookIn name od).map (·.isSome)=some false;rw [hl,hv];rfl) h
theorem set_map {ns:List Str} {Q:Unit->Shared->Prop} (X:K.In s.heap) (I:ObjM s.heap x dx C mA)
  (hs:W.findIn K (.ref C) "__setattr__"=some (some (.builtin "object.__setattr__"))) (hp:PySem.W.plainOver K C=true) (ht:PySem.W.takerIn K C name=some none) (hh:PySem.W.hasDictIn K C=true)
  (hw:PySem.Within mA ns) (hsz:ns.length <= sizeLine)
  (h:∀ h',ObjM h' x dx C (fun y=>if y=name then some v else mA y)->Heap.SameBut dx s.heap h'->Q () { s with heap:=h',toks:=s.toks+2 }) :
  wpAny (model prog w) A (setAttr (.ref x) name v) Q E s:=by
 obtain ⟨od,J,hl⟩:=I.look
 refine PySem.W.set_plain X J hs (PySem.W.osa_open (s:={ s with toks:=s.toks+1 }) (r:=none) X J hp ht fun b=>?_)
 obtain ⟨cd,hc,hd'⟩:=PySem.W.any_some hh
 have hx:s.heap.get? x=some ⟨.ref C,some dx,.plain,#[]⟩:=I.obj
 refine wpAny_bind (wpAny_pure (wpAny_bind (wpAny_bind (wpAny_loadPart hx (wpAny_bind (PySem.W.Looks.here (s:={ s with toks:=s.toks+1 }) (PySem.W.looks_clsIn X hc) ?_))))))
 rw [hd']
 refine wpAny_pure (a:=some dx) (wpAny_bind (wpAny_pure (wpAny_bind ?_)))
 refine wpAny_nsSet1 (s:={ s with toks:=s.toks+1 }) I.ns fun h' hn2 hs2=>?_
 obtain ⟨oD,esD,epD,hoD,hdD,hcD⟩:=hn2.count (PySem.Within.cons name v hw)
 refine wpAny_bind (wpAny_lookBehind hoD (by rw [hdD];exact pastItsLine_dict (yAH hcD (by rw [yAN];omega))) ?_)
 exact wpAny_pure (h _ ⟨(hs2.2 _ (Ne.symm I.ne)).trans I.obj,hn2,I.ne⟩ hs2)
theorem make_map {R:Result->Shared->Prop} {vs:List Value} {kw:List (Str×Value)} (X:K.In s.heap) (hm:PySem.W.makesIn K C=true)
  (hi:W.findIn K (.ref C) "__init__"=some (some (.ref f))) (hf:PySem.W.typeIn K (.ref f)=some (.type "function"))
  (h:codeAny (model prog w) (A.under (.builtin "type.__call__" ⟨.ref C::vs,kw⟩)) (.call (.ref f) ⟨.ref (s.heap.objs.size+1)::vs,kw⟩) (PySem.W.InitBack (s.heap.objs.size+1) R)
   { s with heap:=(s.heap.push PySem.W.emptyDict).push (PySem.W.instObj C s.heap.objs.size) }) :
  codeAny (model prog w) A (.call (.ref C) ⟨vs,kw⟩) R s:=by
 obtain ⟨hh,g,d,t,os⟩:=s
 exact PySem.W.make_core (PySem.W.makes_of X hm) (PySem.W.looks_findIn X hi) (fun self=>PySem.W.bind_fn X self hf) (.inl rfl) h
end
def putF (f:Str) (v:V):List (Str×V)->List (Str×V)
 | []=>[(f,v)]
 | (g,x)::r=>if g=f then (g,v)::r else (g,x)::putF f v r
theorem ZAU (f g:Str) (v:V):∀ fs:List (Str×V),(putF f v fs).lookup g=if g=f then some v else fs.lookup g
 | []=>by
  show List.lookup g [(f,v)]=_
  by_cases h:g=f
  .have hb:(g == f)=true:=beq_iff_eq.mpr h
   simp only [List.lookup,hb,if_pos h]
  .have hb:(g == f)=false:=beq_eq_false_iff_ne.mpr h
   simp only [List.lookup,hb,if_neg h]
 | (k,x)::r=>by
  have ih:=ZAU f g v r
  rw [show putF f v ((k,x)::r)=(if k=f then (k,v)::r else (k,x)::putF f v r) from rfl]
  by_cases hk:k=f
  .rw [if_pos hk]
   by_cases h:g=k
   .have hb:(g == k)=true:=beq_iff_eq.mpr h
    simp only [List.lookup,hb,if_pos (h.trans hk)]
   .have hb:(g == k)=false:=beq_eq_false_iff_ne.mpr h
    simp only [List.lookup,hb,if_neg (fun e:g=f=>h (e.trans hk.symm))]
  .rw [if_neg hk]
   by_cases h:g=k
   .have hb:(g == k)=true:=beq_iff_eq.mpr h
    simp only [List.lookup,hb,if_neg (fun e:g=f=>hk (h.symm.trans e))]
   .have hb:(g == k)=false:=beq_eq_false_iff_ne.mpr h
    simp only [List.lookup,hb]
    exact ih
theorem ZBt (f:Str) (v:V):∀ fs:List (Str×V),f∈(putF f v fs).map (·.1) /\ ∀ g,g∈fs.map (·.1)->g∈(putF f v fs).map (·.1)
 | []=>⟨by simp [putF],fun g h=>by simp at h⟩
 | (k,x)::r=>by
  obtain ⟨i1,i2⟩:=ZBt f v r
  rw [show putF f v ((k,x)::r)=(if k=f then (k,v)::r else (k,x)::putF f v r) from rfl]
  by_cases hk:k=f
  .rw [if_pos hk]
   subst hk
   exact ⟨by simp,fun g h=>by simpa using h⟩
  .rw [if_neg hk]
   refine ⟨?_,fun g h=>?_⟩
   .rw [yAO]
    exact yAL _ i1
   .rw [yAO] at h ⊢
    rcases yAA.mp h with e | e
    .exact yAA.mpr (.inl e)
    .exact yAL _ (i2 g e)
theorem ZBV (f:Str) (v:V):∀ fs:List (Str×V),(putF f v fs).length <= fs.length+1
 | []=>by simp [putF]
 | (k,x)::r=>by
  have ih:=ZBV f v r
  rw [show putF f v ((k,x)::r)=(if k=f then (k,v)::r else (k,x)::putF f v r) from rfl]
  by_cases hk:k=f
  .rw [if_pos hk,yAN,yAN];omega
  .rw [if_neg hk,yAN,yAN];omega
theorem RelO.some_of {v:V} {o:Option Value} (r:RelO (some v) o):∃ u,o=some u /\ RelV v u:=by
 cases o with
 | none=>exact (show False from r).elim
 | some u=>exact ⟨u,rfl,r⟩
theorem RelO.none_of {o:Option Value} (r:RelO none o):o=none:=by
 cases o with
 | none=>rfl
 | some u=>exact (show False from r).elim
theorem handed_of {v:V} {u:Value} (r:RelV v u):PySem.W.handedIn u=true:=by
 cases v with
 | non=>cases (show u=Value.none from r);rfl
 | bl b=>cases (show u=Value.bool b from r);rfl
 | int i=>obtain ⟨t,e⟩:=(show ∃ t,u=Value.int i t from r);cases e;rfl
 | str x=>obtain ⟨t,e⟩:=(show ∃ t,u=Value.str x t from r);cases e;rfl
 | byt b=>obtain ⟨t,e⟩:=(show ∃ t,u=Value.bytes b t from r);cases e;rfl
 | flt b=>obtain ⟨t,e⟩:=(show ∃ t,u=Value.float b t from r);cases e;rfl
 | ref a=>cases (show u=Value.ref a from r);rfl
 | ty n=>cases (show u=Value.type n from r);rfl
section
variable {P:Program} {w:World} {H H':Hp} {h h':Heap} {a C dx:Addr} {fs fs':List (Str×V)}
theorem ZCH (hok:HOk P w H h) (e:H a=some (.ins C dx fs)):∃ mA,ObjM h a dx C mA /\ (∀ f,RelO (fs.lookup f) (mA f)) /\ PySem.Within mA (fs.map (·.1)) /\ fs.length <= 1000 /\ H dx=some (.own a):=by
 obtain ⟨d,z,ne,ob,mA,n,r,q⟩:=(show ObjOk P w H h a (.ins C dx fs) from hok a _ e)
 exact ⟨mA,⟨ob,n,ne⟩,r,q,z,d⟩
end
structure Cls (K:W.Frag) (C:Addr):Prop where
 pg:PySem.W.plainGet K C Str.empty=true
 hd:PySem.W.hasDictIn K C=true
 po:PySem.W.plainOver K C=true
 sa:W.findIn K (.ref C) "__setattr__"=some (some (.builtin "object.__setattr__"))
theorem Cls.get {K:W.Frag} {C:Addr} (c:Cls K C) (f:Str):PySem.W.plainGet K C f=true:=c.pg
def NoAttr (K:W.Frag) (C:Addr) (f:Str):Prop:=W.findIn K (.ref C) f=some none
theorem NoAttr.taker {K:W.Frag} {C:Addr} {f:Str} (n:NoAttr K C f):PySem.W.takerIn K C f=some none:=by
 unfold PySem.W.takerIn
 rw [show W.findIn K (.ref C) f=some none from n]
 rfl
structure Meth (K:W.Frag) (C:Addr) (m:Str) (f:Addr):Prop where
 at_:W.findIn K (.ref C) m=some (some (.ref f))
 fn:PySem.W.isFn K (.ref f)=true
 kp:W.keepIn K (.ref f)=true
section
variable {X:Cx} {pins:List (Addr×Obj)} {σ:St} {H:Hp} {s:Shared} {a C dx:Addr} {fs:List (Str×V)} {f:Str} {v:V} {A:Around} {E:Value->Shared->Prop}
theorem getattr_ok {b:Bool} {Q:Value->Shared->Prop} (I:Inv X pins σ H s) (e:H a=some (.ins C dx fs)) (c:Cls X.K C) (n:NoAttr X.K C f) (l:fs.lookup f=some v)
  (h:∀ u s',Inv X pins σ H s'->RelV v u->Q u s'):wpAny (model X.prog X.w) A (getAttr (.ref a) f b) Q E s:=by
 obtain ⟨mA,O,r,_,_,_⟩:=ZCH I.hok e
 obtain ⟨u,hu,ru⟩:=RelO.some_of (v:=v) (o:=mA f) (by rw [<- l];exact r f)
 exact get_map I.kIn O (c.get f) c.hd n hu (handed_of ru) (h u _ (I.tok _) ru)
theorem ZBf {m:Str} {g:Addr} {pl:Sem Bool} {Q:Value×List Value->Shared->Prop} (I:Inv X pins σ H s) (e:H a=some (.ins C dx fs)) (c:Cls X.K C) (k:Meth X.K C m g) (l:fs.lookup m=none)
  (h:Q (.ref g,[.ref a]) s):wpAny (model X.prog X.w) A (getMethod (.ref a) m pl) Q E s:=by
 obtain ⟨mA,O,r,_,_,_⟩:=ZCH I.hok e
 have hn:mA m=none:=RelO.none_of (by rw [<- l];exact r m)
 exact get_meth I.kIn O (c.get m) k.at_ k.fn hn h
theorem setattr_ok {y:V} {u:Value} {Q:Unit->Shared->Prop} (I:Inv X pins σ H s) (e:H a=some (.ins C dx fs)) (c:Cls X.K C) (n:NoAttr X.K C f) (hl:fs.length < 1000) (ry:RelV y u)
  (h:∀ s',Inv X pins σ (upd H a (.ins C dx (putF f y fs))) s'->Q () s'):wpAny (model X.prog X.w) A (setAttr (.ref a) f u) Q E s:=by
 obtain ⟨mA,O,r,wi,_,ho⟩:=ZCH I.hok e
 have hz:(fs.map (·.1)).length <= sizeLine:=by rw [yAP,sizeLine_eq];omega
 refine set_map I.kIn O c.sa c.po n.taker c.hd wi hz fun h' O' sb=>h _ ?_
 have hd:∃ o,h'.get? dx=some o:=let ⟨o,_,_,e',_⟩:=O'.ns;⟨o,e'⟩
 refine I.write (x:=a) (e:=dx) (by rw [e];exact True.intro) (.inr ho) (fun b q hb z=>(sb.2 b hb).trans z) hd ?_
 refine ⟨by rw [ZAC O.ne];exact ho,?_,O.ne,O'.obj,_,O'.ns,fun g=>?_,fun g hg=>?_⟩
 .have:=ZBV f y fs;omega
 .show RelO ((putF f y fs).lookup g) (if g=f then some u else mA g)
  rw [ZAU]
  by_cases q:g=f
  .rw [if_pos q,if_pos q];exact ry
  .rw [if_neg q,if_neg q];exact r g
 .by_cases q:g=f
  .rw [q];exact (ZBt f y fs).1
  .refine (ZBt f y fs).2 g (wi g fun z=>hg ?_)
   show (if g=f then some u else mA g)=none
   rw [if_neg q];exact z
theorem Inv.made (I:Inv X pins σ H s):Inv X pins σ (upd (upd H s.heap.objs.size (.own (s.heap.objs.size+1))) (s.heap.objs.size+1) (.ins C s.heap.objs.size []))
  { s with heap:=(s.heap.push PySem.W.emptyDict).push (PySem.W.instObj C s.heap.objs.size) }:=by
 have e1:(s.heap.push PySem.W.emptyDict).get? s.heap.objs.size=some PySem.W.emptyDict:=Heap.get?_push_size s.heap rfl
 have e2:((s.heap.push PySem.W.emptyDict).push (PySem.W.instObj C s.heap.objs.size)).get? (s.heap.objs.size+1)=some (PySem.W.instObj C s.heap.objs.size):=by
  have:=Heap.get?_push_size (s.heap.push PySem.W.emptyDict) (o:=PySem.W.instObj C s.heap.objs.size) rfl
  rwa [Heap.size_push] at this
 have e3:(s.heap.push PySem.W.emptyDict).Ns s.heap.objs.size (fun _=>none):=⟨PySem.W.emptyDict,#[],_,e1,rfl,(fun e he=>absurd he (by simp)),fun _=>rfl⟩
 have I1:=I.laid (a:=s.heap.objs.size) (o:=.own (s.heap.objs.size+1)) (h':=s.heap.push PySem.W.emptyDict) (t':=s.toks) (fun b u q=>Heap.get?_push_of_some _ q) (yAB _) ⟨_,e1⟩
 refine I1.laid (a:=s.heap.objs.size+1) (o:=.ins C s.heap.objs.size []) (t':=s.toks) (fun b u q=>Heap.get?_push_of_some _ q) (Nat.le_of_eq (Heap.size_push _ _)) ?_
 have ne:s.heap.objs.size≠s.heap.objs.size+1:=yAD (yBD _)
 refine ⟨by rw [ZAC ne,ZAG],yAU _,ne,e2,fun _=>none,(Heap.Ns1.of_empty e3).at fun o q=>Heap.get?_push_of_some _ q,fun _=>True.intro,fun y hy=>absurd rfl hy⟩
theorem attr_of {prog:Program} {w:World} {env:Env} {e:Expr} {f:Str} {pos:Pos} {s:Shared} {Q:Value->Shared->Prop} (hb:attributeBase e f env (eval e env)=eval e env)
  (h:wpAny (model prog w) A (eval e env) (fun o s₁=>wpAny (model prog w) A (getAttr o f true) Q E s₁) E s):wpAny (model prog w) A (eval (.Attribute e f pos) env) Q E s :=
 Attribute_any_ h (by rw [arm_eval_Attribute,hb])
end
def tFld (K:W.Frag) (ta:TE) (f:Str):TE:=fun σ H Q=>ta σ H fun x H1=>∃ a C dx fs v,x=.ref a /\ H1 a=some (.ins C dx fs) /\ Cls K C /\ NoAttr K C f /\ fs.lookup f=some v /\ Q v H1
def sFld (K:W.Frag) (ta tv:TE) (f:Str):TS:=fun D σ H=>tv σ H fun y H1=>ta σ H1 fun x H2=>∃ a C dx fs,x=.ref a /\ H2 a=some (.ins C dx fs) /\ Cls K C /\ NoAttr K C f /\ fs.length < 1000 /\
 D.nx σ (upd H2 a (.ins C dx (putF f y fs)))
def InOp (X:Cx) (op:Operator) (rd:V->V->Hp->VK->Prop):Prop :=
 ∀ (pins:List (Addr×Obj)) (s:Shared) (σ:St) (H:Hp) (x y:V) (u v:Value) (Q:VK),Inv X pins σ H s->RelV x u->RelV y v->rd x y H Q->wpAny (model X.prog X.w) X.A (inplaceOp op u v) (EP X pins σ Q) X.xe s
def sFldAug (K:W.Frag) (ta tv:TE) (rd:V->V->Hp->VK->Prop) (f:Str):TS:=fun D σ H=>ta σ H fun x H1=>∃ a C dx fs v,x=.ref a /\ H1 a=some (.ins C dx fs) /\ Cls K C /\ NoAttr K C f /\ fs.lookup f=some v /\
 tv σ H1 fun y H2=>rd v y H2 fun z H3=>∃ dx' fs',H3 a=some (.ins C dx' fs') /\ fs'.length < 1000 /\ D.nx σ (upd H3 a (.ins C dx' (putF f z fs')))
section
variable {X:Cx} {o e value:Expr} {f:Str} {pos pos' tpos:Pos} {ta tv:TE}
theorem ZAt (he:PE X e ta) (hb:attributeBase e f X.env (eval e X.env)=eval e X.env):PE X (.Attribute e f pos) (tFld X.K ta f):=by
 intro pins s σ H Q I h
 refine attr_of hb (thn (he pins s σ H _ I h) fun u s1 ⟨x,H1,I1,rx,a,C,dx,fs,v,ex,ea,c,n,l,q⟩=>?_)
 subst ex
 obtain rfl:u=Value.ref a:=rx
 exact getattr_ok I1 ea c n l fun u' s2 I2 ru=>⟨v,H1,I2,ru,q⟩
theorem ZB0 (ha:PE X o ta) (hv:PE X value tv) (hs:swapsWith value (some (.Attribute o f pos')) pos.line X.env=pure false):PS X (.Assign [.Attribute o f pos'] value pos) (sFld X.K ta tv f):=by
 intro pins s σ H D I h
 refine plainObj_wpAny_Assign_Attribute (thn (hv pins s σ H _ I h) fun u s1 ⟨y,H1,I1,ry,q⟩=>thn (ha pins s1 σ H1 _ I1 q) fun ov s2 ⟨x,H2,I2,rx,a,C,dx,fs,ex,ea,c,n,l,q2⟩=>?_) hs
 subst ex
 obtain rfl:ov=Value.ref a:=rx
 exact setattr_ok I2 ea c n l ry fun s3 I3=>⟨σ,_,I3,q2⟩
theorem ps_fldaug {op:Operator} {rd:V->V->Hp->VK->Prop} (ha:PE X o ta) (hv:PE X value tv) (hop:InOp X op rd):PS X (.AugAssign (.Attribute o f tpos) op value pos) (sFldAug X.K ta tv rd f):=by
 intro pins s σ H D I h
 refine wpAny_AugAssign_AttributeAny (thn (ha pins s σ H _ I h) fun ov s1 ⟨x,H1,I1,rx,a,C,dx,fs,v,ex,ea,c,n,l,q⟩=>?_)
 subst ex
 obtain rfl:ov=Value.ref a:=rx
 refine getattr_ok I1 ea c n l fun u s2 I2 ru=>thn (hv pins s2 σ H1 _ I2 q) fun w3 s3 ⟨y,H2,I3,ry,q3⟩=>thn (hop pins s3 σ H2 v y u w3 _ I3 ru ry q3) fun w4 s4 ⟨z,H3,I4,rz,dx',fs',ea',l',q4⟩=>?_
 exact setattr_ok I4 ea' c n l' rz fun s5 I5=>⟨σ,_,I5,q4⟩
def rAdd:V->V->Hp->VK->Prop:=fun x y H Q=>∃ i j,x=.int i /\ y=.int j /\ Q (.int (i+j)) H
theorem in_add:InOp X .Add rAdd:=by
 rintro pins s σ H x y u v Q I rx ry ⟨i,j,rfl,rfl,q⟩
 obtain ⟨t,rfl⟩:=(show ∃ t,u=Value.int i t from rx)
 obtain ⟨t',rfl⟩:=(show ∃ t',v=Value.int j t' from ry)
 exact PyProof.Rows.iadd_int ⟨.int (i+j),H,I.tok _,⟨_,rfl⟩,q⟩
end
section
variable {X:Cx} {pins:List (Addr×Obj)} {σ:St} {H:Hp} {s:Shared} {A:Around} {E:Value->Shared->Prop} {Q:Value->Shared->Prop} {c:Value} {b:Bool}
inductive TyOf (K:W.Frag) (H:Hp):V->Value->Prop where
 | non:TyOf K H .non (.type "NoneType")
 | bl (x:Bool):TyOf K H (.bl x) (.type "bool")
 | int (i:Int):TyOf K H (.int i) (.type "int")
 | str (x:Str):TyOf K H (.str x) (.type "str")
 | flt (x:UInt64):TyOf K H (.flt x) (.type "float")
 | lst {a:Addr} {xs:List V} (e:H a=some (.lst xs)):TyOf K H (.ref a) (.type "list")
 | frz {a:Addr} {o:Obj} {xs:List V} (e:H a=some (.frz o (.lst xs))):TyOf K H (.ref a) (.type "list")
 | tup {a:Addr} {xs:List V} (e:H a=some (.tup xs)):TyOf K H (.ref a) (.type "tuple")
 | dK {a:Addr} {kvs:List (Key×V)} (e:H a=some (.dK kvs)):TyOf K H (.ref a) (.type "dict")
 | dT {a:Addr} {kvs:List (List Key×V)} (e:H a=some (.dT kvs)):TyOf K H (.ref a) (.type "dict")
 | ins {a C dx:Addr} {fs:List (Str×V)} (e:H a=some (.ins C dx fs)) (cl:Cls K C) (ha:W.findIn K (.ref C) "__class__"=some (some (.builtin "object.__class__")))
   (hn:PySem.W.specialIn K (.builtin "object.__class__") "__get__"=some (some (.builtin "getset_descriptor.__get__"))) (htk:PySem.W.takesIn K (.builtin "object.__class__")=some true)
   (hm:PySem.W.mroIn K C (.type "object")=some true):TyOf K H (.ref a) (.ref C)
theorem isinst_ok {x:V} {u t:Value} (I:Inv X pins σ H s) (rx:RelV x u) (ty:TyOf X.K H x t) (e:PySem.W.kitOne X.K t c=some b) (h:∀ tk,Q (.bool b) { s with toks:=tk }) :
  wpAny (model X.prog X.w) A (call (.builtin "isinstance") [u,c]) Q E s:=by
 cases ty with
 | non=>cases (show u=Value.none from rx);exact PySem.W.kia_one PySem.W.kitx_none I.kIn True.intro e (fun z=>nomatch z) h
 | bl y=>cases (show u=Value.bool y from rx);exact PySem.W.kia_one PySem.W.kitx_bool I.kIn True.intro e (fun z=>nomatch z) h
 | int i=>obtain ⟨t,q⟩:=(show ∃ t,u=Value.int i t from rx);cases q;exact PySem.W.kia_one PySem.W.kitx_int I.kIn True.intro e (fun z=>nomatch z) h
 | str y=>obtain ⟨t,q⟩:=(show ∃ t,u=Value.str y t from rx);cases q;exact PySem.W.kia_one PySem.W.kitx_str I.kIn True.intro e (fun z=>nomatch z) h
 | flt y=>obtain ⟨t,q⟩:=(show ∃ t,u=Value.float y t from rx);cases q;exact PySem.W.kia_one PySem.W.kitx_float I.kIn True.intro e (fun z=>nomatch z) h
 | @lst a xs ea=>
  cases (show u=Value.ref a from rx)
  obtain ⟨_,_,n,_,h1⟩:=(show ObjOk X.prog X.w H s.heap a (.lst xs) from I.hok a _ ea)
  exact PySem.W.kia_one PySem.W.kitx_list I.kIn ⟨_,h1,rfl⟩ e (fun z=>nomatch z) h
 | @frz a ob xs ea=>
  cases (show u=Value.ref a from rx)
  obtain ⟨_,_,_,n,_,h1⟩:=(show ObjOk X.prog X.w H s.heap a (.frz ob (.lst xs)) from I.hok a _ ea)
  exact PySem.W.kia_one PySem.W.kitx_list I.kIn ⟨_,h1,rfl⟩ e (fun z=>nomatch z) h
 | @tup a xs ea=>
  cases (show u=Value.ref a from rx)
  obtain ⟨_,_,_,p⟩:=(show ObjOk X.prog X.w H s.heap a (.tup xs) from I.hok a _ ea)
  obtain ⟨o,h1,h2,_⟩:=p
  exact PySem.W.kia_one PySem.W.kitx_tuple I.kIn ⟨o,h1,h2⟩ e (fun z=>nomatch z) h
 | @dK a kvs ea=>
  cases (show u=Value.ref a from rx)
  obtain ⟨_,_,vs,_,p⟩:=(show ObjOk X.prog X.w H s.heap a (.dK kvs) from I.hok a _ ea)
  obtain ⟨o,es,ep,h1,h2,_⟩:=p
  exact PySem.W.kia_one PySem.W.kitx_dict I.kIn ⟨o,h1,h2.1⟩ e (fun z=>nomatch z) h
 | @dT a kvs ea=>
  cases (show u=Value.ref a from rx)
  obtain ⟨_,_,xs,_,o,es,ep,h1,h2,_⟩:=(show ObjOk X.prog X.w H s.heap a (.dT kvs) from I.hok a _ ea)
  exact PySem.W.kia_one PySem.W.kitx_dict I.kIn ⟨o,h1,h2.1⟩ e (fun z=>nomatch z) h
 | @ins a C dx fs ea cl ha hn htk hm=>
  cases (show u=Value.ref a from rx)
  obtain ⟨mA,O,_⟩:=ZCH I.hok ea
  obtain ⟨od,J,_⟩:=O.look
  exact PySem.W.kia_one (PySem.W.kitx_own (cl.get _) cl.hd ha hn htk hm) I.kIn J e (fun z=>nomatch z) h
end
structure Room (k:Nat) (A:Around):Prop where
 hd:A.handled=none
 dp:A.depth+3 * k+5 < recursionLimit
 un:A.units+16 * k+200 < cLine
theorem Room.mono {j k:Nat} {A:Around} (r:Room k A) (h:j <= k):Room j A:=⟨r.hd,by have:=r.dp;omega,by have:=r.un;omega⟩
theorem Room.deeper {k:Nat} {A:Around} (r:Room (k+1) A) (env:Env):Room k (A.deeper env) :=
 ⟨r.hd,by have:=r.dp;show A.depth+1+3 * k+5 < _;omega,by have:=r.un;show A.units+3+16 * k+200 < _;omega⟩
theorem make_depth {A:Around} {C:Addr} {us:List Value} {kw:List (Str×Value)}:(A.under (.builtin "type.__call__" ⟨.ref C::us,kw⟩)).depth=A.depth+1:=by
 first | rfl | simp [Around.under,Code.weight,Code.isCreation,Code.isGuard,Code.isCaller,Code.frames,Code.isFrame,guardIds]
theorem make_units {A:Around} {C:Addr} {us:List Value} {kw:List (Str×Value)}:(A.under (.builtin "type.__call__" ⟨.ref C::us,kw⟩)).units=A.units+1:=by
 first | rfl | simp [Around.under,Code.cUnits,Code.frames,Code.isFrame]
theorem Room.make {k:Nat} {A:Around} (r:Room (k+1) A) (C:Addr) (us:List Value) (kw:List (Str×Value)):Room k (A.under (.builtin "type.__call__" ⟨.ref C::us,kw⟩)) :=
 ⟨r.hd,by have:=r.dp;rw [make_depth];omega,by have:=r.un;rw [make_units];omega⟩
theorem Room.depth {k:Nat} {A:Around} (r:Room k A):A.depth < recursionLimit:=by have:=r.dp;omega
theorem Room.units {k:Nat} {A:Around} (r:Room k A):A.units+64 < cLine:=by have:=r.un;omega
theorem Room.units0 {k:Nat} {A:Around} (r:Room k A):A.units < cLine:=by have:=r.un;omega
def tNil:TA:=fun _ H Q=>Q [] H
def ZBc (ta:TE) (tr:TA):TA:=fun σ H Q=>ta σ H fun x H1=>tr σ H1 fun xs H2=>Q (x::xs) H2
section
variable {X:Cx} {e:Expr} {es:List Expr} {te:TE} {t:TA} {pos:Pos}
theorem ZAD:PA X [] tNil:=fun _ _ _ _ H Q I h=>Calls.spliced_nil ⟨[],H,I,.nil,h⟩
theorem ZAA (ha:PE X e te) (hr:PA X es t) (hs:starEach (e::es) X.env=(false,eval e X.env)::starEach es X.env:=by rfl):PA X (e::es) (ZBc te t):=by
 intro pos pins s σ H Q I h
 rw [hs]
 show wpAny _ _ (spliced ((false,eval e X.env)::backTo pos (starEach es X.env))) _ _ s
 refine Calls.spliced_cons (thn (ha pins s σ H _ I h) fun u s1 ⟨x,H1,I1,r1,q1⟩=>?_)
 exact thn (hr pos pins s1 σ H1 _ I1 q1) fun us s2 ⟨xs,H2,I2,r2,q2⟩=>⟨x::xs,H2,I2,.cons r1 r2,q2⟩
def tTup (t:TA):TE:=fun σ H Q=>t σ H fun xs H1=>xs.length <= sizeLine /\ ∀ p,H1 p=none->Q (.ref p) (upd H1 p (.tup xs))
def tLst (t:TA):TE:=fun σ H Q=>t σ H fun xs H1=>xs.length <= sizeLine /\ ∀ p,H1 p=none->Q (.ref p) (upd H1 p (.lst xs))
theorem ZBg {x1} (h:PA X es t):PE X (.Tuple es x1 pos) (tTup t):=by
 intro pins s σ H Q I hq
 refine wpAny_Tuple_spliced (thn (h pos pins s σ H _ I hq) fun us s1 ⟨xs,H1,I1,r,z,q⟩=>⟨by rw [<- r.length];exact z,?_⟩)
 have hf:H1 s1.heap.objs.size=none:=I1.hok.fresh (yAB _)
 refine ⟨.ref s1.heap.objs.size,upd H1 s1.heap.objs.size (.tup xs),I1.laid (t':=s1.toks) (fun b u e=>Heap.get?_push_of_some _ e) (yAB _) ?_,rfl,q _ hf⟩
 exact ⟨z,us,r,⟨_,Heap.get?_push_size _ rfl,rfl,_,rfl⟩⟩
theorem ZA0 (h:PA X es t):PE X (.List es pos) (tLst t):=by
 intro pins s σ H Q I hq
 refine wpAny_List_spliced (thn (h pos pins s σ H _ I hq) fun us s1 ⟨xs,H1,I1,r,z,q⟩=>⟨by rw [<- r.length];exact z,?_⟩)
 have hf:H1 s1.heap.objs.size=none:=I1.hok.fresh (yAB _)
 refine ⟨.ref s1.heap.objs.size,upd H1 s1.heap.objs.size (.lst xs),I1.laid (t':=s1.toks) (fun b u e=>Heap.get?_push_of_some _ e) (yAB _) ?_,rfl,q _ hf⟩
 exact ⟨z,us,0,r,Heap.get?_push_size _ rfl⟩
end
abbrev Sp:=List V->Hp->VK->XK->Prop
abbrev CXT:=List Env->Hp->Shared->XK->Value->Shared->Prop
structure Env0 (P:Program) (w:World) (K:W.Frag) (mg:Str->Option Value) (base:Heap) (A:Around) (outer:List Env) (s:Shared) (H:Hp):Prop where
 frames:A.frames=some outer
 mod:Mod K mg base
 bs:∀ b o,base.get? b=some o->s.heap.get? b=some o /\ H b=none
 bsz:base.objs.size <= s.heap.objs.size
 funs:s.heap.FunFrames base outer
 frf:∀ b∈frs outer,H b=none
 hok:HOk P w H s.heap
 bare:AllBare s.gens
def CE (outer:List Env) (P:Program) (w:World) (H:Hp) (s:Shared) (Q:VK) (u:Value) (s':Shared):Prop :=
 ∃ v H',s'.os=s.os /\ AllBare s'.gens /\ Un (frs outer) [] H H' s.heap s'.heap /\ HOk P w H' s'.heap /\ RelV v u /\ Q v H'
def CR (CX:CXT) (outer:List Env) (P:Program) (w:World) (H:Hp) (s:Shared) (Q:VK) (E:XK) (r:Result) (s':Shared):Prop :=
 match r with
 | .ok (.ret u)=>CE outer P w H s Q u s'
 | .ok _=>False
 | .error e=>CX outer H s E e s'
structure FnOk (P:Program) (w:World) (K:W.Frag) (mg:Str->Option Value) (base:Heap) (CX:CXT) (k:Nat) (f:Addr) (fd:FuncData) (ps:List Str) (sp:Sp):Prop where
 len:∀ vs H Q E,sp vs H Q E->vs.length=ps.length
 run:∀ (A:Around) (outer:List Env) (s:Shared) (H:Hp) (args:Args) (us:List Value) (vs:List V) (Q:VK) (E:XK),Room k A->Env0 P w K mg base A outer s H->BindsTo s fd args (ps.zip us)->Vals vs us->sp vs H Q E ->
  codeAny (model P w) A (.call (.ref f) args) (CR CX outer P w H s Q E) s
theorem Env0.make {P:Program} {w:World} {K:W.Frag} {mg:Str->Option Value} {base:Heap} {A:Around} {outer:List Env} {s:Shared} {H:Hp} (e:Env0 P w K mg base A outer s H) (C:Addr) (us:List Value) (kw:List (Str×Value)) :
  Env0 P w K mg base (A.under (.builtin "type.__call__" ⟨.ref C::us,kw⟩)) outer s H:=⟨by first | exact e.frames | (simpa [Around.under,Code.envs,Code.isFrame,pushEnvs] using e.frames),e.mod,e.bs,e.bsz,e.funs,e.frf,e.hok,e.bare⟩
section
variable {X:Cx} {pins:List (Addr×Obj)} {σ:St} {H:Hp} {s s':Shared}
theorem Inv.env0 (I:Inv X pins σ H s):Env0 X.prog X.w X.K X.mg X.base X.A X.stack s H :=
 ⟨I.ok.frames,I.ok.mod,I.bs,yAH I.ok.bsz I.sz,I.stack,I.stkFree,I.hok,I.bare⟩
theorem Inv.after {Q:VK} {u:Value} (I:Inv X pins σ H s) (h:CE X.stack X.prog X.w H s Q u s'):EP X pins σ Q u s':=by
 obtain ⟨v,H',os,bare,un,hok,r,q⟩:=h
 obtain ⟨hh,g,d,t,os'⟩:=s'
 obtain rfl:os'=s.os:=os
 exact ⟨v,H',I.call (h':=hh) (g':=g) (d':=d) (t':=t) (ch:=[]) un hok bare (fun b z=>absurd z (by simp)),r,q⟩
end
def ZCp (sp:Sp) (dvs:List V) (E:XK) (t:TA):TE:=fun σ H Q=>t σ H fun vs H1=>sp (vs++dvs) H1 Q E
def ZCi (C:Addr) (m:Str) (sp:Sp) (dvs:List V) (E:XK) (ta:TE) (t:TA):TE:=fun σ H Q=>ta σ H fun x H1=>∃ a dx fs,x=.ref a /\ H1 a=some (.ins C dx fs) /\ fs.lookup m=none /\
 t σ H1 fun vs H2=>sp (x::(vs++dvs)) H2 Q E
def ZCn (C:Addr) (sp:Sp) (dvs:List V) (E:XK) (t:TA):TE:=fun σ H Q=>t σ H fun vs H1=>∀ x dx,H1 x=none->H1 dx=none->dx≠x ->
 sp (.ref x::(vs++dvs)) (upd (upd H1 dx (.own x)) x (.ins C dx [])) (fun v H2=>v=.non /\ Q (.ref x) H2) E
def Binds (K:W.Frag) (fd:FuncData) (ps:List Str) (ds:List Value):Prop :=
 ∀ (s:Shared) (us:List Value),K.In s.heap->(us++ds).length=ps.length->BindsTo s fd ⟨us,[]⟩ (ps.zip (us++ds))
theorem Binds.all {K:W.Frag} {fd:FuncData} {ps:List Str} (h:∀ us:List Value,us.length=ps.length->bindArgs fd ⟨us,[]⟩=pure (ps.zip us)):Binds K fd ps []:=fun s us _ hl=>by
 rw [yAW] at hl ⊢
 exact .of_eq (h us hl)
def ZAu (CX:CXT) (X:Cx) (E:XK):Prop:=∀ (pins:List (Addr×Obj)) (σ:St) (H:Hp) (s:Shared) (e:Value) (s':Shared),Inv X pins σ H s->CX X.stack H s E e s'->X.xe e s'
section
variable {X:Cx} {CX:CXT} {k:Nat} {f C:Addr} {fd:FuncData} {ps:List Str} {sp:Sp} {dvs:List V} {ds:List Value} {E:XK} {x m:Str} {p pos apos:Pos} {e o:Expr} {es:List Expr} {ta:TE} {t:TA}
theorem ZCs {pins:List (Addr×Obj)} {σ:St} {H:Hp} {s:Shared} {Q:VK} {us:List Value} {vs:List V} (F:FnOk X.prog X.w X.K X.mg X.base CX k f fd ps sp) (hr:Room k X.A) (hb:Binds X.K fd ps ds) (hd:Vals dvs ds) (hx:ZAu CX X E)
  (I:Inv X pins σ H s) (r:Vals vs us) (h:sp (vs++dvs) H Q E):wpAny (model X.prog X.w) X.A (call (.ref f) us) (EP X pins σ Q) X.xe s:=by
 have r2:Vals (vs++dvs) (us++ds):=r.append hd
 have hl:(us++ds).length=ps.length:=by rw [<- r2.length];exact F.len _ _ _ _ h
 refine wpAny_call (codeAny_mono (F.run X.A X.stack s H ⟨us,[]⟩ (us++ds) (vs++dvs) Q E hr I.env0 (hb s us I.kIn hl) r2 h) fun r s' hq=>?_)
 cases r with
 | error e=>exact hx pins σ H s e s' I hq
 | ok fl=>
  cases fl with
  | ret u=>exact I.after hq
  | next=>exact False.elim hq
  | brk=>exact False.elim hq
  | cont=>exact False.elim hq
theorem pe_call (F:FnOk X.prog X.w X.K X.mg X.base CX k f fd ps sp) (hr:Room k X.A) (hg:Gl X x) (hm:X.mg x=some (.ref f)) (hk:W.keepIn X.K (.ref f)=true) (hb:Binds X.K fd ps ds) (hd:Vals dvs ds) (hx:ZAu CX X E)
  (ha:PA X (e::es) t) (hdb:(x == ("__debug__":Str))=false:=by decide) (he:starEach (e::es) X.env=(false,eval e X.env)::starEach es X.env:=by rfl) (hpl:(backTo pos (starEach es X.env)).any (·.1)=false:=by rfl) :
  PE X (.Call (.Name x p) (e::es) [] pos) (ZCp sp dvs E t):=by
 intro pins s σ H Q I h
 refine wpAny_Call_Name_kw (ZBW I hg hm ?_ hdb)
 refine PySem.W.callWith_K (h₀:=X.base) I.ok.mod.kin hk (thn (ha pos pins s σ H _ I h) fun us s1 ⟨vs,H1,I1,r,q⟩=>⟨I1.kIn,?_⟩) he hpl
 exact ZCs F hr hb hd hx I1 r q
theorem pe_meth {pl:Sem Bool} (he:PE X o ta) (c:Cls X.K C) (hm:Meth X.K C m f) (F:FnOk X.prog X.w X.K X.mg X.base CX k f fd ps sp) (hr:Room k X.A) (hb:Binds X.K fd ps ds) (hd:Vals dvs ds) (hx:ZAu CX X E) (ha:PA X (e::es) t)
  (hst:starEach (e::es) X.env=(false,eval e X.env)::starEach es X.env:=by rfl) (hpl:(backTo pos (starEach es X.env)).any (·.1)=false:=by rfl)
  (ht:eval (.Call (.Attribute o m apos) (e::es) [] pos) X.env=(do
   let ov <- eval o X.env
   standAt apos.atName
   let (f,first) <- holding [ov] (getMethod ov m pl)
   callWith pos f first (backTo pos (starEach (e::es) X.env)) (backToKw pos (keywordEach [] X.env))):=by rfl) :
  PE X (.Call (.Attribute o m apos) (e::es) [] pos) (ZCi C m sp dvs E ta t):=by
 intro pins s σ H Q I h
 refine PySem.W.methodCall_KW (pl:=pl) (thn (he pins s σ H _ I h) fun u s1 ⟨x,H1,I1,rx,a,dx,fs,ex,ea,l,q⟩=>?_) ht
 subst ex
 obtain rfl:u=Value.ref a:=rx
 refine ZBf I1 ea c hm l ?_
 refine PySem.W.callWith_K (first:=[.ref a]) (h₀:=X.base) I.ok.mod.kin hm.kp (thn (ha pos pins s1 σ H1 _ I1 q) fun us s2 ⟨vs,H2,I2,r,q2⟩=>⟨I2.kIn,?_⟩) hst hpl
 exact ZCs (us:=.ref a::us) (vs:=.ref a::vs) F hr hb hd hx I2 (.cons rfl r) q2
theorem pe_meth0 {pl:Sem Bool} (he:PE X o ta) (c:Cls X.K C) (hm:Meth X.K C m f) (F:FnOk X.prog X.w X.K X.mg X.base CX k f fd ps sp) (hr:Room k X.A) (hb:Binds X.K fd ps ds) (hd:Vals dvs ds) (hx:ZAu CX X E)
  (ht:eval (.Call (.Attribute o m apos) [] [] pos) X.env=(do
   let ov <- eval o X.env
   standAt apos.atName
   let (f,first) <- holding [ov] (getMethod ov m pl)
   callWith pos f first (backTo pos (starEach [] X.env)) (backToKw pos (keywordEach [] X.env))):=by rfl) :
  PE X (.Call (.Attribute o m apos) [] [] pos) (ZCi C m sp dvs E ta tNil):=by
 intro pins s σ H Q I h
 refine PySem.W.methodCall_KW (pl:=pl) (thn (he pins s σ H _ I h) fun u s1 ⟨x,H1,I1,rx,a,dx,fs,ex,ea,l,q⟩=>?_) ht
 subst ex
 obtain rfl:u=Value.ref a:=rx
 refine ZBf I1 ea c hm l ?_
 exact PySem.W.callWith_K0 (first:=[.ref a]) I1.kIn hm.kp (ZCs (us:=[.ref a]) (vs:=[.ref a]) F hr hb hd hx I1 (.cons rfl .nil) q)
structure Mk (K:W.Frag) (C f:Addr):Prop where
 makes:PySem.W.makesIn K C=true
 init:W.findIn K (.ref C) "__init__"=some (some (.ref f))
 fn:PySem.W.isFn K (.ref f)=true
 kp:W.keepIn K (.ref C)=true
theorem run_make {pins:List (Addr×Obj)} {σ:St} {H:Hp} {s:Shared} {Q:VK} {us:List Value} {vs:List V} (M:Mk X.K C f) (F:FnOk X.prog X.w X.K X.mg X.base CX k f fd ps sp) (hr:Room (k+1) X.A) (hb:Binds X.K fd ps ds) (hd:Vals dvs ds)
  (hx:ZAu CX X E) (I:Inv X pins σ H s) (r:Vals vs us)
  (h:∀ x dx,H x=none->H dx=none->dx≠x->sp (.ref x::(vs++dvs)) (upd (upd H dx (.own x)) x (.ins C dx [])) (fun v H2=>v=.non /\ Q (.ref x) H2) E) :
  wpAny (model X.prog X.w) X.A (call (.ref C) us) (EP X pins σ Q) X.xe s:=by
 have hq:=h (s.heap.objs.size+1) s.heap.objs.size (I.hok.fresh (yAM _)) (I.hok.fresh (yAB _)) (yAD (yBD _))
 have I2:=Inv.made (C:=C) I
 have r2:Vals (V.ref (s.heap.objs.size+1)::(vs++dvs)) (Value.ref (s.heap.objs.size+1)::(us++ds)):=.cons rfl (r.append hd)
 have hl:(Value.ref (s.heap.objs.size+1)::us++ds).length=ps.length:=by
  have e:=r2.length
  rw [F.len _ _ _ _ hq] at e
  exact e.symm
 refine wpAny_call (make_map (f:=f) I.kIn M.makes M.init (beq_iff_eq.mp M.fn) (codeAny_mono (F.run _ X.stack _ _ ⟨Value.ref (s.heap.objs.size+1)::us,[]⟩ (Value.ref (s.heap.objs.size+1)::(us++ds)) _ _ E (hr.make C us [])
  (I2.env0.make C us []) (hb _ (Value.ref (s.heap.objs.size+1)::us) I2.kIn hl) r2 hq) fun r s' hq'=>?_))
 cases r with
 | error e=>exact hx pins σ _ _ e s' I2 hq'
 | ok fl=>
  cases fl with
  | ret u=>
   obtain ⟨v,H',I3,rv,ev,q3⟩:=I2.after hq'
   subst ev
   exact ⟨rv,⟨V.ref (s.heap.objs.size+1),H',I3,rfl,q3⟩⟩
  | next=>exact False.elim hq'
  | brk=>exact False.elim hq'
  | cont=>exact False.elim hq'
theorem pe_make (M:Mk X.K C f) (F:FnOk X.prog X.w X.K X.mg X.base CX k f fd ps sp) (hr:Room (k+1) X.A) (hg:Gl X x) (hm:X.mg x=some (.ref C)) (hb:Binds X.K fd ps ds) (hd:Vals dvs ds) (hx:ZAu CX X E)
  (ha:PA X (e::es) t) (hdb:(x == ("__debug__":Str))=false:=by decide) (he:starEach (e::es) X.env=(false,eval e X.env)::starEach es X.env:=by rfl) (hpl:(backTo pos (starEach es X.env)).any (·.1)=false:=by rfl) :
  PE X (.Call (.Name x p) (e::es) [] pos) (ZCn C sp dvs E t):=by
 intro pins s σ H Q I h
 refine wpAny_Call_Name_kw (ZBW I hg hm ?_ hdb)
 refine PySem.W.callWith_K (h₀:=X.base) I.ok.mod.kin M.kp (thn (ha pos pins s σ H _ I h) fun us s1 ⟨vs,H1,I1,r,q⟩=>⟨I1.kIn,?_⟩) he hpl
 exact run_make M F hr hb hd hx I1 r q
end
section
variable {X:Cx} {CX:CXT} {k:Nat} {f C:Addr} {fd:FuncData} {ps ks:List Str} {sp:Sp} {E:XK} {x m:Str} {p pos apos kpos:Pos} {e o:Expr} {es:List Expr} {kws:List Keyword} {te ta:TE} {t tk:TA} {nm:Option Str}
variable {g:List Value->List Value->List Value} {gV:List V->List V->List V}
end
structure FnScope (N P:List Str) (sc:Scope):Prop where
 kind:sc.kind=.function
 co:sc.isCoroutine=false
 gen:sc.isGenerator=false
 nd:N.Nodup
 pre:N.take P.length=P
 par:∀ x∈P,sc.names.lookup x=some .local∨sc.names.lookup x=some .cell
 nofree:∀ y∈sc.names,y.2≠.free
theorem bindL_out {kindOf:Str->Option NameKind} {x:Str}:∀ {binds:List (Str×Value)} {m:Str->Option Value},(∀ v,(x,v)∉binds)->bindL kindOf binds m x=m x
 | [],_,_=>rfl
 | (n,v)::r,m,h=>by
  unfold bindL
  rw [bindL_out fun w hw=>h w (yAL _ hw)]
  split
  .have:x≠n:=by rintro rfl;exact h v yAC
   simp [this]
  .rfl
theorem bindC_out {kindOf:Str->Option NameKind} {x:Str}:∀ {binds:List (Str×Value)} {m:Str->Option Value},(∀ v,(x,v)∉binds)->bindC kindOf binds m x=m x
 | [],_,_=>rfl
 | (n,v)::r,m,h=>by
  unfold bindC
  rw [bindC_out fun w hw=>h w (yAL _ hw)]
  split
  .rfl
  .have:x≠n:=by rintro rfl;exact h v yAC
   simp [this]
theorem bindL_get {kindOf:Str->Option NameKind} {x:Str} {v:Value}:∀ {P:List Str} {vs:List Value} {i:Nat} {m:Str->Option Value},P.Nodup->P[i]?=some x->vs[i]?=some v->kindOf x=some .local ->
  bindL kindOf (P.zip vs) m x=some v
 | [],_,_,_,_,h,_,_=>by simp at h
 | _::_,[],_,_,_,_,h,_=>by simp at h
 | p::P,w::vs,0,m,nd,h1,h2,hk=>by
  simp at h1 h2;subst h1;subst h2
  show bindL kindOf ((p,w)::P.zip vs) m p=_
  unfold bindL
  rw [bindL_out fun v hv=>(yAQ.mp nd).1 (yBE hv).1,if_pos hk]
  simp
 | p::P,w::vs,i+1,m,nd,h1,h2,hk=>by
  show bindL kindOf ((p,w)::P.zip vs) m x=_
  unfold bindL
  exact bindL_get (i:=i) (yAQ.mp nd).2 (by simpa using h1) (by simpa using h2) hk
theorem bindC_get {kindOf:Str->Option NameKind} {x:Str} {v:Value}:∀ {P:List Str} {vs:List Value} {i:Nat} {m:Str->Option Value},P.Nodup->P[i]?=some x->vs[i]?=some v->kindOf x≠some .local ->
  bindC kindOf (P.zip vs) m x=some v
 | [],_,_,_,_,h,_,_=>by simp at h
 | _::_,[],_,_,_,_,h,_=>by simp at h
 | p::P,w::vs,0,m,nd,h1,h2,hk=>by
  simp at h1 h2;subst h1;subst h2
  show bindC kindOf ((p,w)::P.zip vs) m p=_
  unfold bindC
  rw [bindC_out fun v hv=>(yAQ.mp nd).1 (yBE hv).1,if_neg hk]
  simp
 | p::P,w::vs,i+1,m,nd,h1,h2,hk=>by
  show bindC kindOf ((p,w)::P.zip vs) m x=_
  unfold bindC
  exact bindC_get (i:=i) (yAQ.mp nd).2 (by simpa using h1) (by simpa using h2) hk
def start (N:List Str) (vs:List V):St:=vs.map some++List.replicate (N.length-vs.length) none
def cxOf (CX:CXT) (P:Program) (w:World) (K:W.Frag) (mg:Str->Option Value) (base:Heap) (N:List Str) (qual:Str) (scope:Scope) (f:Addr) (cd:Value) (A:Around) (outer:List Env) (s:Shared) (H:Hp) (E:XK):Cx where
 prog:=P
 w:=w
 K:=K
 mg:=mg
 base:=base
 A:=A.deeper (envOfC qual scope s.heap.objs.size f cd)
 N:=N
 s₀:=s
 H₀:=H
 env:=envOfC qual scope s.heap.objs.size f cd
 outer:=outer
 stack:=envOfC qual scope s.heap.objs.size f cd::outer
 ex:=[]
 calm:=true
 fn:=fun _=>true
 pn:=[]
 xe:=fun e s'=>wpAny (model P w) (A.deeper (envOfC qual scope s.heap.objs.size f cd)) (leaving (envOfC qual scope s.heap.objs.size f cd) e) (fun _ s''=>CX outer H s E e s'') (fun e' s''=>CX outer H s E e' s'') s'
theorem ZBm {sc:Scope} {n:Nat} {x:Str} (h:sc.names.lookup x=some .cell):∃ c,(cellsFrom n sc.names []).lookup x=some c:=by
 have q:=PySem.W.cellsFrom_some sc.names n [] (.inl h)
 exact Option.isSome_iff_exists.mp q
theorem ZBu {CX:CXT} {P:Program} {w:World} {K:W.Frag} {mg:Str->Option Value} {base:Heap} {N ps:List Str} {qual:Str} {scope:Scope} {f:Addr} {cd:Value} {A:Around} {outer:List Env} {s s1:Shared} {H:Hp} {E:XK} {us:List Value} {vs:List V}
  (S:FnScope N ps scope) (hd:A.handled=none) (e0:Env0 P w K mg base A outer s H) (hl:vs.length=ps.length) (r:Vals vs us)
  (x:InCallC s s.heap.objs.size (bindL (envOfC qual scope s.heap.objs.size f cd).kindOf (ps.zip us) fun _=>none) (cellsFrom (s.heap.objs.size+1) scope.names []) (bindC (envOfC qual scope s.heap.objs.size f cd).kindOf (ps.zip us) fun _=>none) s1) :
  Inv (cxOf CX P w K mg base N qual scope f cd A outer s H E) [] (start N vs) H s1:=by
 have hpl:ps.length <= N.length:=by have:=congrArg List.length S.pre;rw [List.length_take] at this;omega
 obtain ⟨h1,tk,rfl,hk⟩:=x.done
 have noA:∀ b:Addr,b∉(cxOf CX P w K mg base N qual scope f cd A outer s H E).ex:=fun b z=>absurd (show b∈([]:List Addr) from z) (by simp)
 refine ⟨⟨e0.mod,S.kind,rfl,rfl,yAB _,fun y z c h1 h2=>?_,fun y hy=>?_,fun y c _ h=>?_,fun _=>hd,Around.frames_deeper e0.frames,.inr ⟨rfl,rfl⟩,fun b z=>absurd z (noA b),e0.bs,e0.bsz,fun b _ _=>noA b,fun b z=>absurd z (noA b),e0.funs,e0.frf⟩,
  rfl,e0.bare,Un.kept hk,⟨_,x.toInCall.ns,fun i y v h1 h2 h3=>?_⟩,fun y c h=>⟨_,x.cell y c h⟩,e0.hok.fresh (yAB _),fun y c h=>?_,fun p hp=>absurd (show p∈([]:List (Addr×Obj)) from hp) (by simp),e0.hok.kept hk,?_⟩
 .exact name_of_addr x.apart (PySem.mem_of_lookup h1) (PySem.mem_of_lookup h2)
 .have hy:scope.names.lookup y=some .cell∨scope.names.lookup y=some .free:=hy
  rcases hy with hy | hy
  .exact ZBm hy
  .exact absurd rfl (S.nofree _ (PySem.mem_of_lookup hy))
 .exact Nat.le_of_lt (x.above y c (PySem.mem_of_lookup h))
 .have hi:i < vs.length:=by
   unfold start at h2
   by_cases hi:i < vs.length
   .exact hi
   .rw [yBB (by simpa using hi)] at h2
    rw [List.getElem?_replicate] at h2
    split at h2 <;> cases h2
  have ha:vs[i]?=some v:=by
   unfold start at h2
   rw [yAV (by simpa using hi),yAX] at h2
   cases e:vs[i]? with
   | none=>rw [e] at h2;cases h2
   | some a=>rw [e] at h2;cases h2;rfl
  obtain ⟨u,hu,rv⟩:=r.get ha
  have hp:ps[i]?=some y:=by
   rw [<- S.pre,List.getElem?_take_of_lt (by omega)];exact h1
  have ndP:ps.Nodup:=by rw [<- S.pre];exact S.nd.sublist (List.take_sublist _ _)
  refine ⟨u,rv,?_⟩
  rcases S.par y (yBC hp) with k | k
  .exact .inl ⟨k,bindL_get ndP hp hu k⟩
  .obtain ⟨c,e⟩:=ZBm (n:=s.heap.objs.size+1) k
   refine .inr ⟨.inl k,c,e,?_⟩
   have q:=x.cell y c e
   rw [bindC_get ndP hp hu (by show scope.names.lookup y≠_;rw [k];decide)] at q
   exact q
 .exact e0.hok.fresh (Nat.le_of_lt (x.above y c (PySem.mem_of_lookup h)))
 .unfold start
  show _=N.length
  rw [yAJ,yAP,yBF]
  omega
theorem ZDD {CX:CXT} {P:Program} {w:World} {K:W.Frag} {mg:Str->Option Value} {base:Heap} {k:Nat} {f:Addr} {name qual:Str} {params:Arguments} {body:List Stmt} {scope:Scope} {dV kV doc pm cdv ct oc:Value} {an od:Option Addr}
  {osl:Array (Option Value)} {N ps:List Str} {sp:Sp} (lk:K.lookup f=some ⟨oc,od,.func (W.fnOf name qual params body scope dV kV doc pm an cdv ct),osl⟩) (hcd:W.codeIn K cdv qual=true) (S:FnScope N ps scope)
  (len:∀ vs H Q E,sp vs H Q E->vs.length=ps.length)
  (hbody:∀ (A:Around) (outer:List Env) (s:Shared) (H:Hp) (vs:List V) (Q:VK) (E:XK),Room k (A.deeper (envOfC qual scope s.heap.objs.size f cdv))->sp vs H Q E ->
   ∃ t,PSs (cxOf CX P w K mg base N qual scope f cdv A outer s H E) body t /\ t { nx:=fun _ H'=>Q .non H',rt:=Q } (start N vs) H) :
  FnOk P w K mg base CX (k+1) f (W.fnOf name qual params body scope dV kV doc pm an cdv ct) ps sp:=by
 refine ⟨len,fun A outer s H args us vs Q E hr e0 hb r hsp=>?_⟩
 have hl:=len _ _ _ _ hsp
 have KX:K.In s.heap:=e0.mod.kin.keeps fun b o e=>(e0.bs b o e).1
 have lim:s.heap.NoLimit:=e0.mod.nolimit.keeps fun b o e=>(e0.bs b o e).1
 have hkind:∀ y∈ps.zip us,scope.names.lookup y.1=some .local∨(scope.names.lookup y.1=some .cell /\ ((cellsFrom (s.heap.objs.size+1) scope.names []).lookup y.1).isSome=true):=fun ⟨n,v⟩ hy=>by
  rcases S.par n (yBE hy).1 with q | q
  .exact .inl q
  .exact .inr ⟨q,PySem.W.cellsFrom_some _ _ _ (.inl q)⟩
 refine codeAny_call_function hr.depth (KX _ _ lk) rfl S.co S.gen rfl (PySem.W.codeRec_of KX hcd) (hb _ _ _ _ ?_)
 refine wpAny_newFunctionEnv_cells S.kind hkind fun env he s1 x=>?_
 subst he
 refine ⟨lim.keeps x.toInCall.keep,codeAny_func ?_⟩
 obtain ⟨t,ht,hq⟩:=hbody A outer s H vs Q E (hr.deeper _) hsp
 have I:Inv (cxOf CX P w K mg base N qual scope f cdv A outer s H E) [] (start N vs) H s1:=ZBu S hr.hd e0 hl r x
 refine wpAny_mono (ht [] s1 (start N vs) H _ I hq) (fun fl s' hs=>?_) fun e s' hs=>hs
 have fin:∀ {σ':St} {H':Hp} {v:V} {u:Value},Inv (cxOf CX P w K mg base N qual scope f cdv A outer s H E) [] σ' H' s'->RelV v u->Q v H'->CE outer P w H s Q u s' :=
  fun {σ' H' v u} J rv q=>⟨v,H',J.os,J.bare,J.base,J.hok,rv,q⟩
 cases fl with
 | ret u=>
  obtain ⟨v,σ',H',J,rv,q⟩:=hs
  exact fin J rv q
 | next=>
  obtain ⟨σ',H',J,q⟩:=hs
  exact fin (v:=V.non) (u:=Value.none) J rfl q
 | brk=>
  obtain ⟨_,_,_,q⟩:=hs
  exact False.elim q
 | cont=>
  obtain ⟨_,_,_,q⟩:=hs
  exact False.elim q
section
variable {X:Cx} {x:Str} {p pos:Pos} {e:Expr} {es:List Expr} {t:TA} {id T:String} {r:List V->Hp->VK->Prop}
def tCB (r:List V->Hp->VK->Prop) (t:TA):TE:=fun σ H Q=>t σ H fun vs H1=>r vs H1 Q
theorem ZAL (hc:ZBi X (.builtin id) r) (hg:Gl X x) (hm:X.mg x=none) (hv:bootBuiltins x=some (.builtin id)) (ha:PA X (e::es) t) (hn:x≠"__name__":=by decide) (hdb:(x == ("__debug__":Str))=false:=by decide)
  (he:starEach (e::es) X.env=(false,eval e X.env)::starEach es X.env:=by rfl) (hpl:(backTo pos (starEach es X.env)).any (·.1)=false:=by rfl):PE X (.Call (.Name x p) (e::es) [] pos) (tCB r t):=by
 intro pins s σ H Q I h
 refine wpAny_Call_Name_kw (ZCf I hg hm hv ?_ hn hdb)
 exact PyProof.Rows.callWith_builtin1 (thn (ha pos pins s σ H _ I h) fun us s1 ⟨vs,H1,I1,r1,q1⟩=>hc pins s1 σ H1 vs us Q I1 r1 q1) he hpl
theorem ZBq (hc:ZBi X (.type T) r) (hg:Gl X x) (hm:X.mg x=none) (hv:bootBuiltins x=some (.type T)) (ha:PA X (e::es) t) (hn:x≠"__name__":=by decide) (hdb:(x == ("__debug__":Str))=false:=by decide)
  (he:starEach (e::es) X.env=(false,eval e X.env)::starEach es X.env:=by rfl) (hpl:(backTo pos (starEach es X.env)).any (·.1)=false:=by rfl):PE X (.Call (.Name x p) (e::es) [] pos) (tCB r t):=by
 intro pins s σ H Q I h
 refine wpAny_Call_Name_kw (ZCf I hg hm hv ?_ hn hdb)
 exact PyProof.Rows.callWith_type1 (thn (ha pos pins s σ H _ I h) fun us s1 ⟨vs,H1,I1,r1,q1⟩=>hc pins s1 σ H1 vs us Q I1 r1 q1) he hpl
end
end L2
namespace HT
open PySem PyProof.Rows
def lexLt:List Int->List Int->Bool
 | [],[]=>false
 | [],_::_=>true
 | _::_,[]=>false
 | x::xs,y::ys=>if x=y then lexLt xs ys else decide (x < y)
theorem lexLt_cons (x y:Int) (xs ys:List Int):lexLt (x::xs) (y::ys)=if x=y then lexLt xs ys else decide (x < y):=rfl
theorem lexLt_nil_nil:lexLt [] []=false:=rfl
theorem lexLt_nil_cons (y:Int) (ys:List Int):lexLt [] (y::ys)=true:=rfl
theorem lexLt_cons_nil (x:Int) (xs:List Int):lexLt (x::xs) []=false:=rfl
theorem eqAt_int (A:Around) (s:Shared) (a:Int) (t:Tok) (c:Int) (u:Tok):∃ e,SeqAt.EqAt A s (.int a t) (.int c u) e /\ (e=true↔a=c) :=
 ⟨(a == c),SeqAt.EqAt.int_int a t c u,by simp⟩
theorem rcLt_int (A:Around) (s:Shared) (a:Int) (t:Tok) (c:Int) (u:Tok) (prog:Program) (w:World) (E:Value->Shared->Prop) (Q:Value->Shared->Prop) (h:Q (.bool (decide (a < c))) s) :
  wpAny (model prog w) A (richCompare .Lt (.int a t) (.int c u)) Q E s :=
 (PyProof.Rows.lt_int h:wpAny (model prog w) A (compareOp .Lt (.int a t) (.int c u)) Q E s)
section
open PySem.SeqAt
open PySem.AutoSeq1 (wpAny_loadPart')
open PySem.MeetsSeq PySem.MeetsSeq2 PySem.MeetsSeq3
theorem tuple_lt_ints (l b:Addr) (items items2:Array Value) (n n2:Nat) (dd dd2:Option Addr) (sl sl2:Array (Option Value)) (ns ms:List Int) (hi:IntsAre items.toList ns) (hj:IntsAre items2.toList ms) :
  Meets (Builtin.«tuple.__lt__» ⟨[.ref l,.ref b],[]⟩)
   (fun _ R s=>s.heap.get? l=some { cls:=.type "tuple",dict:=dd,data:=.seq items n,slots:=sl } /\ s.heap.get? b=some { cls:=.type "tuple",dict:=dd2,data:=.seq items2 n2,slots:=sl2 } /\
    R (.ok (.ret (.bool (lexLt ns ms)))) s) :=
 .of_wp fun prog w A R s h=>by
  obtain ⟨hp,g,d,tk,os⟩:=s;obtain ⟨hl,hb,h⟩:=h
  have f2:=AutoSeq1.sub_tuple_tuple
  have z1:items.size=ns.length:=by rw [<- hi.length];simp
  have z2:items2.size=ms.length:=by rw [<- hj.length];simp
  wp_walk using wpAny_loadPart' hl,wpAny_loadPart' hb,wpAny_forIn_list _ (fun rest b s'=>b.1=none /\ s'=⟨hp,g,d,tk,os⟩ /\ ∃ (vs ws:List Value) (ns' ms':List Int),rest=vs.zip ws /\
   IntsAre vs ns' /\ IntsAre ws ms' /\ ns'.length+items2.size=ms'.length+items.size /\ R (.ok (.ret (.bool (lexLt ns' ms')))) ⟨hp,g,d,tk,os⟩) _
  case turn=>
   rintro ⟨y,x⟩ rest b s' ⟨hb',rfl,vs,ws,ns',ms',hz,hvi,hwi,hlen,hR⟩
   cases hvi with
   | nil=>rw [List.zip_nil_left] at hz;cases hz
   | cons a t hvi'=>
    cases hwi with
    | nil=>rw [List.zip_nil_right] at hz;cases hz
    | cons c u hwi'=>
     rw [List.zip_cons_cons] at hz
     injection hz with hyx hrest
     injection hyx with hy hx
     subst hy hx
     rw [lexLt_cons] at hR
     simp only [yAN] at hlen
     obtain ⟨e,he,hiff⟩:=eqAt_int A.in1 ⟨hp,g,d,tk,os⟩ a t c u
     refine wpAny_bind (he prog w _ _ ?_)
     cases e with
     | true=>
      rw [if_pos (hiff.mp rfl)] at hR
      wp_walk
      exact ⟨rfl,rfl,_,_,_,_,hrest,hvi',hwi',by omega,hR⟩
     | false=>
      rw [if_neg (fun q=>absurd (hiff.mpr q) yAI)] at hR
      have hri:=rcLt_int A.in1 ⟨hp,g,d,tk,os⟩ a t c u prog w
      wp_walk using hri
      exact ⟨_,rfl,by simpa using hR⟩
  case fin=>
   rintro ⟨b1,b2⟩ s' ⟨hb',rfl,vs,ws,ns',ms',hz,hvi,hwi,hlen,hR⟩
   simp only at hb'
   subst hb'
   have hv:lexLt ns' ms'=decide (items.size < items2.size):=by
    cases hvi with
    | nil=>
     cases hwi with
     | nil=>
      simp only [yBA] at hlen
      rw [lexLt_nil_nil]
      exact (decide_eq_false (by omega)).symm
     | cons c u hw=>
      simp only [yBA,yAN] at hlen
      rw [lexLt_nil_cons]
      exact (decide_eq_true (by omega)).symm
    | cons a t hv=>
     cases hwi with
     | nil=>
      simp only [yBA,yAN] at hlen
      rw [lexLt_cons_nil]
      exact (decide_eq_false (by omega)).symm
     | cons c u hw=>
      rw [List.zip_cons_cons] at hz
      cases hz
   rw [hv] at hR
   wp_walk
   exact ⟨_,rfl,by simpa [Builtin.Tuple.tupleCompareSizes] using hR⟩
  case h=>
   exact ⟨rfl,rfl,items.toList,items2.toList,ns,ms,rfl,hi,hj,by omega,h⟩
end
section
variable {prog:Program} {w:World} {A:Around} {E:Value->Shared->Prop} {s:Shared}
theorem lt_tupInts {l b:Addr} {items items2:Array Value} {ns ms:List Int} {Q:Value->Shared->Prop} (hl:IsTup s.heap l items) (hb:IsTup s.heap b items2) (hi:IntsAre items.toList ns) (hj:IntsAre items2.toList ms)
  (hu:A.units < cLine) (h:Q (.bool (lexLt ns ms)) s):wpAny (model prog w) A (compareOp .Lt (.ref l) (.ref b)) Q E s:=by
 obtain ⟨⟨cls,dd,data,sl⟩,ho,hc,n,hd⟩:=id hl
 obtain ⟨⟨cls2,dd2,data2,sl2⟩,ho2,hc2,n2,hd2⟩:=id hb
 simp only at hc hd hc2 hd2
 subst hc hd hc2 hd2
 exact richCompare_meets_room (op:=.Lt) ⟨_,ho,rfl⟩ ⟨_,ho2,rfl⟩ PySem.F.slot_tuple_lt PySem.F.entry_tuple_lt (PySem.F.args_tuple_lt_2 _ _) (tuple_lt_ints l b items items2 n n2 dd dd2 sl sl2 ns ms hi hj)
  ⟨ho,ho2,show Value.bool (lexLt ns ms)≠Value.notImplemented /\ Q (.bool (lexLt ns ms)) s from ⟨(fun x=>nomatch x),h⟩⟩ hu
def sIx (n d:Nat):Option Int->Nat
 | none=>d
 | some v=>if v < 0 then (v+(n:Int)).toNat else min v.toNat n
end
end HT
namespace L2
open PySem PySem.Spec PyProof.Rows
abbrev TO:=St->Hp->(Option Int->Hp->Prop)->Prop
def PO (X:Cx) (e:Option Expr) (t:TO):Prop :=
 ∀ (pins:List (Addr×Obj)) (s:Shared) (σ:St) (H:Hp) (Q:Option Int->Hp->Prop),Inv X pins σ H s->t σ H Q ->
  wpAny (model X.prog X.w) X.A (evalPart e X.env) (fun u s'=>∃ o H',Inv X pins σ H' s' /\ IsPart u o /\ Q o H') X.xe s
def tNoPart:TO:=fun _ H Q=>Q none H
def ZC2 (t:TE):TO:=fun σ H Q=>t σ H fun x H1=>∃ i,x=.int i /\ Q (some i) H1
theorem intsAre_of {ns:List Int}:∀ {us:List Value},Vals (ns.map V.int) us->IntsAre us ns:=by
 induction ns with
 | nil=>intro us r;rw [List.map_nil] at r;cases r;exact .nil
 | cons n ns ih=>
  intro us r
  rw [yAO] at r
  cases r with
  | cons r1 r2=>
   obtain ⟨t,e⟩:=r1
   subst e
   exact .cons n t (ih r2)
section
variable {X:Cx} {e:Expr} {te:TE} {lo hi:Option Expr} {tl th:TO} {pos p2:Pos}
theorem po_some (h:PE X e te):PO X (some e) (ZC2 te):=by
 intro pins s σ H Q I hw
 rw [evalPart_some]
 refine thn (h pins s σ H _ I hw) fun u s1 ⟨x,H1,I1,r1,q1⟩=>?_
 obtain ⟨i,rfl,q⟩:=q1
 obtain ⟨t,rfl⟩:=r1
 exact ⟨some i,H1,I1,.int i t,q⟩
def SlR (X:Cx) (r:V->Option Int->Option Int->Hp->VK->Prop):Prop :=
 ∀ (pins:List (Addr×Obj)) (s:Shared) (σ:St) (H:Hp) (x:V) (v vl vu:Value) (lo hi:Option Int) (sl:Addr) (Q:VK),Inv X pins σ H s->RelV x v->s.heap.IsSliceOf sl vl vu .none->IsPart vl lo->IsPart vu hi->r x lo hi H Q ->
  ∃ T id,typeLookup (.type T) "__getitem__"=pure (some (.builtin id)) /\ s.TypeIs v T /\ wpAny (model X.prog X.w) X.A (getItem v (.ref sl)) (EP X pins σ Q) X.xe s
def tSl (r:V->Option Int->Option Int->Hp->VK->Prop) (te:TE) (tl th:TO):TE:=fun σ H Q=>te σ H fun x H1=>tl σ H1 fun l H2=>th σ H2 fun u H3=>r x l u H3 Q
theorem pe_slice {r:V->Option Int->Option Int->Hp->VK->Prop} (hr:SlR X r) (he:PE X e te) (hl:PO X lo tl) (hu:PO X hi th):PE X (.Subscript e (.Slice lo hi none p2) pos) (tSl r te tl th):=by
 intro pins s σ H Q I h
 refine Subscript_ (thn (he pins s σ H _ I h) fun v s1 ⟨x,H1,I1,r1,q1⟩=>?_)
 refine wpAny_Slice (thn (hl pins s1 σ H1 _ I1 q1) fun vl s2 ⟨l,H2,I2,pl,q2⟩=>thn (hu pins s2 σ H2 _ I2 q2) fun vu s3 ⟨u,H3,I3,pu,q3⟩=>?_)
 rw [evalPart_none]
 refine wpAny_pure ?_
 have I4:Inv X pins σ H3 { s3 with heap:=s3.heap.push { cls:=.type "slice",data:=.fields #[vl,vu,.none] } }:=I3.kept (t':=s3.toks) fun b ob q=>Heap.get?_push_of_some _ q
 obtain ⟨T,id,hT,ht,hg⟩:=hr pins { s3 with heap:=s3.heap.push { cls:=.type "slice",data:=.fields #[vl,vu,.none] } } σ H3 x v vl vu l u s3.heap.objs.size Q I4 r1 (Heap.IsSliceOf.new ..) pl pu q3
 show wpAny (model X.prog X.w) X.A (subscriptTail e (.Slice lo hi none p2) v (.ref s3.heap.objs.size)) (EP X pins σ Q) X.xe { s3 with heap:=s3.heap.push { cls:=.type "slice",data:=.fields #[vl,vu,.none] } }
 exact tail_any (ops:=[.ref s3.heap.objs.size,v]) ht hT hg (by with_unfolding_all rfl)
def cutV (xs:List V) (lo hi:Option Int):List V:=(xs.drop (HT.sIx xs.length 0 lo)).take (HT.sIx xs.length xs.length hi-HT.sIx xs.length 0 lo)
theorem cutV_length (xs:List V) (lo hi:Option Int):(cutV xs lo hi).length <= xs.length:=by
 unfold cutV
 rw [List.length_take,List.length_drop]
 omega
def rLtT (K:W.Frag):R2:=fun x y H Q=>∃ a b ns ms,x=.ref a /\ y=.ref b /\ SqT K H a (ns.map V.int) /\ SqT K H b (ms.map V.int) /\ Q (.bl (HT.lexLt ns ms)) H
theorem op_ltT (hu:X.A.units < cLine):OpR X (compareOp .Lt) (rLtT X.K):=by
 intro pins s σ H x y v u Q I rx ry h
 obtain ⟨a,b,ns,ms,rfl,rfl,ha,hb,q⟩:=h
 cases rx
 cases ry
 obtain ⟨its,r1,p1,_⟩:=I.tuple ha
 obtain ⟨its2,r2,p2,_⟩:=I.tuple hb
 have i1:IntsAre its.toArray.toList ns:=intsAre_of r1
 have i2:IntsAre its2.toArray.toList ms:=intsAre_of r2
 exact HT.lt_tupInts p1 p2 i1 i2 hu ⟨.bl (HT.lexLt ns ms),H,I,rfl,q⟩
end
def ixN (n:Nat) (i:Int):Option Nat:=if 0 <= i then (if i < n then some i.toNat else none) else if -(n:Int) <= i then some (i+n).toNat else none
def atI {α:Type} (xs:List α) (i:Int):Option α:=(ixN xs.length i).bind fun j=>xs[j]?
theorem ixN_seq {n:Nat} {i:Int} {j:Nat} (h:ixN n i=some j):seqIndex? i n=some j /\ j < n /\ -(n:Int) <= i /\ i < n:=by
 unfold ixN at h
 by_cases h0:0 <= i
 .rw [if_pos h0] at h
  by_cases h1:i < n
  .rw [if_pos h1] at h
   have e:i.toNat=j:=Option.some.inj h
   exact ⟨by rw [seqIndex_of h0 h1,e],by omega,by omega,h1⟩
  .rw [if_neg h1] at h;cases h
 .rw [if_neg h0] at h
  by_cases h1:-(n:Int) <= i
  .rw [if_pos h1] at h
   have e:(i+n).toNat=j:=Option.some.inj h
   exact ⟨by rw [seqIndex_neg (by omega) h1,e],by omega,h1,by omega⟩
  .rw [if_neg h1] at h;cases h
theorem atI_get {α:Type} {xs:List α} {i:Int} {v:α} (h:atI xs i=some v):∃ j,seqIndex? i xs.length=some j /\ xs[j]?=some v /\ j < xs.length /\ -(xs.length:Int) <= i /\ i < xs.length:=by
 unfold atI at h
 cases e:ixN xs.length i with
 | none=>rw [e] at h;cases h
 | some j=>
  rw [e] at h
  obtain ⟨h1,h2,h3,h4⟩:=ixN_seq e
  exact ⟨j,h1,h,h2,h3,h4⟩
theorem atI_nat {α:Type} {xs:List α} {j:Nat} {v:α} (h:xs[j]?=some v):atI xs (j:Int)=some v:=by
 have hj:j < xs.length:=(yAR.mp h).1
 have e:ixN xs.length (j:Int)=some j:=by
  unfold ixN
  rw [if_pos (by omega),if_pos (by omega)];simp
 unfold atI;rw [e];exact h
def PlainIx (b:Expr):Prop:=∀ o i,subscripted b false o i=operate [o,i] (getItem o i)
def IxR (X:Cx) (r:R2):Prop :=
 ∀ (value slice:Expr) (pins:List (Addr×Obj)) (s:Shared) (σ:St) (H:Hp) (x y:V) (v u:Value) (Q:VK),Inv X pins σ H s->RelV x v->RelV y u->r x y H Q ->
  subscripted slice false v u=operate [v,u] (getItem v u)->wpAny (model X.prog X.w) X.A (subscriptTail value slice v u) (EP X pins σ Q) X.xe s
def MtR (X:Cx) (id:String) (r:V->List V->Hp->VK->Prop):Prop :=
 ∀ (pins:List (Addr×Obj)) (s:Shared) (σ:St) (H:Hp) (x:V) (xs:List V) (v:Value) (us:List Value) (Q:VK),Inv X pins σ H s->RelV x v->Vals xs us->r x xs H Q ->
  wpAny (model X.prog X.w) X.A (call (.builtin id) (v::us)) (EP X pins σ Q) X.xe s
section
variable {X:Cx} {a b:Expr} {ta tb:TE} {pos:Pos}
theorem ZAX {r:R2} (hr:IxR X r) (ha:PE X a ta) (hb:PE X b tb) (hs:PlainIx b):PE X (.Subscript a b pos) (tOp r ta tb):=by
 intro pins s σ H Q I h
 exact Subscript_ (binT ha hb I h fun v u s2 x y H2 I2 rx ry q=>hr a b pins s2 σ H2 x y v u Q I2 rx ry q (hs _ _))
def rIxL (K:W.Frag):R2:=fun x y H Q=>∃ p xs i v,x=.ref p /\ y=.int i /\ SqL K H p xs /\ atI xs i=some v /\ Q v H
def rIxT (K:W.Frag):R2:=fun x y H Q=>∃ p xs i v,x=.ref p /\ y=.int i /\ SqT K H p xs /\ atI xs i=some v /\ Q v H
theorem ZAJ:IxR X (rIxL X.K):=by
 intro value slice pins s σ H x y v u Q I rx ry h hs
 obtain ⟨p,xs,i,z,rfl,rfl,hq,he,q⟩:=h
 cases rx
 obtain ⟨t,rfl⟩:=ry
 obtain ⟨its,r,pl,hz⟩:=I.list hq
 obtain ⟨j,h1,h2,h3,h4,h5⟩:=atI_get he
 obtain ⟨w,ew,rw'⟩:=r.get h2
 have hl:=r.length
 have hn:=ZCe
 have fin:EP X pins σ Q w s:=⟨z,H,I,rw',q⟩
 by_cases h0:0 <= i
 .have hj:i.toNat=j:=by
   rw [seqIndex_of h0 h5] at h1
   exact Option.some.inj h1
  exact item_listR pl.isList h0 (by omega) (by rw [hj];simpa using ew) fin hs
 .have hj:(i+(its.toArray.size:Int)).toNat=j:=by
   rw [seqIndex_neg (by omega) h4] at h1
   rw [yAK,<- hl]
   exact Option.some.inj h1
  exact subscriptTail_builtinR (x:=w) pl.isList.typeIs slot_list_getitem.lookup
   (wpAny_getItem_list_neg (Q:=fun r s'=>r=w /\ EP X pins σ Q r s') pl.isList (by omega) (by rw [yAK] <;> omega) (by omega) (by rw [hj];simpa using ew) ⟨rfl,fin⟩) hs
theorem ZCO:IxR X (rIxT X.K):=by
 intro value slice pins s σ H x y v u Q I rx ry h hs
 obtain ⟨p,xs,i,z,rfl,rfl,hq,he,q⟩:=h
 cases rx
 obtain ⟨t,rfl⟩:=ry
 obtain ⟨its,r,pl,hz⟩:=I.tuple hq
 obtain ⟨j,h1,h2,h3,h4,h5⟩:=atI_get he
 obtain ⟨w,ew,rw'⟩:=r.get h2
 have hl:=r.length
 have hn:=ZCe
 have fin:EP X pins σ Q w s:=⟨z,H,I,rw',q⟩
 exact subscriptTail_builtinR (x:=w) pl.typeIs slot_tuple_getitem.lookup
  (getItem_tuple (j:=j) (Q:=fun r s'=>r=w /\ EP X pins σ Q r s') pl (by omega) (by omega) (by rw [yAK,<- hl];exact h1) (by simpa using ew) ⟨rfl,fin⟩) hs
theorem mapSeq_set (its:List Value) (n j:Nat) (u:Value):Obj.mapSeq (·.setIfInBounds j u) { cls:=.type "list",data:=.seq its.toArray n }={ cls:=.type "list",data:=.seq (its.set j u).toArray n }:=by
 simp [Obj.mapSeq]
theorem Inv.lst {pins:List (Addr×Obj)} {σ:St} {H:Hp} {s:Shared} {p:Addr} {xs:List V} (I:Inv X pins σ H s) (h:H p=some (.lst xs)) :
  ∃ (its:List Value) (n:Nat),Vals xs its /\ s.heap.get? p=some { cls:=.type "list",data:=.seq its.toArray n } /\ xs.length <= sizeLine:=by
 obtain ⟨z,its,n,r,e⟩:=I.hok p _ h
 exact ⟨its,n,r,e,z⟩
theorem Inv.lstUpd {pins:List (Addr×Obj)} {σ:St} {H:Hp} {s:Shared} {p:Addr} {xs ys:List V} {its its':List Value} {n n':Nat} {f:Obj->Obj} (I:Inv X pins σ H s) (h:H p=some (.lst xs))
  (ho:s.heap.get? p=some { cls:=.type "list",data:=.seq its.toArray n }) (hf:f { cls:=.type "list",data:=.seq its.toArray n }={ cls:=.type "list",data:=.seq its'.toArray n' }) (r:Vals ys its') (hz:ys.length <= sizeLine) (t:Nat) :
  Inv X pins σ (upd H p (.lst ys)) { s with heap:=s.heap.update p f,toks:=t }:=by
 have e:(s.heap.update p f).get? p=some { cls:=.type "list",data:=.seq its'.toArray n' }:=by
  rw [Heap.get?_update_self f ho (by rw [hf] <;> rfl),hf]
 refine I.write (x:=p) (e:=p) (by rw [h];trivial) (.inl rfl) (fun b u hb q=>(Heap.get?_update_other _ _ (Ne.symm hb)).trans q) ⟨_,e⟩ ?_
 exact ⟨hz,its',n',r,e⟩
def rSetL:V->V->V->Hp->(Hp->Prop)->Prop:=fun o i v H Q=>∃ p xs k j,o=.ref p /\ i=.int k /\ H p=some (.lst xs) /\ ixN xs.length k=some j /\ Q (upd H p (.lst (xs.set j v)))
theorem set_list:PSet X rSetL:=by
 intro pins s σ H o i v ov iv u Q I ro ri rv h
 obtain ⟨p,xs,k,j,rfl,rfl,hp,hj,q⟩:=h
 cases ro
 obtain ⟨t,rfl⟩:=ri
 obtain ⟨its,n,r,ho,hz⟩:=I.lst hp
 obtain ⟨h1,h2,h3,h4⟩:=ixN_seq hj
 have hl:=r.length
 have hn:=ZCe
 have I':Inv X pins σ (upd H p (.lst (xs.set j v))) { s with heap:=s.heap.update p (Obj.mapSeq (·.setIfInBounds j u)) } :=
  I.lstUpd hp ho (mapSeq_set its n j u) (r.set rv j) (by rw [List.length_set];exact hz) s.toks
 by_cases h0:0 <= k
 .have hk:k.toNat=j:=by
   rw [seqIndex_of h0 h4] at h1
   exact Option.some.inj h1
  exact PySem.W.ki_setAt ho h0 (by omega) (by rw [yAK,<- hl];exact h4) (by rw [hk];exact ⟨_,I',q⟩)
 .have hk:(k+(its.toArray.size:Int)).toNat=j:=by
   rw [seqIndex_neg (by omega) h3] at h1
   rw [yAK,<- hl]
   exact Option.some.inj h1
  exact PySem.W.ki_setBack ho (by omega) (by rw [yAK,<- hl];exact h3) (by omega) (by rw [hk];exact ⟨_,I',q⟩)
theorem slice_bounds (lo hi:Option Int) (n:Nat):(sliceBounds lo hi none n).1=((HT.sIx n 0 lo:Nat):Int) /\ (sliceBounds lo hi none n).2.1=((HT.sIx n n hi:Nat):Int) /\ (sliceBounds lo hi none n).2.2=1:=by
 refine ⟨?_,?_,rfl⟩
 .cases lo with
  | none=>simp [sliceBounds,HT.sIx]
  | some i=>
   simp only [sliceBounds,HT.sIx,Option.getD_none,show (1:Int) > 0 by decide,if_true]
   by_cases h:i < 0
   .simp only [h,if_true] <;> omega
   .simp only [h,if_false] <;> omega
 .cases hi with
  | none=>simp [sliceBounds,HT.sIx]
  | some i=>
   simp only [sliceBounds,HT.sIx,Option.getD_none,show (1:Int) > 0 by decide,if_true]
   by_cases h:i < 0
   .simp only [h,if_true] <;> omega
   .simp only [h,if_false] <;> omega
theorem slicePick_cut (its:List Value) (lo hi:Option Int):slicePick its.toArray lo hi none=((its.drop (HT.sIx its.length 0 lo)).take (HT.sIx its.length its.length hi-HT.sIx its.length 0 lo)).toArray:=by
 obtain ⟨h1,h2,h3⟩:=slice_bounds lo hi its.toArray.size
 unfold slicePick
 rw [h1,h2,h3]
 simp only [sliceRange_one,pick_run,yAK] <;> rfl
def rSlL (K:W.Frag):V->Option Int->Option Int->Hp->VK->Prop:=fun x lo hi H Q=>∃ a xs,x=.ref a /\ SqL K H a xs /\ ∀ p,H p=none->Q (.ref p) (upd H p (.lst (cutV xs lo hi)))
theorem sl_list:SlR X (rSlL X.K):=by
 intro pins s σ H x v vl vu lo hi sl Q I rx hs pl pu h
 obtain ⟨a,xs,rfl,hx,q⟩:=h
 cases rx
 obtain ⟨its,r,ht,hz⟩:=I.list hx
 have hlen:=r.length
 refine ⟨"list",_,slot_list_getitem.lookup,ht.isList.typeIs,?_⟩
 refine wpAny_getItem_list_slice ht.isList hs pl pu .none (by simp) ?_ (by rw [yAK] <;> omega)
 rw [slicePick_cut,<- hlen]
 refine ⟨.ref s.heap.objs.size,_,I.laid (t':=s.toks) (o:=.lst (cutV xs lo hi)) (fun b ob q=>Heap.get?_push_of_some _ q) (yAB _) ?_,rfl,q _ (I.hok.fresh (yAB _))⟩
 exact ⟨yAH (cutV_length xs lo hi) hz,_,0,(r.drop (HT.sIx xs.length 0 lo)).take (HT.sIx xs.length xs.length hi-HT.sIx xs.length 0 lo),Heap.get?_push_size _ rfl⟩
def ZCP:V->Bool
 | .non=>true
 | .bl _=>true
 | .int _=>true
 | .str _=>true
 | _=>false
def eqV:V->V->Bool
 | .non,.non=>true
 | .bl a,.bl b=>a == b
 | .bl a,.int b=>(if a then 1 else 0) == b
 | .int a,.bl b=>a == (if b then 1 else 0)
 | .int a,.int b=>a == b
 | .str a,.str b=>a == b
 | _,_=>false
theorem eqAt_V {A:Around} {s:Shared} {y x:V} {u v:Value} (ry:RelV y u) (rx:RelV x v) (fy:ZCP y=true) (fx:ZCP x=true):SeqAt.EqAt A s u v (eqV y x):=by
 cases y with
 | non=>
  cases ry
  cases x with
  | non=>cases rx;exact SeqAt.EqAt.same _
  | bl b=>cases rx;exact SeqAt.EqAt.none_bool b
  | int b=>obtain ⟨t,rfl⟩:=rx;exact SeqAt.EqAt.none_int b t
  | str b=>obtain ⟨t,rfl⟩:=rx;exact SeqAt.EqAt.none_str b t
  | _=>exact absurd (show false=true from fx) yAI
 | bl a=>
  cases ry
  cases x with
  | non=>cases rx;exact SeqAt.EqAt.bool_none a
  | bl b=>cases rx;exact SeqAt.EqAt.bool_bool a b
  | int b=>obtain ⟨t,rfl⟩:=rx;exact SeqAt.EqAt.bool_int a b t
  | str b=>obtain ⟨t,rfl⟩:=rx;exact SeqAt.EqAt.bool_str a b t
  | _=>exact absurd (show false=true from fx) yAI
 | int a=>
  obtain ⟨t',rfl⟩:=ry
  cases x with
  | non=>cases rx;exact SeqAt.EqAt.int_none a t'
  | bl b=>cases rx;exact SeqAt.EqAt.int_bool a t' b
  | int b=>obtain ⟨t,rfl⟩:=rx;exact SeqAt.EqAt.int_int a t' b t
  | str b=>obtain ⟨t,rfl⟩:=rx;exact SeqAt.EqAt.int_str a t' b t
  | _=>exact absurd (show false=true from fx) yAI
 | str a=>
  obtain ⟨t',rfl⟩:=ry
  cases x with
  | non=>cases rx;exact SeqAt.EqAt.str_none a t'
  | bl b=>cases rx;exact SeqAt.EqAt.str_bool a t' b
  | int b=>obtain ⟨t,rfl⟩:=rx;exact SeqAt.EqAt.str_int a t' b t
  | str b=>obtain ⟨t,rfl⟩:=rx;exact SeqAt.EqAt.str_str a t' b t
  | _=>exact absurd (show false=true from fx) yAI
 | _=>exact absurd (show false=true from fy) yAI
def eqU (x:V) (u:Value):Bool:=match u with
 | .none=>eqV .non x
 | .bool b=>eqV (.bl b) x
 | .int i _=>eqV (.int i) x
 | .str z _=>eqV (.str z) x
 | _=>false
theorem eqU_of {x y:V} {u:Value} (r:RelV y u) (f:ZCP y=true):eqU x u=eqV y x:=by
 cases y with
 | non=>cases r;rfl
 | bl b=>cases r;rfl
 | int i=>obtain ⟨t,rfl⟩:=r;rfl
 | str z=>obtain ⟨t,rfl⟩:=r;rfl
 | _=>exact absurd (show false=true from f) yAI
theorem ZCa {x:V}:∀ {xs:List V} {us:List Value},Vals xs us->xs.all ZCP=true->us.any (eqU x)=xs.any fun y=>eqV y x
 | _,_,.nil,_=>rfl
 | y::xs,u::us,.cons r t,f=>by
  rw [List.all_cons,Bool.and_eq_true] at f
  rw [List.any_cons,List.any_cons,eqU_of r f.1,ZCa t f.2]
theorem ZCG {A:Around} {s:Shared} {x:V} {v:Value} (rx:RelV x v) (fx:ZCP x=true):∀ {xs:List V} {us:List Value},Vals xs us->xs.all ZCP=true->∀ u∈us,SeqAt.EqAt A s u v (eqU x u)
 | _,_,.nil,_=>fun u hu=>by cases hu
 | y::xs,u::us,.cons r t,f=>fun u' hu=>by
  rw [List.all_cons,Bool.and_eq_true] at f
  rcases yAA.mp hu with rfl | hu
  .rw [eqU_of r f.1];exact eqAt_V r rx f.1 fx
  .exact ZCG rx fx t f.2 u' hu
def inV (x:V) (xs:List V):Bool:=xs.any fun y=>eqV y x
def rIn (K:W.Frag) (neg:Bool):R2:=fun x y H Q=>∃ p xs,y=.ref p /\ (SqL K H p xs∨SqT K H p xs) /\ ZCP x=true /\ xs.all ZCP=true /\ Q (.bl (if neg then !inV x xs else inV x xs)) H
theorem op_in_seq:OpR X (compareOp .In) (rIn X.K false):=by
 intro pins s σ H x y v u Q I rx ry h
 obtain ⟨p,xs,rfl,hq,fx,fs,q⟩:=h
 cases ry
 rcases hq with hq | hq
 .obtain ⟨its,r,pl,hz⟩:=I.list hq
  refine SeqAt.in_listAt (eqU x) pl.isList (fun w hw=>ZCG rx fx r fs w (by simpa using hw)) ⟨.bl _,H,I,rfl,?_⟩
  rw [show its.toArray.any (eqU x)=its.any (eqU x) by simp,ZCa r fs]
  exact q
 .obtain ⟨its,r,pl,hz⟩:=I.tuple hq
  refine SeqAt.in_tupleAt (eqU x) pl (fun w hw=>ZCG rx fx r fs w (by simpa using hw)) ⟨.bl _,H,I,rfl,?_⟩
  rw [show its.toArray.any (eqU x)=its.any (eqU x) by simp,ZCa r fs]
  exact q
theorem ZAT:ZBi X (.builtin "len") (fun xs H Q=>∃ p ys,xs=[.ref p] /\ (SqL X.K H p ys∨SqT X.K H p ys) /\ Q (.int ys.length) H):=by
 intro pins s σ H xs us Q I r h
 obtain ⟨p,ys,rfl,hq,q⟩:=h
 obtain ⟨u,rfl,rx⟩:=vals1 r
 cases rx
 have hn:=ZCe
 rcases hq with hq | hq
 .obtain ⟨its,r',pl,hz⟩:=I.list hq
  have hlen:=r'.length
  exact Calls.call_len_list pl.isList (by simp only [yAK] <;> omega) ⟨.int ys.length,H,I.tok _,⟨s.toks+1,by rw [yAK,hlen]⟩,q⟩
 .obtain ⟨its,r',pl,hz⟩:=I.tuple hq
  have hlen:=r'.length
  exact len_tuple pl (by simp only [yAK] <;> omega) ⟨.int ys.length,H,I.tok _,⟨s.toks+1,by rw [yAK,hlen]⟩,q⟩
theorem ZBM:ZBi X (.type "list") (fun xs H Q=>∃ p ys,xs=[.ref p] /\ (SqL X.K H p ys∨SqT X.K H p ys) /\ ∀ l,H l=none->Q (.ref l) (upd H l (.lst ys))):=by
 intro pins s σ H xs us Q I r h
 obtain ⟨p,ys,rfl,hq,q⟩:=h
 obtain ⟨u,rfl,rx⟩:=vals1 r
 cases rx
 have fin:∀ (its:List Value),Vals ys its->ys.length <= sizeLine->∀ (h':Heap) (c':Nat),(∀ b o',s.heap.get? b=some o'->h'.get? b=some o') ->
   h'.get? s.heap.objs.size=some { cls:=.type "list",dict:=none,data:=.seq its.toArray c',slots:=#[] }->EP X pins σ Q (.ref s.heap.objs.size) { s with heap:=h' }:=fun its r' hz h' c' kp e=>
  ⟨.ref s.heap.objs.size,_,I.laid (t':=s.toks) kp (yAB _) (show ObjOk X.prog X.w _ h' _ (.lst ys) from ⟨hz,its,c',r',e⟩),rfl,q _ (I.hok.fresh (yAB _))⟩
 rcases hq with hq | hq
 .obtain ⟨its,r',pl,hz⟩:=I.list hq
  have hlen:=r'.length
  obtain ⟨o,ho,hc,n,hd⟩:=pl.isList
  exact call_list_seq p (.inl rfl) ho hc hd (fun h' c' kp e=>fin its r' hz h' c' kp e) (by simp only [yAK] <;> omega)
 .obtain ⟨its,r',pl,hz⟩:=I.tuple hq
  have hlen:=r'.length
  obtain ⟨o,ho,hc,n,hd⟩:=pl
  exact call_list_seq p (.inr rfl) ho hc hd (fun h' c' kp e=>fin its r' hz h' c' kp e) (by simp only [yAK] <;> omega)
def tyV (K:W.Frag) (T:String) (x:V) (H:Hp):Prop:=match x with
 | .str _=>T="str"
 | .int _=>T="int"
 | .ref p=>(T="list" /\ ∃ xs,SqL K H p xs)∨(T="tuple" /\ ∃ o,K.lookup p=some o /\ o.cls=.type "tuple" /\ o.dict=none) ∨
   (T="dict" /\ ((∃ kvs,H p=some (.dK kvs))∨∃ kvs,H p=some (.dT kvs)))∨(T="set" /\ ∃ S n,H p=some (.set S n))
 | _=>False
theorem tyV_is {pins:List (Addr×Obj)} {σ:St} {H:Hp} {s:Shared} {T:String} {x:V} {v:Value} (I:Inv X pins σ H s) (r:RelV x v) (ty:tyV X.K T x H) :
  s.TypeIs v T /\ ∀ a,v=.ref a->∃ ob,s.heap.get? a=some ob /\ ob.dict=none:=by
 cases x with
 | str z=>
  obtain ⟨t,rfl⟩:=r
  cases (show T="str" from ty)
  exact ⟨typeIs_str s z t,fun _ e=>nomatch e⟩
 | int i=>
  obtain ⟨t,rfl⟩:=r
  cases (show T="int" from ty)
  exact ⟨typeIs_int s i t,fun _ e=>nomatch e⟩
 | ref p=>
  cases r
  rcases ty with ⟨rfl,xs,hq⟩ | ⟨rfl,o,hk,hc,hd⟩ | ⟨rfl,hk⟩ | ⟨rfl,S,n,hk⟩
  .obtain ⟨its,_,pl,_⟩:=I.list hq
   refine ⟨pl.isList.typeIs,fun a e=>?_⟩
   cases e
   obtain ⟨o,n,e,c,hd,_⟩:=pl
   exact ⟨o,e,hd⟩
  .refine ⟨⟨o,I.kIn p o hk,hc⟩,fun a e=>?_⟩
   cases e
   exact ⟨o,I.kIn _ o hk,hd⟩
  .have z:∃ o,s.heap.get? p=some o /\ o.ExactDict:=by
    rcases hk with ⟨kvs,hk⟩ | ⟨kvs,hk⟩
    .obtain ⟨_,_,_,_,o,_,_,e,ex,_⟩:=I.hok p _ hk
     exact ⟨o,e,ex⟩
    .obtain ⟨_,_,_,_,o,_,_,e,ex,_⟩:=I.hok p _ hk
     exact ⟨o,e,ex⟩
   obtain ⟨o,e,ex⟩:=z
   refine ⟨⟨o,e,ex.1⟩,fun a e2=>?_⟩
   cases e2
   exact ⟨o,e,ex.2.1⟩
  .obtain ⟨o,_,_,_,e,ex,_⟩:=I.hok p _ hk
   refine ⟨⟨o,e,ex.1⟩,fun a e2=>?_⟩
   cases e2
   exact ⟨o,e,ex.2.1⟩
 | _=>exact False.elim ty
def tBM0 (K:W.Frag) (T:String) (r:V->List V->Hp->VK->Prop) (to:TE):TE:=fun σ H Q=>to σ H fun x H1=>tyV K T x H1 /\ r x [] H1 Q
def tBM (K:W.Frag) (T:String) (r:V->List V->Hp->VK->Prop) (to:TE) (t:TA):TE:=fun σ H Q=>to σ H fun x H1=>tyV K T x H1 /\ t σ H1 fun xs H2=>r x xs H2 Q
variable {o e:Expr} {es:List Expr} {to:TE} {t:TA} {name:Str} {apos cpos:Pos} {T id:String} {r:V->List V->Hp->VK->Prop}
theorem ZCV (pa:PlainAttrs T) (slot:Slot T name id) (hty:typeOf (.builtin id)=pure (.type "method_descriptor")) (hm:MtR X id r) (ho:PE X o to) (ha:PA X (e::es) t)
  (hbase:attributeBase o name X.env (eval o X.env)=eval o X.env:=by rfl)
  (hfew:((backTo cpos (starEach (e::es) X.env)).all (fun x=>!x.1) && (backToKw cpos (keywordEach [] X.env)).all (fun x=>x.1.isSome)
   && decide ((e::es).length+([]:List Keyword).length+(if ([]:List Keyword).isEmpty then 0 else 1) < 30))=true:=by rfl)
  (hline:(apos.endLine == cpos.line)=true:=by rfl) (hs:starEach (e::es) X.env=(false,eval e X.env)::starEach es X.env:=by rfl) (hplain:(backTo cpos (starEach es X.env)).any (·.1)=false:=by rfl) :
  PE X (.Call (.Attribute o name apos) (e::es) [] cpos) (tBM X.K T r to t):=by
 intro pins s σ H Q I h
 refine wpAny_Call_method_late hbase hfew hline rfl (thn (ho pins s σ H _ I h) fun v s1 ⟨x,H1,I1,r1,ty,q1⟩=>?_)
 obtain ⟨h1,h2⟩:=tyV_is I1 r1 ty
 refine ⟨T,id,pa,slot,hty,h1,h2,?_⟩
 have hA:=ha cpos pins s1 σ H1 _ I1 q1
 rw [hs] at hA ⊢
 refine Calls.callWith_builtin (by show (false || (backTo cpos (starEach es X.env)).any (·.1))=false;rw [hplain] <;> rfl) (Calls.evalArgs_plain ?_)
 exact thn hA fun us s2 ⟨vs,H2,I2,r2,q2⟩=>hm pins s2 σ H2 x vs v us Q I2 r1 r2 q2
end
def MtM (X:Cx) (id:String) (r:V->List V->Hp->VK->Prop):Prop :=
 ∀ (pins:List (Addr×Obj)) (s:Shared) (σ:St) (H:Hp) (x:V) (xs:List V) (v:Value) (us:List Value) (Q:VK),Inv X pins σ H s->RelV x v->Vals xs us->r x xs H Q ->
  wpAny (model X.prog X.w) X.A (call (.builtin id) (v::us)) (EP X pins σ Q) X.xe s
theorem Vals.one:∀ {x:V} {us:List Value},Vals [x] us->∃ u,us=[u] /\ RelV x u
 | _,_,.cons r .nil=>⟨_,rfl,r⟩
section
variable {X:Cx} {pins:List (Addr×Obj)} {σ:St} {H:Hp} {s:Shared} {l b:Addr} {xs ys zs:List V}
theorem Inv.lset {its its':List Value} {n:Nat} {f:Array Value->Array Value} {t':Nat} (I:Inv X pins σ H s) (hH:H l=some (.lst xs))
  (e:s.heap.get? l=some { cls:=.type "list",data:=.seq its.toArray n }) (hf:f its.toArray=its'.toArray) (hv:Vals ys its') (hz:ys.length <= sizeLine) :
  Inv X pins σ (upd H l (.lst ys)) { s with heap:=s.heap.update l (Obj.mapSeq f),toks:=t' }:=by
 have q:=PySem.IsL.update e f
 rw [hf] at q
 refine I.write (x:=l) (e:=l) (by rw [hH];exact trivial) (.inl rfl) (fun b' u hb hu=>(Heap.get?_update_other s.heap (Obj.mapSeq f) (Ne.symm hb)).trans hu) ⟨_,q⟩ ?_
 exact ⟨hz,its',_,hv,q⟩
theorem Inv.lnew {its:List Value} {t':Nat} (I:Inv X pins σ H s) (hv:Vals ys its) (hz:ys.length <= sizeLine) :
  Inv X pins σ (upd H s.heap.objs.size (.lst ys)) { s with heap:=s.heap.push { cls:=.type "list",data:=.seq its.toArray },toks:=t' } :=
 I.laid (fun _ _ q=>Heap.get?_push_of_some _ q) (yAB _) ⟨hz,its,0,hv,Heap.get?_push_size _ rfl⟩
theorem Inv.fresh (I:Inv X pins σ H s):H s.heap.objs.size=none:=I.hok.fresh (yAB _)
theorem Inv.lstM (I:Inv X pins σ H s) (hH:H l=some (.lst xs)):xs.length <= sizeLine /\ ∃ (its:List Value) (n:Nat),Vals xs its /\ xs.length=its.length /\ s.heap.get? l=some { cls:=.type "list",data:=.seq its.toArray n }:=by
 obtain ⟨z,its,n,r,e⟩:=I.hok l _ hH
 exact ⟨z,its,n,r,r.length,e⟩
end
section
variable {X:Cx}
def rAppend:V->List V->Hp->VK->Prop:=fun x vs H Q=>∃ l xs y,x=.ref l /\ vs=[y] /\ H l=some (.lst xs) /\ xs.length < sizeLine /\ Q .non (upd H l (.lst (xs++[y])))
theorem ZAw:MtM X "list.append" rAppend:=by
 intro pins s σ H x vs v us Q I rx rv h
 obtain ⟨l,xs,y,rfl,rfl,hH,hz,q⟩:=h
 cases rx
 obtain ⟨u,rfl,ru⟩:=rv.one
 obtain ⟨z,its,n,r,hl,e⟩:=I.lstM hH
 refine call_meets F.slot_list_append ⟨_,e,rfl⟩ F.entry_list_append (F.args_list_append_2 _ _) (PySem.list_append l its.toArray n u (by rw [yAK];omega)) ⟨e,?_⟩
 refine ⟨.non,_,I.lset (its':=its++[u]) hH e (by simp) (r.append (.cons ru .nil)) ?_,rfl,q⟩
 rw [yAJ,List.length_singleton]
 omega
def rCat:R2:=fun x y H Q=>∃ l b xs zs,x=.ref l /\ y=.ref b /\ H l=some (.lst xs) /\ H b=some (.lst zs) /\ xs.length+zs.length <= sizeLine /\ ∀ p,H p=none->Q (.ref p) (upd H p (.lst (xs++zs)))
theorem op_cat:OpR X (binaryOp .Add) rCat:=by
 intro pins s σ H x y v u Q I rx ry h
 obtain ⟨l,b,xs,zs,rfl,rfl,hH,hB,hz,q⟩:=h
 cases rx
 cases ry
 obtain ⟨z,its,n,r,hl,e⟩:=I.lstM hH
 obtain ⟨z2,its2,n2,r2,hl2,e2⟩:=I.lstM hB
 refine PySem.P.add_list e e2 ?_ (by rw [yAK,yAK];omega)
 have ea:its.toArray++its2.toArray=(its++its2).toArray:=by simp
 rw [ea]
 exact ⟨.ref _,_,I.lnew (t':=s.toks) (r.append r2) (by rw [yAJ];omega),rfl,q _ I.fresh⟩
end
section
variable {prog:Program} {w:World} {A:Around} {E:Value->Shared->Prop} {s:Shared}
set_option maxRecDepth 100000 in
end
section
variable {X:Cx}
end
end L2
namespace Att
open PySem PySem.W PySem.Calls PyProof.Rows
theorem ints_of_wellAll {P:Params} {h:Heap}:∀ (ns:List Int) (vs:List Value),WellAll P h vs (ns.map WData.int)->IntsAre vs ns:=by
 intro ns
 induction ns with
 | nil=>
  intro vs w
  rw [List.map_nil] at w
  cases w
  exact .nil
 | cons n ns ih=>
  intro vs w
  rw [yAO] at w
  cases w with
  | cons a b=>
   cases a
   exact .cons _ _ (ih _ b)
theorem script_of {l:OpenLaw} {n:Nat} (hn:l.most=some n) {P:Params} {h:Heap} {args:List WData} {vals:List Value}
  (hpre:l.row.toRowW.claim.pre args=true) (hwl:WellAll P h vals args) :
  ∃ a vs ns,vals=[Value.ref a] /\ args=[WData.list (ns.map WData.int)] /\ h.get? a=some { cls:=.type "list",data:=.seq vs.toArray } /\ IntsAre vs ns /\ ns.length <= n:=by
 have hsh:WShape.hasAll [] args [.list .int]=true:=(pre_splitW hpre).1
 have hc:l.pre.holds [] { args:=args }=true:=(pre_splitW hpre).2
 obtain ⟨d,r,rfl,h1,h2⟩:=hasAllW_cons hsh
 obtain rfl:=hasAllW_nil h2
 obtain ⟨xs,rfl,h3⟩:=hasW_list h1
 obtain ⟨ns,rfl⟩:=items_int h3
 have hlen:ns.length <= n:=by
  unfold OpenLaw.pre at hc
  have h4:(WTm.not (.lt (.lit (.int (n:Int))) (.len (.arg 0)))).holds [] { args:=[.list (ns.map .int)] }=true:=by
   have h4:=(holds_andW hc).1
   rw [hn] at h4
   exact h4
  have h5:=condW_of h4 (w_not (w_lt w_lit (w_len_list (w_arg rfl))))
  rw [yAP] at h5
  refine Nat.le_of_not_lt fun q=>?_
  have q':(n:Int) < ((ns.length:Nat):Int):=by omega
  first
   | (rw [decide_eq_true q'] at h5;exact absurd h5 (by decide))
   | (simp at h5;omega)
 cases hwl with
 | cons w1 w2=>
  cases w2
  cases w1 with
  | list ho hall=>exact ⟨_,_,ns,rfl,rfl,ho,ints_of_wellAll ns _ hall,hlen⟩
theorem post_true (l:OpenLaw) (args:List WData):l.row.toRowW.claim.post args (.bool true) args=true :=
 postW_of (r:=l.row.toRowW) (X:=(true == true))
  (show WShape.has [] (.bool true) .bool=true by first | rfl | decide | simp [WShape.has,WShape.arms,WShape.armsAll])
  (show (WTm.eq .res (.lit (.bool true))).value [] { args:=args,res:=some (.bool true),after:=args }=some (.bool (true == true)) from w_eq_bool (w_res rfl) w_lit) rfl
theorem attach_call {l:OpenLaw} {n:Nat} {q:Program} {loose:List Str} {XP:(Str->Option Value)->Heap->Prop} {YP:World->Heap->Prop} {d:DefRec}
  (hn:l.most=some n) (hdf:d.params.defaults=[])
  (call:∀ (w:World) (s₀ s₁:Shared) (mg mb:Str->Option Value) (fa:Addr) (o:Obj) (pm cd doc:Value) (a:Addr) (vs:List Value) (ns:List Int),
   Ground q loose [] XP w s₀ mg mb s₁.heap->YP w s₁.heap ->
   s₁.heap.get? fa=some o->o.data=.func (docDef d.name d.params d.body d.scope pm cd doc)->s₁.heap.CodeRec cd d.name->mg d.name=some (.ref fa) ->
   s₁.heap.get? a=some { cls:=.type "list",data:=.seq vs.toArray }->IntsAre vs ns->ns.length <= n->s₁.gens=#[] ->
   codeAny (model l.prog w) callerA (.call (.ref fa) ⟨[.ref a],[]⟩) (fun r s'=>r=.ok (.ret (.bool true)) /\ OldK s₁.heap s'.heap /\ s'.os=s₁.os /\ AllBare s'.gens) s₁) :
  WalkO q loose XP YP l.row.toRowW d [] (fun f vs=>PySem.call f vs):=by
 intro w s₀ s₁ mg mb G Y fa o pm cd doc dV kV ho hd hcd hD hmg hg args vals as hpre hlay hrd hwl hlo
 obtain rfl:dV=.none:=Dflts.none hD hdf
 obtain rfl:kV=.none:=Dflts.noKw hD
 obtain ⟨a,vs,ns,rfl,rfl,hobj,hints,hlen⟩:=script_of hn hpre hwl
 refine enter_call (codeAny_mono (call w s₀ s₁ mg mb fa o pm cd doc a vs ns G Y ho (fd_plain hd) hcd hmg hobj hints hlen hg) fun r s' hq=>?_)
 obtain ⟨rfl,h2,h3,h4⟩:=hq
 exact ⟨.inl ⟨.bool true,.bool true,[],rfl,fun _=>rfl,.bool true,post_true l _,fun _=>⟨List.Pairwise.nil,fun _ hm=>(nomatch hm)⟩⟩,h2,h3,h4⟩
section
variable {prog:Program} {w:World} {A:Around} {E:Value->Shared->Prop} {s:Shared} {K:Frag}
end
end Att
namespace L2
open PySem PySem.Spec PyProof.Rows
theorem vals_ints:∀ {vs:List Value} {ns:List Int},IntsAre vs ns->Vals (ns.map V.int) vs
 | _,_,.nil=>.nil
 | _,_,.cons n t h=>.cons ⟨t,rfl⟩ (vals_ints h)
end L2
namespace L2
open PySem PySem.Spec PyProof.Rows
def ZBX (s:Stmt) (j:Nat):Stmt:=match s with
 | .ClassDef _ _ _ body _ _ _ _ _ _ _=>body.getD j (.Pass ⟨0,0,0,0⟩)
 | _=>.Pass ⟨0,0,0,0⟩
def ZAN (s:Stmt):Arguments:=match s with
 | .FunctionDef _ a _ _ _ _ _ _ _ _=>a
 | _=>{ posonlyargs:=[],args:=[],vararg:=none,kwonlyargs:=[],kw_defaults:=[],kwarg:=none,defaults:=[] }
def ZAK (s:Stmt):List Stmt:=match s with
 | .FunctionDef _ _ b _ _ _ _ _ _ _=>b
 | _=>[]
def ZAB (s:Stmt):Scope:=match s with
 | .FunctionDef _ _ _ _ _ _ sc _ _ _=>sc
 | _=>{ kind:=.function,names:=[],isGenerator:=false,isCoroutine:=false }
abbrev CX0:CXT:=fun _ _ _ _ _ _=>False
abbrev E0:XK:=fun _ _ _=>False
theorem ZA6 {X:Cx}:ZAu CX0 X E0:=fun _ _ _ _ _ _ _ h=>h.elim
structure Fun (K:W.Frag) (x qual:Str) (st:Stmt) (f:Addr) (fd:FuncData):Prop where
 ex:∃ (oc:Value) (od:Option Addr) (kV doc pm:Value) (an:Option Addr) (cdv ct:Value) (osl:Array (Option Value)),
  fd=W.fnOf x qual (ZAN st) (ZAK st) (ZAB st) .none kV doc pm an cdv ct /\ K.lookup f=some ⟨oc,od,.func fd,osl⟩ /\ W.codeIn K cdv qual=true
 kp:W.keepIn K (.ref f)=true
section
variable {P:Program} {w:World} {K:W.Frag} {mg:Str->Option Value} {base:Heap}
theorem Fun.ok {x qual:Str} {st:Stmt} {f:Addr} {fd:FuncData} {N ps:List Str} {k:Nat} {sp:Sp} (F:Fun K x qual st f fd) (S:FnScope N ps (ZAB st)) (len:∀ vs H Q E,sp vs H Q E->vs.length=ps.length)
  (hbody:∀ (cdv:Value) (A:Around) (outer:List Env) (s:Shared) (H:Hp) (vs:List V) (Q:VK) (E:XK),Room k (A.deeper (envOfC qual (ZAB st) s.heap.objs.size f cdv))->sp vs H Q E ->
   ∃ t,PSs (cxOf CX0 P w K mg base N qual (ZAB st) f cdv A outer s H E).nox (ZAK st) t /\ t { nx:=fun _ H'=>Q .non H',rt:=Q } (start N vs) H):FnOk P w K mg base CX0 (k+1) f fd ps sp:=by
 obtain ⟨oc,od,kV,doc,pm,an,cdv,ct,osl,rfl,lk,hcd⟩:=F.ex
 refine ZDD lk hcd S len fun A outer s H vs Q E hr hsp=>?_
 obtain ⟨t,h,q⟩:=hbody cdv A outer s H vs Q E hr hsp
 exact ⟨t,h.nox,q⟩
theorem Fun.binds {x qual:Str} {st:Stmt} {f:Addr} {fd:FuncData} {ps:List Str} (F:Fun K x qual st f fd)
  (h:∀ (kV doc pm:Value) (an:Option Addr) (cdv ct:Value) (us:List Value),us.length=ps.length->bindArgs (W.fnOf x qual (ZAN st) (ZAK st) (ZAB st) .none kV doc pm an cdv ct) ⟨us,[]⟩=pure (ps.zip us)):Binds K fd ps []:=by
 obtain ⟨oc,od,kV,doc,pm,an,cdv,ct,osl,rfl,lk,hcd⟩:=F.ex
 exact .all (h kV doc pm an cdv ct)
theorem ZA1 {x qual:Str} {st:Stmt} {f:Addr} {oc:Value} {od an:Option Addr} {osl:Array (Option Value)} {kV doc pm cdv ct:Value} (l:K.lookup f=some ⟨oc,od,.func (W.fnOf x qual (ZAN st) (ZAK st) (ZAB st) .none kV doc pm an cdv ct),osl⟩)
  (c:W.codeIn K cdv qual=true) (k:W.keepIn K (.ref f)=true):Fun K x qual st f (W.fnOf x qual (ZAN st) (ZAK st) (ZAB st) .none kV doc pm an cdv ct):=⟨⟨oc,od,kV,doc,pm,an,cdv,ct,osl,rfl,l,c⟩,k⟩
end
theorem small1000 {n:Nat} (h:n <= 1000):n < sizeLine:=Nat.lt_of_le_of_lt h (by decide)
section
variable {X:Cx}
theorem pv (i:Nat) {x:Str} {pos:Pos} (hN:X.N[i]?=some x:=by rfl) (hv:Vis X.env.scope x:=by first | exact Or.inl rfl | exact Or.inr (Or.inl rfl) | exact Or.inr (Or.inr rfl)) (hd:(x == ("__debug__":Str))=false:=by decide)
  (hcd:(x == ("__classdict__":Str))=false:=by decide):PE X (.Name x pos) (tVar i):=pe_var hN hv hd hcd
end
def Same (H H':Hp):Prop:=∀ b o,H b=some o->H' b=some o
theorem Same.trans {H H1 H2:Hp} (a:Same H H1) (b:Same H1 H2):Same H H2:=fun c o h=>b c o (a c o h)
theorem Same.seq {K:W.Frag} {H H':Hp} {a:Addr} {xs:List V} (e:Same H H') (h:SqL K H a xs):SqL K H' a xs:=by
 rcases h with (h | ⟨o,h⟩) | h
 .exact .inl (.inl (e _ _ h))
 .exact .inl (.inr ⟨o,e _ _ h⟩)
 .exact .inr h
end L2
set_option maxHeartbeats 4000000
namespace L2
open PySem PySem.Spec PyProof.Rows
theorem natlt {a b:Addr} (h:a < b):@LT.lt Nat _ a b:=h
theorem ZBw {a b:Addr} {n:Nat} (h:a < n) (k:n <= b):a≠b:=yAD (yAG h k)
theorem ZAl:∀ (names:List (Str×NameKind)) (n:Nat) (acc:List (Str×Addr)),cellsFrom n names acc=cellsFrom n names []++acc
 | [],_,_=>rfl
 | (x,k)::r,n,acc=>by
  unfold cellsFrom
  split
  .rw [ZAl r (n+1) ((x,n)::acc),ZAl r (n+1) [(x,n)],List.append_assoc];rfl
  .exact ZAl r n acc
theorem ZBJ:∀ (names:List (Str×NameKind)) (n:Nat) (acc:List (Str×Addr)) (y:Str) (c:Addr),(y,c)∈cellsFrom n names acc->(y,c)∈acc∨((y,NameKind.cell)∈names /\ n <= c)
 | [],_,_,_,_,h=>.inl h
 | (x,k)::r,n,acc,y,c,h=>by
  unfold cellsFrom at h
  split at h
  .rename_i hk
   have hk':k=.cell:=by simpa using hk
   rcases ZBJ r (n+1) _ y c h with h | ⟨h,l⟩
   .rcases yAA.mp h with e | h
    .cases e;subst hk';exact .inr ⟨yAC,yAB _⟩
    .exact .inl h
   .exact .inr ⟨yAL _ h,Nat.le_of_succ_le l⟩
  .rcases ZBJ r n _ y c h with h | ⟨h,l⟩
   .exact .inl h
   .exact .inr ⟨yAL _ h,l⟩
def closFrom (cells:List (Str×Addr)):List (Str×NameKind)->List (Str×Addr)->List (Str×Addr)
 | [],acc=>acc
 | (x,k)::r,acc=>if k == .free then closFrom cells r ((x,(cells.lookup x).getD 0)::acc) else closFrom cells r acc
theorem ZA2 {cells:List (Str×Addr)}:∀ (names:List (Str×NameKind)) (acc:List (Str×Addr)) (y:Str) (c:Addr),(y,c)∈closFrom cells names acc->(y,c)∈acc∨((y,NameKind.free)∈names /\ c=(cells.lookup y).getD 0)
 | [],_,_,_,h=>.inl h
 | (x,k)::r,acc,y,c,h=>by
  unfold closFrom at h
  split at h
  .rename_i hk
   have hk':k=.free:=by simpa using hk
   rcases ZA2 r _ y c h with h | ⟨h,l⟩
   .rcases yAA.mp h with e | h
    .cases e;subst hk';exact .inr ⟨yAC,rfl⟩
    .exact .inl h
   .exact .inr ⟨yAL _ h,l⟩
  .rcases ZA2 r _ y c h with h | ⟨h,l⟩
   .exact .inl h
   .exact .inr ⟨yAL _ h,l⟩
theorem ZBL {cells:List (Str×Addr)}:∀ (names:List (Str×NameKind)) (acc:List (Str×Addr)) (p:Str×Addr),p∈acc->p∈closFrom cells names acc
 | [],_,_,h=>h
 | (x,k)::r,acc,p,h=>by
  unfold closFrom
  split
  .exact ZBL r _ p (yAL _ h)
  .exact ZBL r _ p h
theorem ZA3 {cells:List (Str×Addr)}:∀ (names:List (Str×NameKind)) (acc:List (Str×Addr)) (y:Str),(y,NameKind.free)∈names->(y,(cells.lookup y).getD 0)∈closFrom cells names acc
 | [],_,_,h=>nomatch h
 | (x,k)::r,acc,y,h=>by
  unfold closFrom
  rcases yAA.mp h with e | h
  .cases e
   rw [if_pos (by rfl)]
   exact ZBL r _ _ yAC
  .split
   .exact ZA3 r _ y h
   .exact ZA3 r _ y h
theorem ZAv {α:Type}:∀ {l:List (Str×α)} {y:Str} {c:α},(y,c)∈l->∃ c',l.lookup y=some c'
 | (k,v)::r,y,c,h=>by
  rw [yAY]
  cases hb:y == k with
  | true=>exact ⟨v,rfl⟩
  | false=>
   rcases yAA.mp h with e | h
   .cases e;rw [beq_self_eq_true] at hb;cases hb
   .exact ZAv h
theorem ZBI {env:Env} (f:Str×NameKind->List (Str×Addr)->Sem (ForInStep (List (Str×Addr))))
  (hf:∀ name kind cs,f (name,kind) cs=if kind == .free then (do let a <- cellOf env name;pure (.yield ((name,a)::cs))) else pure (.yield cs)) :
  ∀ (names:List (Str×NameKind)) (acc:List (Str×Addr)),(∀ x,(x,NameKind.free)∈names->∃ c,env.cells.lookup x=some c)->forIn names acc f=(pure (closFrom env.cells names acc):Sem (List (Str×Addr)))
 | [],acc,_=>by rw [List.forIn_nil];rfl
 | (x,k)::r,acc,h=>by
  have hr:∀ x,(x,NameKind.free)∈r->∃ c,env.cells.lookup x=some c:=fun y hy=>h y (yAL _ hy)
  rw [List.forIn_cons,hf]
  unfold closFrom
  split
  .rename_i hk
   have hk':k=.free:=by simpa using hk
   subst hk'
   obtain ⟨c,hc⟩:=h x yAC
   have e:cellOf env x=(pure c:Sem Addr):=by unfold cellOf;rw [hc]
   rw [e,hc]
   exact ZBI f hf r ((x,c)::acc) hr
  .exact ZBI f hf r acc hr
theorem closureFor_eq {scope:Scope} {env:Env} (h:∀ x,(x,NameKind.free)∈scope.names->∃ c,env.cells.lookup x=some c):closureFor scope env=pure (closFrom env.cells scope.names []):=by
 simp only [closureFor]
 rw [ZBI _ (fun name kind cs=>by cases hk:kind == NameKind.free <;> simp [hk]) scope.names [] h]
 rfl
section
variable {M:Model} {A:Around} {E:Value->Shared->Prop} {s:Shared}
theorem newEnv_comp {scope:Scope} {globals:Addr} {cl:List (Str×Addr)} {qual:Str} {env:Env} {Q:Env->Shared->Prop}
  (hQ:Q { scope:=scope,locals:=s.heap.objs.size,globals:=globals,cells:=cellsFrom (s.heap.objs.size+1) scope.names cl,qual:=qual,func:=none,code:=env.code,frame:=env.frame,builtins:=env.builtins }
   { s with heap:=pushCells (s.heap.push { cls:=.type "dict",data:=.dict #[] }) scope.names }) :
  wpAny M A (newFunctionEnv scope globals cl [] qual none .none (some env)) Q E s:=by
 simp only [newFunctionEnv,Option.isSome_some,if_true]
 refine wpAny_bind (wpAny_alloc ?_)
 refine wpAny_bind (wpAny_layCells _ (fun name kind cells=>by cases hkc:kind == NameKind.cell <;> simp [hkc]) _ _ _ _ ?_)
 rw [show ({ s with heap:=s.heap.push { cls:=.type "dict",data:=.dict #[] } }:Shared).heap.objs.size=s.heap.objs.size+1 from Heap.size_push ..]
 rw [List.forIn_nil]
 exact wpAny_bind (wpAny_pure (wpAny_pure hQ))
end
theorem relabel_lookup {scope:Scope} {env:Env} (x:Str):(relabel scope env).names.lookup x=(scope.names.lookup x).map fun k=>if (k == .free && env.scope.kind == .function && env.kindOf x == some .cell)=true then NameKind.cell else k:=by
 unfold relabel
 dsimp only
 generalize scope.names=names
 induction names with
 | nil=>rfl
 | cons p r ih=>
  obtain ⟨n,k⟩:=p
  rw [yAO,yAY (as:=r)]
  cases hx:x == n with
  | true=>
   have e:x=n:=beq_iff_eq.mp hx
   subst e
   by_cases hc:(k == NameKind.free && env.scope.kind == .function && env.kindOf x == some .cell)=true
   .simp only [hc,if_true,yAY,hx,Option.map_some]
   .simp only [hc,Bool.false_eq_true,if_false,yAY,hx,Option.map_some]
  | false=>
   by_cases hc:(k == NameKind.free && env.scope.kind == .function && env.kindOf n == some .cell)=true
   .simp only [hc,if_true,yAY,hx];exact ih
   .simp only [hc,Bool.false_eq_true,if_false,yAY,hx];exact ih
def ZCL (N:List Str) (osc:Scope) (k:Nat) (js:List Nat) (N':List Str) (sc:Scope):Bool :=
 decide (sc.kind=.function) && decide (N'.length=k+js.length) && decide N'.Nodup &&
 sc.names.all (fun p=>decide (sc.names.lookup p.1=some p.2) && (decide (p.2≠.free) || decide (osc.names.lookup p.1=some .cell) || decide (osc.names.lookup p.1=some .free))) &&
 (List.range js.length).all (fun i=>decide (js[i]?.bind (fun j=>N[j]?)=N'[k+i]?) && decide ((N'[k+i]?).bind (fun y=>sc.names.lookup y)=some .free))
structure CmpOk (N:List Str) (osc:Scope) (k:Nat) (js:List Nat) (N':List Str) (sc:Scope):Prop where
 kind:sc.kind=.function
 len:N'.length=k+js.length
 nd:N'.Nodup
 look:∀ p∈sc.names,sc.names.lookup p.1=some p.2
 fr:∀ y,(y,NameKind.free)∈sc.names->osc.names.lookup y=some .cell∨osc.names.lookup y=some .free
 js:∀ i j,js[i]?=some j->∃ y,N'[k+i]?=some y /\ N[j]?=some y /\ sc.names.lookup y=some .free
theorem cmpOk {N:List Str} {osc:Scope} {k:Nat} {js:List Nat} {N':List Str} {sc:Scope} (h:ZCL N osc k js N' sc=true):CmpOk N osc k js N' sc:=by
 unfold ZCL at h
 simp only [Bool.and_eq_true,decide_eq_true_eq,List.all_eq_true,Bool.or_eq_true,List.mem_range] at h
 obtain ⟨⟨⟨⟨h1,h2⟩,h3⟩,h4⟩,h5⟩:=h
 refine ⟨h1,h2,h3,fun p hp=>(h4 p hp).1,fun y hy=>?_,fun i j hj=>?_⟩
 .rcases (h4 _ hy).2 with (z | z) | z
  .exact absurd rfl z
  .exact .inl z
  .exact .inr z
 .have hi:i < js.length:=(yAR.mp hj).1
  obtain ⟨a,b⟩:=h5 i hi
  rw [hj] at a
  cases e:N'[k+i]? with
  | none=>rw [e] at b;cases b
  | some y=>
   rw [e] at a b
   exact ⟨y,rfl,a,b⟩
def ZCK (scope:Scope) (cl:List (Str×Addr)) (C:Addr) (env:Env):Env :=
 { scope:=relabel scope env,locals:=C,globals:=env.globals,cells:=cellsFrom (C+1) scope.names cl,qual:=env.qual,func:=none,code:=env.code,frame:=env.frame,builtins:=env.builtins }
def ZBP (X:Cx) (N':List Str) (scope:Scope) (C:Addr) (fp:List Addr) (s2:Shared) (H2:Hp):Cx where
 prog:=X.prog
 w:=X.w
 K:=X.K
 mg:=X.mg
 base:=X.base
 A:=X.A
 N:=N'
 s₀:=s2
 H₀:=H2
 env:=ZCK scope (closFrom X.env.cells scope.names []) C X.env
 outer:=X.stack
 stack:=X.stack
 ex:=fp
 fn:=fun x=>decide (scope.names.lookup x=some .cell)
 calm:=X.calm
 pn:=[]
 xe:=fun _ _=>False
def up (k:Nat) (js:List Nat) (σ:St):St:=List.replicate k none++js.map fun j=>(σ[j]?).getD none
section
variable {X:Cx} {pins:List (Addr×Obj)} {σ:St} {H:Hp} {s2:Shared} {k:Nat} {js:List Nat} {N':List Str} {scope:Scope} {fp:List Addr}
theorem comp_inv (hc:CmpOk X.N X.env.scope k js N' scope) (I:Inv X pins σ H s2) (hfp:∀ b∈fp,FpOk X pins H b) (hlt:∀ b∈fp,b < s2.heap.objs.size) {h3:Heap} (hz:h3.objs.size=s2.heap.objs.size+1) (hk3:∀ b o,s2.heap.get? b=some o->h3.get? b=some o) :
  Inv (ZBP X N' scope (s2.heap.objs.size+1) fp s2 H) [] (up k js σ) H { s2 with heap:=pushCells (h3.push { cls:=.type "dict",data:=.dict #[] }) scope.names }:=by
 have frLook:∀ y,(y,NameKind.free)∈scope.names->∃ c,X.env.cells.lookup y=some c:=fun y hy=>I.ok.has y (hc.fr y hy)
 have ok0:=cellsFrom_ok scope.names (h3.push { cls:=.type "dict",data:=.dict #[] }) (s2.heap.objs.size+2) [] ⟨fun _ _ hm=>(nomatch hm),List.Pairwise.nil⟩ (by rw [Heap.size_push,hz];exact yAB _)
 rw [Heap.size_push,hz] at ok0
 have parts:∀ y c,(ZCK scope (closFrom X.env.cells scope.names []) (s2.heap.objs.size+1) X.env).cells.lookup y=some c ->
   ((y,c)∈cellsFrom (s2.heap.objs.size+2) scope.names [] /\ (y,NameKind.cell)∈scope.names /\ s2.heap.objs.size+2 <= c)∨((y,NameKind.free)∈scope.names /\ X.env.cells.lookup y=some c):=fun y c e=>by
  have m:=PySem.mem_of_lookup e
  change (y,c)∈cellsFrom (s2.heap.objs.size+1+1) scope.names _ at m
  rw [ZAl] at m
  rcases List.mem_append.mp m with m | m
  .rcases ZBJ _ _ _ _ _ m with z | ⟨z,l⟩
   .cases z
   .exact .inl ⟨m,z,l⟩
  .rcases ZA2 _ _ _ _ m with z | ⟨z,l⟩
   .cases z
   .obtain ⟨c',e'⟩:=frLook y z
    rw [e'] at l
    exact .inr ⟨z,by rw [e'];exact congrArg some l.symm⟩
 have old:∀ y c,X.env.cells.lookup y=some c->c < s2.heap.objs.size:=fun y c e=>by
  obtain ⟨v,q⟩:=I.cell y c e
  exact q.lt
 have freeAt:∀ y,(y,NameKind.free)∈scope.names->∀ c,X.env.cells.lookup y=some c->(ZCK scope (closFrom X.env.cells scope.names []) (s2.heap.objs.size+1) X.env).cells.lookup y=some c:=fun y hy c e=>by
  have m:(y,c)∈cellsFrom (s2.heap.objs.size+1+1) scope.names (closFrom X.env.cells scope.names []):=by
   rw [ZAl]
   have q:=ZA3 (cells:=X.env.cells) scope.names [] y hy
   rw [e] at q
   exact yAS _ q
  obtain ⟨c',q⟩:=ZAv m
  rcases parts y c' q with ⟨_,z,_⟩ | ⟨_,z⟩
  .have z1:=hc.look _ z
   have z2:=hc.look _ hy
   rw [z1] at z2
   cases z2
  .rw [e] at z
   cases z
   exact q
 have keepAll:∀ b o,s2.heap.get? b=some o->(pushCells (h3.push { cls:=.type "dict",data:=.dict #[] }) scope.names).get? b=some o:=fun b o e=>pushCells_keeps _ _ b o (Heap.get?_push_of_some _ (hk3 b o e))
 refine ⟨⟨I.ok.mod,hc.kind,I.ok.glob,I.ok.blt,yAM _,fun y z c h1 h2=>?_,fun y hy=>?_,fun y c h1 h2=>?_,I.ok.hd,I.ok.frames,.inl rfl,fun b hb=>⟨?_,fun y c e=>?_⟩,I.bs,yAH I.ok.bsz I.sz,fun b o e hb=>?_,fun b hb hs=>?_,I.stack,I.stkFree⟩,
  rfl,I.bare,Un.kept keepAll,⟨fun _=>none,?_,fun i y v e1 e2 e3=>?_⟩,fun y c e=>?_,I.hok.fresh (yAM _),fun y c e=>?_,fun p hp=>absurd (show p∈([]:List (Addr×Obj)) from hp) (by simp),I.hok.kept keepAll,?_⟩
 .
  rcases parts y c h1 with ⟨a,_,l⟩ | ⟨_,a⟩ <;> rcases parts z c h2 with ⟨b,_,l'⟩ | ⟨_,b⟩
  .exact name_of_addr ok0.apart a b
  .have:=natlt (old z c b);omega
  .have:=natlt (old y c a);omega
  .exact I.ok.inj y z c a b
 .
  have hy':(relabel scope X.env).names.lookup y=some .cell∨(relabel scope X.env).names.lookup y=some .free:=hy
  rw [relabel_lookup] at hy'
  have q:scope.names.lookup y=some .cell∨scope.names.lookup y=some .free:=by
   cases e:scope.names.lookup y with
   | none=>rw [e] at hy';rcases hy' with z | z <;> cases z
   | some kk=>
    rw [e] at hy'
    cases kk <;> first | exact .inl rfl | exact .inr rfl | (rcases hy' with z | z <;> simp at z)
  rcases q with q | q
  .obtain ⟨c,e⟩:=ZBm (n:=s2.heap.objs.size+1+1) q
   have m:(y,c)∈cellsFrom (s2.heap.objs.size+1+1) scope.names (closFrom X.env.cells scope.names []):=by
    rw [ZAl]
    exact List.mem_append_left _ (PySem.mem_of_lookup e)
   exact ZAv m
  .have m:=PySem.mem_of_lookup q
   obtain ⟨c,e⟩:=frLook y m
   exact ⟨c,freeAt y m c e⟩
 .
  have h1':scope.names.lookup y=some .cell:=of_decide_eq_true h1
  rcases parts y c h2 with ⟨_,_,l⟩ | ⟨z,_⟩
  .show s2.heap.objs.size <= c
   omega
  .have:=hc.look _ z
   rw [h1'] at this
   cases this
 .
  exact ZBw (hlt b hb) (yAM _)
 .rcases parts y c e with ⟨_,_,l⟩ | ⟨_,z⟩
  .exact (ZBw (hlt b hb) (yAH (Nat.le_add_right _ 2) l)).symm
  .exact (hfp b hb).2.2.2.2.1 y c z
 .
  rcases (hfp b hb).2.2.2.1 with z | z
  .exact I.ok.noex b o e z
  .exact absurd (yAG (Heap.lt_size e) (yAH I.ok.bsz z)) (yAZ _)
 .
  rcases yAA.mp (I.stkSub b hs) with z | z
  .exact (hfp b hb).2.1 z
  .exact (hfp b hb).2.2.1 z
 .
  have q:=(Heap.Ns.new h3 (.type "dict")).keeps (pushCells_keeps scope.names _)
  rw [hz] at q
  exact q
 .
  unfold up at e2
  have hik:k <= i:=by
   by_cases hi:i < k
   .rw [yAV (by simpa using hi),List.getElem?_replicate] at e2
    rw [if_pos hi] at e2
    cases e2
   .omega
  rw [yBB (by simpa using hik),yBF,yAX] at e2
  cases ej:js[i-k]? with
  | none=>rw [ej] at e2;cases e2
  | some j=>
   rw [ej] at e2
   have e2':(σ[j]?).getD none=some v:=Option.some.inj e2
   have e4:σ[j]?=some (some v):=by
    cases q:σ[j]? with
    | none=>rw [q] at e2';cases e2'
    | some z=>rw [q] at e2';exact congrArg some e2'
   obtain ⟨y',n1,n2,n3⟩:=hc.js _ _ ej
   rw [Nat.add_sub_cancel' hik] at n1
   have n0:N'[i]?=some y:=e1
   rw [n1] at n0
   cases n0
   have hm:=PySem.mem_of_lookup n3
   have hvis:Vis X.env.scope y:=.inr (hc.fr y hm)
   obtain ⟨m,hn,hl⟩:=I.loc
   obtain ⟨u,r,l⟩:=hl j y v n2 e4 hvis
   refine ⟨u,r,?_⟩
   rcases l with ⟨kk,_⟩ | ⟨kk,c,ec,ic⟩
   .have kk':X.env.scope.names.lookup y=some .local:=kk
    rcases hc.fr y hm with z | z <;> (rw [kk'] at z;cases z)
   .refine .inr ⟨?_,c,freeAt y hm c ec,ic.keeps keepAll⟩
    show (relabel scope X.env).names.lookup y=some .cell∨(relabel scope X.env).names.lookup y=some .free
    rw [relabel_lookup,n3]
    simp only [Option.map_some]
    split
    .exact .inl rfl
    .exact .inr rfl
 .
  rcases parts y c e with ⟨a,_,_⟩ | ⟨_,a⟩
  .exact ⟨none,(ok0.empty y c a).1⟩
  .obtain ⟨v,q⟩:=I.cell y c a
   exact ⟨v,q.keeps keepAll⟩
 .rcases parts y c e with ⟨_,_,l⟩ | ⟨_,a⟩
  .exact I.hok.fresh (by omega)
  .exact I.freeC y c a
 .unfold up
  show _=N'.length
  rw [yAJ,yBF,yAP,hc.len]
theorem comp_end {σ':St} {H':Hp} {s':Shared} {C D:Addr} {its:List Value} {n:Nat} {ys:List V} (I:Inv X pins σ H s2) (hfp:∀ b∈fp,FpOk X pins H b) (hC:s2.heap.objs.size <= C) (hD:s2.heap.objs.size <= D) (hDC:D≠C)
  (I':Inv (ZBP X N' scope C fp s2 H) [(D,{ cls:=.type "list",data:=.seq its.toArray n })] σ' H' s') (hv:Vals ys its) (hz:ys.length <= sizeLine) :
  H' D=none /\ ∀ h',Heap.SameBut C s'.heap h'->Inv X pins σ (upd H' D (.lst ys)) { s' with heap:=h' }:=by
 obtain ⟨eD,nD,_,_,_⟩:=I'.pin (D,{ cls:=.type "list",data:=.seq its.toArray n }) (yAS _ yAC)
 dsimp only at eD nD
 have nC:H' C=none:=I'.free
 refine ⟨nD,fun h' hs=>?_⟩
 have neC:∀ b o,s2.heap.get? b=some o->b≠C:=fun b o e=>ZBw (Heap.lt_size e) hC
 have neD:∀ b o,s2.heap.get? b=some o->b≠D:=fun b o e=>ZBw (Heap.lt_size e) hD
 have tr:∀ b u,H' b=some u->b≠D:=fun b u e z=>by rw [z,nD] at e;cases e
 have trC:∀ b u,H' b=some u->b≠C:=fun b u e z=>by rw [z,nC] at e;cases e
 have B:=I'.base
 refine I.call' (s':={ s' with heap:=h' }) (ch:=fp) I'.os ⟨fun b o e nn hb hx=>?_,fun b o e nn hb hx=>?_,fun b o e nn hx=>?_,fun b o e hx=>?_,fun b xs e=>?_,fun b o u e=>?_,fun b ps e=>?_⟩ (fun b u e=>?_) I'.bare fun b hb=>?_
 .exact (hs.2 b (neC b o e)).trans (B.keep b o e nn hb hx)
 .obtain ⟨sl,q⟩:=B.slot b o e nn hb hx
  exact ⟨sl,(hs.2 b (neC b o e)).trans q⟩
 .rw [ZAC (neD b o e)]
  exact B.free b o e nn hx
 .obtain ⟨o',q⟩:=B.there b o e hx
  exact ⟨o',(hs.2 b (neC b o e)).trans q⟩
 .have q:=B.tups b xs e
  rw [ZAC (tr b _ q)]
  exact q
 .have q:=B.frzs b o u e
  rw [ZAC (tr b _ q)]
  exact q
 .obtain ⟨more,q⟩:=B.tbls b ps e
  exact ⟨more,by rw [ZAC (tr b _ q)];exact q⟩
 .by_cases hb:b=D
  .subst hb
   rw [ZAG] at e
   cases e
   exact ⟨hz,its,n,hv,(hs.2 b hDC).trans eD⟩
  .rw [ZAC hb] at e
   refine (I'.hok b u e).stay (fun c v hcc q=>(hs.2 c ?_).trans q) (fun c q=>by rw [ZAC (tr c _ q)];exact q) fun c xs q=>by rw [ZAC (tr c _ q)];exact q
   rcases hcc with rfl | hcc
   .exact trC c _ e
   .exact trC c _ hcc
 .obtain ⟨_,f1,_,f3,f4,f5⟩:=hfp b hb
  exact ⟨f3,f1,f4,f5⟩
end
section
variable {prog:Program} {w:World} {A:Around} {R:Result->Shared->Prop} {s:Shared}
theorem codeAny_compLoop_any {elt target iter:Expr} {ifs:List Expr} {scope:Scope} {pos:Pos} {it acc:Value} {env:Env} (I:Nat->Shared->Prop)
  (turn:∀ n s,I n s->wpAny (model prog w) A (pyNext it) (fun r s₁=>match r with
   | none=>R (.ok .next) s₁
   | some v=>wpAny (model prog w) A (letOwnedTupleGo target it v) (fun _ s₁'=>wpAny (model prog w) A (assign target env v) (fun _ s₂=>
     wpAny (model prog w) A (forIn ifs true fun c r=>if r=true then do let ok <- isTrue c env (eval c env);pure (ForInStep.yield ok) else pure (ForInStep.yield r)) (fun ok s₃=>
      if ok=true then wpAny (model prog w) A (eval elt env) (fun x s₄=>
       wpAny (model prog w) A (call (.builtin "list.append") [acc,x]) (fun _ s₅=>∃ m,m < n /\ I m s₅) (notedBy (model prog w) A env fun e s'=>R (.error e) s') s₄) (notedBy (model prog w) A env fun e s'=>R (.error e) s') s₃
      else ∃ m,m < n /\ I m s₃) (notedBy (model prog w) A env fun e s'=>R (.error e) s') s₂) (notedBy (model prog w) A env fun e s'=>R (.error e) s') s₁') (notedBy (model prog w) A env fun e s'=>R (.error e) s') s₁) (notedBy (model prog w) A env fun e s'=>R (.error e) s') s)
  (n:Nat) (h:I n s) :
  codeAny (model prog w) A (.compLoop (.ListComp elt [⟨target,iter,ifs,0⟩] scope pos) 0 it acc env) R s:=by
 refine codeAny_loop rfl I (fun n s hI=>?_) n h
 show wpAny _ A ((compTurn (.ListComp elt [⟨target,iter,ifs,0⟩] scope pos) 0 it acc env).onRaise (fun x=>do noteFrame x env;theTreesLotGoes x)) _ _ s
 refine wpAny_noted ?_
 rw [compTurn_list]
 refine wpAny_bind (wpAny_standAt (wpAny_bind (wpAny_mono (turn n s hI) (fun r s₁ h₁=>?_) fun _ _ h'=>h')))
 cases r with
 | none=>exact wpAny_pure h₁
 | some v=>
  refine wpAny_bind (wpAny_mono h₁ (fun _ s₁' h₁'=>?_) fun _ _ h'=>h')
  refine wpAny_bind (wpAny_mono h₁' (fun _ s₂ h₂=>wpAny_bind (wpAny_mono h₂ (fun ok s₃ h₃=>?_) fun _ _ h'=>h')) fun _ _ h'=>h')
  cases ok with
  | false=>exact wpAny_pure ⟨rfl,h₃⟩
  | true=>exact wpAny_bind (wpAny_bind (wpAny_mono h₃ (fun x s₄ h₄=>wpAny_bind (wpAny_mono h₄ (fun _ s₅ h₅=>wpAny_pure (wpAny_pure ⟨rfl,h₅⟩)) fun _ _ h'=>h')) fun _ _ h'=>h'))
end
def PIfs (X:Cx) (ifs:List Expr) (t:TT):Prop :=
 ∀ (pins:List (Addr×Obj)) (s:Shared) (σ:St) (H:Hp) (Q:Bool->Hp->Prop),Inv X pins σ H s->t σ H Q ->
  wpAny (model X.prog X.w) X.A (forIn ifs true fun c r=>if r=true then do let ok <- isTrue c X.env (eval c X.env);pure (ForInStep.yield ok) else pure (ForInStep.yield r)) (TP X pins σ Q) X.xe s
def tYes:TT:=fun _ H Q=>Q true H
theorem pifs_one {X:Cx} {c:Expr} {t:TT} (hc:PT X c t):PIfs X [c] t:=fun pins s σ H Q I h=>wpAny_tests_one (hc pins s σ H Q I h)
def ZCj (k:Nat) (js:List Nat) (wi:TI) (g:TG) (tt:TT) (te:TE):TE:=fun σ H Q=>wi σ H fun J H1=>∃ W:Nat->Nat->List V->St->Hp->Prop,(∃ m,W 0 m [] (up k js σ) H1) /\ ∀ i m ys σ H,W i m ys σ H ->
 (J.stop i H /\ ys.length <= sizeLine /\ ∀ p,H p=none->Q (.ref p) (upd H p (.lst ys))) ∨
 (J.go i H /\ ys.length < sizeLine /\ ∀ x H',J.yld i H x H'->g x σ H' fun σ2 H2=>tt σ2 H2 fun b H3=>if b=true then te σ2 H3 fun y H4=>∃ m',m' < m /\ W (i+1) m' (ys++[y]) σ2 H4 else ∃ m',m' < m /\ W (i+1) m' ys σ2 H3)
section
variable {X:Cx} {k:Nat} {js:List Nat} {N':List Str} {scope:Scope} {tg iter elt:Expr} {ifs:List Expr} {wi:TI} {g:TG} {tt:TT} {te:TE} {pos:Pos}
theorem comp_core {use:Option (Value->Sem Unit)} {Q':Value->Shared->Prop} (hcalm:X.calm=true) (hc:CmpOk X.N X.env.scope k js N' scope) (hi:PI X tg iter wi)
  (hg:∀ C fp s2 H2,PG (ZBP X N' scope C fp s2 H2) tg g) (ht:∀ C fp s2 H2,PIfs (ZBP X N' scope C fp s2 H2) ifs tt) (he:∀ C fp s2 H2,PE (ZBP X N' scope C fp s2 H2) elt te)
  {pins:List (Addr×Obj)} {s:Shared} {σ:St} {H:Hp} {Q:VK} (I:Inv X pins σ H s) (h:ZCj k js wi g tt te σ H Q)
  (fin:∀ (C D:Addr) (s':Shared) (m:Str->Option Value) (H':Hp) (ys:List V),s'.heap.Ns C m->C≠X.env.locals->C∉X.fs->D≠C->H' C=none->X.s₀.heap.objs.size <= C->(∀ x c,X.env.cells.lookup x=some c->c≠C)->(∀ p∈X.pn++pins,p.1≠C)->(∀ h',Heap.SameBut C s'.heap h'->Inv X pins σ (upd H' D (.lst ys)) { s' with heap:=h' })->Q (.ref D) (upd H' D (.lst ys)) ->
   compPost (model X.prog X.w) X.A X.xe use Q' (.ref D) C (.ok .next) s')
  (hs:∀ x,foldedSetIterable iter X.env x=pure x) (p':Pos) :
  wpAny (model X.prog X.w) X.A (comprehension (.ListComp elt [⟨tg,iter,ifs,0⟩] scope pos) scope X.env p' (newList []) false (eval iter X.env) use) Q' X.xe s:=by
 have hclos:closureFor scope X.env=pure (closFrom X.env.cells scope.names []):=closureFor_eq fun y hy=>I.ok.has y (hc.fr y hy)
 refine wpAny_comprehension_free (g:=⟨tg,iter,ifs,0⟩) (gs:=[]) rfl hs hclos hc.kind (fun x hx hl=>by rw [hc.look x hx,hl]) ?_
 refine thn (hi pins s σ H _ I h) fun v s1 h1=>thn h1 fun itv s2 h2=>?_
 obtain ⟨it,fp,tn,J,H2,e,I2,T,st2,f2,W,⟨m0,w0⟩,turn⟩:=h2
 subst e
 have hlt:∀ b∈fp,b < s2.heap.objs.size:=fun b hb=>by
  obtain ⟨o,e,_⟩:=T.obj _ _ st2 b hb
  exact Heap.lt_size e
 refine wpAny_newObj_type (newEnv_comp ?_)
 have hz3:(s2.heap.push { cls:=.type "list",dict:=none,data:=.seq ([]:List Value).toArray }).objs.size=s2.heap.objs.size+1:=Heap.size_push ..
 have I3:=comp_inv (h3:=s2.heap.push { cls:=.type "list",dict:=none,data:=.seq ([]:List Value).toArray }) hc I2 f2 hlt hz3 (fun b o e=>Heap.get?_push_of_some _ e)
 dsimp only
 rw [hz3]
 generalize hS4:({ s2 with heap:=pushCells ((s2.heap.push { cls:=.type "list",dict:=none,data:=.seq ([]:List Value).toArray }).push { cls:=.type "dict",data:=.dict #[] }) scope.names }:Shared)=s4 at I3 ⊢
 have keep4:∀ b o,s2.heap.get? b=some o->s4.heap.get? b=some o:=fun b o e=>by
  rw [<- hS4]
  exact pushCells_keeps _ _ b o (Heap.get?_push_of_some _ (Heap.get?_push_of_some _ e))
 have eD4:s4.heap.get? s2.heap.objs.size=some { cls:=.type "list",data:=.seq ([]:List Value).toArray 0 }:=by
  rw [<- hS4]
  exact pushCells_keeps _ _ _ _ (Heap.get?_push_of_some _ (Heap.get?_push_size _ rfl))
 generalize hX':ZBP X N' scope (s2.heap.objs.size+1) fp s2 H2=X' at I3
 have hC':X'.env.locals=s2.heap.objs.size+1:=by rw [<- hX'];rfl
 have hfs':X'.fs=frs X.stack:=by rw [<- hX'];rfl
 have nofsD:∀ a,s2.heap.objs.size <= a->a∉frs X.stack:=fun a ha hb=>by
  rcases yAA.mp (I2.stkSub a hb) with z | z
  .exact absurd z.symm (ZBw I2.lt ha)
  .exact I2.nofs ha z
 have cellD:∀ x c,X'.env.cells.lookup x=some c->c≠s2.heap.objs.size:=fun x c e z=>by
  obtain ⟨v,o,ho,hd⟩:=I3.cell x c e
  rw [z,eD4] at ho
  cases ho
  cases hd
 have pinD:∀ {σ':St} {H':Hp} {s':Shared} {its:List Value} {n:Nat},Inv X' [] σ' H' s'->s'.heap.get? s2.heap.objs.size=some { cls:=.type "list",data:=.seq its.toArray n }->H' s2.heap.objs.size=none ->
   Inv X' [(s2.heap.objs.size,{ cls:=.type "list",data:=.seq its.toArray n })] σ' H' s':=fun {σ' H' s' its n} J e nn=>J.pins_of fun p hp=>by
  have e':p=(s2.heap.objs.size,{ cls:=.type "list",data:=.seq its.toArray n }):=by simpa using hp
  subst e'
  refine ⟨e,nn,?_,?_,fun v z=>nomatch z⟩
  .rw [hC'];exact yAD (yBD _)
  .rw [hfs'];exact nofsD _ (yAB _)
 have I4:=pinD I3 eD4 (I2.hok.fresh (yAB _))
 have stat:∀ {H':Hp} {o:Obj},(∀ b∈fp,H' b=none)->∀ b∈fp,FpOk X' [(s2.heap.objs.size,o)] H' b:=fun {H' o} hn b hb=>by
  have hb':=hlt b hb
  refine ⟨hn b hb,?_,?_,.inl (by rw [<- hX'];exact hb),fun x c e z=>?_,fun p hp z=>?_⟩
  .rw [hC'];exact ZBw hb' (yAM _)
  .rw [hfs']
   intro z
   rcases yAA.mp (I2.stkSub b z) with q | q
   .exact (f2 b hb).2.1 q
   .exact (f2 b hb).2.2.1 q
  .have q:=I3.ok.exf b (by rw [<- hX'];exact hb)
   exact q.2 x c e z
  .rw [show X'.pn=[] by rw [<- hX'];rfl] at hp
   have e':p=(s2.heap.objs.size,o):=by simpa using hp
   subst e'
   exact absurd hb' (by rw [<- z];exact yAZ _)
 have hfin:∀ {σ':St} {H':Hp} {s':Shared} {its:List Value} {n:Nat} {ys:List V},Inv X' [(s2.heap.objs.size,{ cls:=.type "list",data:=.seq its.toArray n })] σ' H' s'->Vals ys its->ys.length <= sizeLine->(∀ p,H' p=none->Q (.ref p) (upd H' p (.lst ys))) ->
   compPost (model X.prog X.w) X.A X.xe use Q' (.ref s2.heap.objs.size) (s2.heap.objs.size+1) (.ok .next) s':=fun {σ' H' s' its n ys} J hv hz hq=>by
  obtain ⟨m,hn,_⟩:=id J.loc
  rw [hC'] at hn
  have nC:H' (s2.heap.objs.size+1)=none:=by rw [<- hC'];exact J.free
  have J':Inv (ZBP X N' scope (s2.heap.objs.size+1) fp s2 H2) [(s2.heap.objs.size,{ cls:=.type "list",data:=.seq its.toArray n })] σ' H' s':=by rw [hX'];exact J
  obtain ⟨nD,E⟩:=comp_end I2 f2 (yAM _) (yAB _) (yAD (yBD _)) J' hv hz
  refine fin _ _ s' m H' ys hn ?_ (I2.nofs (yAM _)) (yAD (yBD _)) nC (yAH I2.sz (yAM _)) (fun x c e z=>?_) (fun p hp z=>?_) E (hq _ nD)
  .exact (ZBw I2.lt (yAM _)).symm
  .obtain ⟨v,q⟩:=I2.cell x c e
   exact absurd z (ZBw q.lt (yAM _))
  .exact absurd z (ZBw (Heap.lt_size (I2.pin p hp).1) (yAM _))
 have hprog:X'.prog=X.prog:=by rw [<- hX'];rfl
 have hw:X'.w=X.w:=by rw [<- hX'];rfl
 have hK:X'.K=X.K:=by rw [<- hX'];rfl
 have hcalm':X'.calm=true:=by rw [<- hX'];exact hcalm
 have hA:X'.A=X.A:=by rw [<- hX'];rfl
 have henv:ZCK scope (closFrom X.env.cells scope.names []) (s2.heap.objs.size+1) X.env=X'.env:=by rw [<- hX'];rfl
 have hgX:=hg (s2.heap.objs.size+1) fp s2 H2
 have htX:=ht (s2.heap.objs.size+1) fp s2 H2
 have heX:=he (s2.heap.objs.size+1) fp s2 H2
 rw [hX'] at hgX htX heX
 have hxe:∀ e s',X'.xe e s'->False:=fun e s' z=>by rw [<- hX'] at z;exact z
 have hXA:X'.pn=[]:=by rw [<- hX'];rfl
 have hs0:X'.s₀.heap.objs.size=s2.heap.objs.size:=by rw [<- hX'];rfl
 have loop:codeAny (model X.prog X.w) X.A (.compLoop (.ListComp elt [⟨tg,iter,ifs,0⟩] scope pos) 0 (.ref it) (.ref s2.heap.objs.size) X'.env) (compPost (model X.prog X.w) X.A X.xe use Q' (.ref s2.heap.objs.size) (s2.heap.objs.size+1)) s4:=by
  refine codeAny_compLoop_any (fun n s'=>∃ i σ' H' its nn ys,Inv X' [(s2.heap.objs.size,{ cls:=.type "list",data:=.seq its.toArray nn })] σ' H' s' /\ tn i s'.heap /\ (∀ b∈fp,H' b=none) /\ Vals ys its /\ W i n ys σ' H') ?_ m0
   ⟨0,_,H2,[],0,[],I4,T.keep _ _ _ st2 (fun b _ o e=>keep4 b o e),fun b hb=>(f2 b hb).1,.nil,w0⟩
  rintro n s5 ⟨i,σ5,H5,its,nn,ys,I5,st5,fr5,hv,w5⟩
  rcases turn i n ys σ5 H5 w5 with ⟨stop,hz,hq⟩ | ⟨go,hz,step⟩
  .have d:=T.done X' hprog hw hK hcalm' i _ s5 σ5 H5 (fun _ _=>False) I5 (stat fr5) st5 stop
   rw [hA] at d
   refine wpAny_mono d (fun r s6 ⟨hr,I6⟩=>?_) fun _ _ z=>z.elim
   subst hr
   exact hfin I6 hv hz hq
  .have d:=T.item X' hprog hw hK hcalm' i _ s5 σ5 H5 (fun _ _=>False) I5 (stat fr5) st5 go
   rw [hA] at d
   refine wpAny_mono d (fun r s6 ⟨u,hr,h6⟩=>?_) fun _ _ z=>z.elim
   subst hr
   refine wpAny_mono h6 (fun _ s7 ⟨x,H7,I7,r7,y7,st7,fr7⟩=>?_) fun _ _ z=>z.elim
   have I7':=I7.pinned (stat fr7) (T.obj _ _ st7)
   have a1:=hgX _ s7 σ5 H7 x u _ I7' r7 (step x H7 y7)
   rw [hprog,hw,hA] at a1
   refine wpAny_mono a1 (fun _ s8 ⟨σ8,H8,I8,q8⟩=>?_) fun _ _ z=>(hxe _ _ z).elim
   have a2:=htX _ s8 σ8 H8 _ I8 q8
   rw [hprog,hw,hA] at a2
   refine wpAny_mono a2 (fun ok s9 ⟨H9,I9,q9⟩=>?_) fun _ _ z=>(hxe _ _ z).elim
   have back:∀ {σ':St} {H':Hp} {s':Shared},Inv X' ([(s2.heap.objs.size,({ cls:=.type "list",data:=.seq its.toArray nn }:Obj))]++ZCM fp s7.heap) σ' H' s'->tn (i+1) s'.heap /\ (∀ b∈fp,H' b=none):=fun {σ' H' s'} J=>by
    refine ⟨T.keep _ _ _ st7 fun b hb o e=>(J.pin (b,o) (yAS _ (yAS _ (ZBO hb e)))).1,fun b hb=>?_⟩
    obtain ⟨o,e,d⟩:=T.obj _ _ st7 b hb
    exact (J.pin (b,o) (yAS _ (yAS _ (ZBO hb e)))).2.1
   cases ok with
   | false=>
    rw [if_neg yAI] at q9 ⊢
    obtain ⟨m',hm,w9⟩:=q9
    obtain ⟨t9,f9⟩:=back I9
    exact ⟨m',hm,i+1,σ8,H9,its,nn,ys,I9.unpinned,t9,f9,hv,w9⟩
   | true=>
    rw [if_pos rfl] at q9 ⊢
    have a3:=heX _ s9 σ8 H9 _ I9 q9
    rw [hprog,hw,hA] at a3
    refine wpAny_mono a3 (fun uy s10 ⟨y,H10,I10,r10,m',hm,w10⟩=>?_) fun _ _ z=>(hxe _ _ z).elim
    obtain ⟨t10,f10⟩:=back I10
    have I11:=I10.unpinned
    obtain ⟨eD,nD,_,_,_⟩:=I11.pin (s2.heap.objs.size,{ cls:=.type "list",data:=.seq its.toArray nn }) (yAS _ yAC)
    dsimp only at eD nD
    have hsz:its.length < sizeLine:=by rw [<- hv.length];exact hz
    refine wpAny_list_append_plain ⟨nn,eD⟩ (fun h' hpl hsb=>?_) (by rw [yAK];omega)
    obtain ⟨n',e'⟩:=hpl
    have e'':h'.get? s2.heap.objs.size=some { cls:=.type "list",data:=.seq (its++[uy]).toArray n' }:=by rw [e'];simp
    have I12:Inv X' [] σ8 H10 s10:=I11.pins_of fun p hp=>absurd hp (by simp)
    have I13:=I12.turned (h':=h') (t':=s10.toks) (it:=s2.heap.objs.size) (fun b o hb e=>(hsb.2 b hb).trans e) nD (by rw [hC'];exact yAD (yBD _)) (.inr (by rw [hs0];exact yAB _)) cellD (fun p hp=>absurd hp (by rw [hXA];simp))
    refine ⟨m',hm,i+1,σ8,H10,its++[uy],n',ys++[y],pinD I13 e'' nD,T.keep _ _ _ t10 fun b hb o e=>?_,f10,hv.append (.cons r10 .nil),w10⟩
    exact (hsb.2 b (ZBw (hlt b hb) (yAB _))).trans e
 have hst:codeAny (model X.prog X.w) X.A (.compStart (.ListComp elt [⟨tg,iter,ifs,0⟩] scope pos) 0 (.ref it) (.ref s2.heap.objs.size) X'.env) (compPost (model X.prog X.w) X.A X.xe use Q' (.ref s2.heap.objs.size) (s2.heap.objs.size+1)) s4 :=
  codeAny_compStart_list loop (T.self X.A 0 s4 _ _ (T.keep _ _ _ st2 (fun b _ o e=>keep4 b o e)) loop)
 rw [<- henv] at hst
 exact hst
theorem pe_comp (hcalm:X.calm=true) (hc:ZCL X.N X.env.scope k js N' scope=true) (hi:PI X tg iter wi)
  (hg:∀ C fp s2 H2,PG (ZBP X N' scope C fp s2 H2) tg g) (ht:∀ C fp s2 H2,PIfs (ZBP X N' scope C fp s2 H2) ifs tt) (he:∀ C fp s2 H2,PE (ZBP X N' scope C fp s2 H2) elt te)
  (hs:∀ x,foldedSetIterable iter X.env x=pure x:=by intro _;rfl):PE X (.ListComp elt [⟨tg,iter,ifs,0⟩] scope pos) (ZCj k js wi g tt te):=by
 intro pins s σ H Q I h
 rw [eval_ListComp]
 refine comp_core (use:=none) hcalm (cmpOk hc) hi hg ht he I h (fun C D s' m H' ys hn _ _ _ _ _ _ _ E q=>?_) hs _
 exact ⟨m,hn,fun h' hsb=>⟨.ref D,_,E h' hsb,rfl,q⟩⟩
end
mutual
def Dp (K:W.Frag) (H:Hp):PyData->V->Prop
 | .none,v=>v=.non
 | .bool b,v=>v=.bl b
 | .int i,v=>v=.int i
 | .str x,v=>v=.str x
 | .list ds,v=>∃ a xs,v=.ref a /\ SqL K H a xs /\ DpAll K H ds xs
 | .tuple ds,v=>∃ a xs,v=.ref a /\ SqT K H a xs /\ DpAll K H ds xs
 | .dict _,_=>False
def DpAll (K:W.Frag) (H:Hp):List PyData->List V->Prop
 | [],vs=>vs=[]
 | d::ds,vs=>∃ v r,vs=v::r /\ Dp K H d v /\ DpAll K H ds r
end
theorem DpAll.nil {K:W.Frag} {H:Hp}:DpAll K H [] []:=by unfold DpAll;rfl
theorem DpAll.cons {K:W.Frag} {H:Hp} {d:PyData} {ds:List PyData} {v:V} {vs:List V} (a:Dp K H d v) (t:DpAll K H ds vs):DpAll K H (d::ds) (v::vs):=by unfold DpAll;exact ⟨v,vs,rfl,a,t⟩
theorem DpAll.two {K:W.Frag} {H:Hp} {d e:PyData} {v u:V} (a:Dp K H d v) (b:Dp K H e u):DpAll K H [d,e] [v,u]:=.cons a (.cons b .nil)
theorem DpAll.ints {K:W.Frag} {H:Hp}:∀ (ns:List Int),DpAll K H (ns.map PyData.int) (ns.map V.int)
 | []=>.nil
 | n::r=>.cons (by unfold Dp;rfl) (DpAll.ints r)
theorem ZB7 {K:W.Frag} {H:Hp} (i:Int):Dp K H (.int i) (.int i):=by unfold Dp;rfl
theorem dp_bl {K:W.Frag} {H:Hp} (i:Bool):Dp K H (.bool i) (.bl i):=by unfold Dp;rfl
theorem ZCx {K:W.Frag} {H:Hp} {a:Addr} {xs:List V} {ds:List PyData} (h:SqL K H a xs) (t:DpAll K H ds xs):Dp K H (.list ds) (.ref a):=by unfold Dp;exact ⟨a,xs,rfl,h,t⟩
theorem ZCQ {K:W.Frag} {H:Hp} {a:Addr} {xs:List V} {ds:List PyData} (h:SqT K H a xs) (t:DpAll K H ds xs):Dp K H (.tuple ds) (.ref a):=by unfold Dp;exact ⟨a,xs,rfl,h,t⟩
section
variable {X:Cx} {pins:List (Addr×Obj)} {σ:St} {H:Hp} {s:Shared}
mutual
theorem Inv.reads (I:Inv X pins σ H s):∀ {d:PyData} {v:V} {u:Value},Dp X.K H d v->RelV v u->∃ as,Reads s.heap u d as
 | .none,_,_,h,r=>by unfold Dp at h;subst h;cases (show _=Value.none from r);exact ⟨_,.none⟩
 | .bool b,_,_,h,r=>by unfold Dp at h;subst h;cases (show _=Value.bool b from r);exact ⟨_,.bool b⟩
 | .int i,_,_,h,r=>by unfold Dp at h;subst h;obtain ⟨t,q⟩:=(show ∃ t,_=Value.int i t from r);subst q;exact ⟨_,.int i t⟩
 | .str x,_,_,h,r=>by unfold Dp at h;subst h;obtain ⟨t,q⟩:=(show ∃ t,_=Value.str x t from r);subst q;exact ⟨_,.str x t⟩
 | .list ds,_,_,h,r=>by
  unfold Dp at h
  obtain ⟨a,xs,q,sq,t⟩:=h
  subst q
  cases (show _=Value.ref a from r)
  obtain ⟨its,rv,pl,_⟩:=I.list sq
  obtain ⟨as,ra⟩:=Inv.readsAll I t rv
  obtain ⟨o,n,e1,e2,_,e3⟩:=pl
  exact ⟨_,.list e1 e2 e3 (by simpa using ra)⟩
 | .tuple ds,_,_,h,r=>by
  unfold Dp at h
  obtain ⟨a,xs,q,sq,t⟩:=h
  subst q
  cases (show _=Value.ref a from r)
  obtain ⟨its,rv,pl,_⟩:=I.tuple sq
  obtain ⟨as,ra⟩:=Inv.readsAll I t rv
  obtain ⟨o,e1,e2,n,e3⟩:=pl
  exact ⟨_,.tuple e1 e2 e3 (by simpa using ra)⟩
 | .dict _,_,_,h,_=>by unfold Dp at h;exact h.elim
theorem Inv.readsAll (I:Inv X pins σ H s):∀ {ds:List PyData} {vs:List V} {us:List Value},DpAll X.K H ds vs->Vals vs us->∃ as,ReadsAll s.heap us ds as
 | [],_,_,h,r=>by unfold DpAll at h;subst h;cases r;exact ⟨_,.nil⟩
 | _::_,_,_,h,r=>by
  unfold DpAll at h
  obtain ⟨v,q,e,a,t⟩:=h
  subst e
  cases r with
  | cons r1 r2=>
   obtain ⟨as,h1⟩:=Inv.reads I a r1
   obtain ⟨bs,h2⟩:=Inv.readsAll I t r2
   exact ⟨_,.cons h1 h2⟩
end
def rEqD (K:W.Frag):R2:=fun x y H Q=>∃ d e,Dp K H d x /\ Dp K H e y /\ d.canLay0=true /\ e.canLay0=true /\ d.depth <= 64 /\ Q (.bl (PyData.eqv d e)) H
def rNeD (K:W.Frag):R2:=fun x y H Q=>∃ d e,Dp K H d x /\ Dp K H e y /\ d.canLay0=true /\ e.canLay0=true /\ d.depth <= 64 /\ Q (.bl (!PyData.eqv d e)) H
theorem op_eqD (hu:X.A.units+64 < cLine):OpR X (compareOp .Eq) (rEqD X.K):=by
 intro pins s σ H x y v u Q I rx ry h
 obtain ⟨d,e,h1,h2,c1,c2,dp,q⟩:=h
 obtain ⟨as,ra⟩:=I.reads h1 rx
 obtain ⟨bs,rb⟩:=I.reads h2 ry
 exact SeqAt.compareEq_reads ra rb c1 c2 (by omega) ⟨.bl _,H,I,rfl,q⟩
theorem op_neD (hu:X.A.units+64 < cLine):OpR X (compareOp .NotEq) (rNeD X.K):=by
 intro pins s σ H x y v u Q I rx ry h
 obtain ⟨d,e,h1,h2,c1,c2,dp,q⟩:=h
 obtain ⟨as,ra⟩:=I.reads h1 rx
 obtain ⟨bs,rb⟩:=I.reads h2 ry
 exact SeqAt.compareNe_reads ra rb c1 c2 (by omega) ⟨.bl _,H,I,rfl,q⟩
end
section
variable {X:Cx} {x:Str} {pos:Pos}
theorem ZBK {C:Addr} (hg:Gl X x) (h:X.mg x=some (.ref C)) (hd:(x == ("__debug__":Str))=false:=by decide):PE X (.Name x pos) (tC (.ref C)):=pe_glob hg h rfl hd
theorem ZB2 {n:String} (hg:Gl X x) (hm:X.mg x=none) (hv:bootBuiltins x=some (.type n)) (hn:x≠"__name__":=by decide) (hd:(x == ("__debug__":Str))=false:=by decide):PE X (.Name x pos) (tC (.ty n)):=pe_bltn hg hm hv rfl hn hd
end
structure Fn (P:Program) (w:World) (K:W.Frag) (mg:Str->Option Value) (base:Heap) (CX:CXT) (x:Str) (k:Nat) (ps:List Str) (sp:Sp):Prop where
 ex:∃ f fd,FnOk P w K mg base CX k f fd ps sp /\ Binds K fd ps [] /\ W.keepIn K (.ref f)=true /\ mg x=some (.ref f)
structure Mt (P:Program) (w:World) (K:W.Frag) (mg:Str->Option Value) (base:Heap) (CX:CXT) (C:Addr) (m:Str) (k:Nat) (ps:List Str) (sp:Sp):Prop where
 cl:Cls K C
 ex:∃ f fd,FnOk P w K mg base CX k f fd ps sp /\ Binds K fd ps [] /\ Meth K C m f
structure Kl (P:Program) (w:World) (K:W.Frag) (mg:Str->Option Value) (base:Heap) (CX:CXT) (x:Str) (C:Addr) (k:Nat) (ps:List Str) (sp:Sp):Prop where
 mgC:mg x=some (.ref C)
 ex:∃ f fd,FnOk P w K mg base CX k f fd ps sp /\ Binds K fd ps [] /\ Mk K C f
section
variable {X:Cx} {CX:CXT} {k:Nat} {ps:List Str} {sp:Sp} {E:XK} {x m:Str} {C:Addr} {p pos apos:Pos} {e o:Expr} {es:List Expr} {ta:TE} {t:TA}
theorem ZBp (F:Fn X.prog X.w X.K X.mg X.base CX x k ps sp) (hr:Room k X.A) (hg:Gl X x) (hx:ZAu CX X E) (ha:PA X (e::es) t) (hdb:(x == ("__debug__":Str))=false:=by decide) (he:starEach (e::es) X.env=(false,eval e X.env)::starEach es X.env:=by rfl) (hpl:(backTo pos (starEach es X.env)).any (·.1)=false:=by rfl) :
  PE X (.Call (.Name x p) (e::es) [] pos) (ZCp sp [] E t):=by
 obtain ⟨f,fd,h1,h2,h3,h4⟩:=F.ex
 exact pe_call h1 hr hg h4 h3 h2 .nil hx ha hdb he hpl
theorem ZC8 {pl:Sem Bool} (F:Mt X.prog X.w X.K X.mg X.base CX C m k ps sp) (hr:Room k X.A) (hx:ZAu CX X E) (he:PE X o ta) (ha:PA X (e::es) t)
  (hst:starEach (e::es) X.env=(false,eval e X.env)::starEach es X.env:=by rfl) (hpl:(backTo pos (starEach es X.env)).any (·.1)=false:=by rfl)
  (ht:eval (.Call (.Attribute o m apos) (e::es) [] pos) X.env=(do
   let ov <- eval o X.env
   standAt apos.atName
   let (f,first) <- holding [ov] (getMethod ov m pl)
   callWith pos f first (backTo pos (starEach (e::es) X.env)) (backToKw pos (keywordEach [] X.env))):=by rfl) :
  PE X (.Call (.Attribute o m apos) (e::es) [] pos) (ZCi C m sp [] E ta t):=by
 obtain ⟨f,fd,h1,h2,h3⟩:=F.ex
 exact pe_meth he F.cl h3 h1 hr h2 .nil hx ha hst hpl ht
theorem ZCv {pl:Sem Bool} (F:Mt X.prog X.w X.K X.mg X.base CX C m k ps sp) (hr:Room k X.A) (hx:ZAu CX X E) (he:PE X o ta)
  (ht:eval (.Call (.Attribute o m apos) [] [] pos) X.env=(do
   let ov <- eval o X.env
   standAt apos.atName
   let (f,first) <- holding [ov] (getMethod ov m pl)
   callWith pos f first (backTo pos (starEach [] X.env)) (backToKw pos (keywordEach [] X.env))):=by rfl) :
  PE X (.Call (.Attribute o m apos) [] [] pos) (ZCi C m sp [] E ta tNil):=by
 obtain ⟨f,fd,h1,h2,h3⟩:=F.ex
 exact pe_meth0 he F.cl h3 h1 hr h2 .nil hx ht
theorem ZC9 (F:Kl X.prog X.w X.K X.mg X.base CX x C k ps sp) (hr:Room (k+1) X.A) (hg:Gl X x) (hx:ZAu CX X E) (ha:PA X (e::es) t) (hdb:(x == ("__debug__":Str))=false:=by decide) (he:starEach (e::es) X.env=(false,eval e X.env)::starEach es X.env:=by rfl) (hpl:(backTo pos (starEach es X.env)).any (·.1)=false:=by rfl) :
  PE X (.Call (.Name x p) (e::es) [] pos) (ZCn C sp [] E t):=by
 obtain ⟨f,fd,h1,h2,h3⟩:=F.ex
 exact pe_make h3 h1 hr hg F.mgC h2 .nil hx ha hdb he hpl
end
def ZBx:V->Bool
 | .ty _=>true
 | .ref _=>true
 | _=>false
def cval:V->Value
 | .ty n=>.type n
 | .ref a=>.ref a
 | _=>.none
section
variable {X:Cx}
theorem ZAy:ZBi X (.builtin "isinstance") (fun xs H Q=>∃ x c ty b,xs=[x,c] /\ ZBx c=true /\ TyOf X.K H x ty /\ PySem.W.kitOne X.K ty (cval c)=some b /\ Q (.bl b) H):=by
 intro pins s σ H xs us Q I r h
 obtain ⟨x,c,ty,b,rfl,hc,hty,e,q⟩:=h
 obtain ⟨u,w',rfl,r1,r2⟩:=ZCl r
 have e2:w'=cval c:=by
  cases c <;> first | (cases hc;done) | exact r2
 subst e2
 exact isinst_ok I r1 hty e fun tk=>⟨.bl b,H,I.tok tk,rfl,q⟩
end
theorem ZAR {v:V} {σ:St} {H:Hp} {Q:VK}:tVar 0 (some v::σ) H Q=Q v H:=by
 apply propext;unfold tVar;simp
theorem ZAV {i:Nat} {a:Option V} {σ:St} {H:Hp} {Q:VK}:tVar (i+1) (a::σ) H Q=tVar i σ H Q:=by
 apply propext;unfold tVar;simp
theorem rI0_int {g:Int->Int->V} {i j:Int} {H:Hp} {Q:VK}:rI0 g (.int i) (.int j) H Q=Q (g i j) H:=by
 apply propext;unfold rI0;simp
theorem rI_int {C:Int->Int->Prop} {g:Int->Int->V} {i j:Int} {H:Hp} {Q:VK}:rI C g (.int i) (.int j) H Q=(C i j /\ Q (g i j) H):=by
 apply propext;unfold rI;simp
theorem rU_int {g:Int->V} {i:Int} {H:Hp} {Q:VK}:rU g (.int i) H Q=Q (g i) H:=by
 apply propext;unfold rU;simp
theorem rEq_int {i j:Int} {H:Hp} {Q:VK}:rEq (.int i) (.int j) H Q=Q (.bl (decide (i=j))) H:=by
 apply propext;unfold rEq;simp [scal]
theorem rNe_int {i j:Int} {H:Hp} {Q:VK}:rNe (.int i) (.int j) H Q=Q (.bl (!decide (i=j))) H:=by
 apply propext;unfold rNe;simp [scal]
theorem rEq_bl {i j:Bool} {H:Hp} {Q:VK}:rEq (.bl i) (.bl j) H Q=Q (.bl (decide (i=j))) H:=by
 apply propext;unfold rEq;simp [scal]
theorem rNe_bl {i j:Bool} {H:Hp} {Q:VK}:rNe (.bl i) (.bl j) H Q=Q (.bl (!decide (i=j))) H:=by
 apply propext;unfold rNe;simp [scal]
theorem rEq_str {i j:Str} {H:Hp} {Q:VK}:rEq (.str i) (.str j) H Q=Q (.bl (decide (i=j))) H:=by
 apply propext;unfold rEq;simp [scal]
theorem rNe_str {i j:Str} {H:Hp} {Q:VK}:rNe (.str i) (.str j) H Q=Q (.bl (!decide (i=j))) H:=by
 apply propext;unfold rNe;simp [scal]
theorem ex_bl {c:Bool} {Q:Bool->Prop}:(∃ k,V.bl c=V.bl k /\ Q k)=Q c:=by
 apply propext;simp
theorem ex_int {c:Int} {Q:Int->Prop}:(∃ k,V.int c=V.int k /\ Q k)=Q c:=by
 apply propext;simp
theorem ZAi {n:Nat} (h:n <= 1000):n <= sizeLine:=Nat.le_of_lt (small1000 h)
theorem ZAz {H:Hp} {p:Addr} (h:H p=none) (o:HO):Same H (upd H p o):=fun b u q=>by rw [ZAC (ZAF q h)];exact q
def getF (K:W.Frag) (f:Str) (x:V) (H:Hp) (Q:VK):Prop:=∃ a C dx fs v,x=.ref a /\ H a=some (.ins C dx fs) /\ Cls K C /\ NoAttr K C f /\ fs.lookup f=some v /\ Q v H
theorem tFld_eq {K:W.Frag} {ta:TE} {f:Str} {σ:St} {H:Hp} {Q:VK}:tFld K ta f σ H Q=ta σ H (fun x H1=>getF K f x H1 Q):=rfl
theorem getF_of {K:W.Frag} {f:Str} {a C dx:Addr} {fs:List (Str×V)} {v:V} {H:Hp} {Q:VK} (h:H a=some (.ins C dx fs)) (cl:Cls K C) (n:NoAttr K C f) (l:fs.lookup f=some v) (q:Q v H):getF K f (.ref a) H Q:=⟨a,C,dx,fs,v,rfl,h,cl,n,l,q⟩
def setF (K:W.Frag) (f:Str) (x y:V) (H:Hp) (Q:Hp->Prop):Prop:=∃ a C dx fs,x=.ref a /\ H a=some (.ins C dx fs) /\ Cls K C /\ NoAttr K C f /\ fs.length < 1000 /\ Q (upd H a (.ins C dx (putF f y fs)))
theorem sFld_eq {K:W.Frag} {ta tv:TE} {f:Str} {D:Ends} {σ:St} {H:Hp}:sFld K ta tv f D σ H=tv σ H (fun y H1=>ta σ H1 fun x H2=>setF K f x y H2 (D.nx σ)):=rfl
theorem setF_of {K:W.Frag} {f:Str} {a C dx:Addr} {fs:List (Str×V)} {y:V} {H:Hp} {Q:Hp->Prop} (h:H a=some (.ins C dx fs)) (cl:Cls K C) (n:NoAttr K C f) (l:fs.length < 1000) (q:Q (upd H a (.ins C dx (putF f y fs)))):setF K f (.ref a) y H Q:=⟨a,C,dx,fs,rfl,h,cl,n,l,q⟩
theorem ZAO {K:W.Frag} {p:Addr} {xs:List V} {i:Int} {v:V} {H:Hp} {Q:VK} (h:SqL K H p xs) (e:atI xs i=some v) (q:Q v H):rIxL K (.ref p) (.int i) H Q:=⟨p,xs,i,v,rfl,rfl,h,e,q⟩
theorem ZB5 {K:W.Frag} {p:Addr} {xs:List V} {i:Int} {v:V} {H:Hp} {Q:VK} (h:SqT K H p xs) (e:atI xs i=some v) (q:Q v H):rIxT K (.ref p) (.int i) H Q:=⟨p,xs,i,v,rfl,rfl,h,e,q⟩
theorem ZAY {α:Type} {xs:List α} {i:Int} {v:α} (h0:0 <= i) (h:xs[i.toNat]?=some v):atI xs i=some v:=by
 have q:=atI_nat h
 rwa [Int.toNat_of_nonneg h0] at q
theorem atI_ints {xs:List Int} {i:Int} {v:Int} (h0:0 <= i) (h:xs[i.toNat]?=some v):atI (xs.map V.int) i=some (.int v):=ZAY h0 (by rw [yAX,h];rfl)
def Nxt (P:Nat->List V->St->Hp->Prop) (n i:Nat) (ys:List V) (σ:St) (H:Hp):Prop:=∃ m',m' < n-i /\ m'=n-(i+1) /\ i+1 <= n /\ P (i+1) ys σ H
theorem Nxt.of {P:Nat->List V->St->Hp->Prop} {n i:Nat} {ys:List V} {σ:St} {H:Hp} (h:i < n) (p:P (i+1) ys σ H):Nxt P n i ys σ H:=⟨n-(i+1),by omega,rfl,h,p⟩
theorem comp_list {K:W.Frag} {a:Addr} {xs:List V} {g:TG} {tt:TT} {te:TE} {Q:VK} {σ0:St} {H:Hp} (P:Nat->List V->St->Hp->Prop) (h0:P 0 [] σ0 H) (hl:∀ i ys σ H,i <= xs.length->P i ys σ H->SqL K H a xs /\ ys.length <= i) (hz:xs.length <= sizeLine)
  (hs:∀ i ys x σ H,i < xs.length->xs[i]?=some x->P i ys σ H->g x σ H fun σ2 H2=>tt σ2 H2 fun b H3=>if b=true then te σ2 H3 fun y H4=>Nxt P xs.length i (ys++[y]) σ2 H4 else Nxt P xs.length i ys σ2 H3)
  (hd:∀ ys σ H,P xs.length ys σ H->∀ p,H p=none->Q (.ref p) (upd H p (.lst ys))) :
  ∃ W:Nat->Nat->List V->St->Hp->Prop,(∃ m,W 0 m [] σ0 H) /\ ∀ i m ys σ H,W i m ys σ H ->
   ((Itl K a).stop i H /\ ys.length <= sizeLine /\ ∀ p,H p=none->Q (.ref p) (upd H p (.lst ys))) ∨
   ((Itl K a).go i H /\ ys.length < sizeLine /\ ∀ x H',(Itl K a).yld i H x H'->g x σ H' fun σ2 H2=>tt σ2 H2 fun b H3=>if b=true then te σ2 H3 fun y H4=>∃ m',m' < m /\ W (i+1) m' (ys++[y]) σ2 H4 else ∃ m',m' < m /\ W (i+1) m' ys σ2 H3):=by
 refine ⟨fun i m ys σ H=>m=xs.length-i /\ i <= xs.length /\ P i ys σ H,⟨xs.length,by simp,yAU _,h0⟩,?_⟩
 rintro i m ys σ H ⟨rfl,hi,p⟩
 obtain ⟨q,ly⟩:=hl i ys σ H hi p
 by_cases hlt:i < xs.length
 .refine .inr ⟨⟨xs,xs[i],q,by simp [hlt]⟩,by omega,fun x H' y=>?_⟩
  obtain ⟨e,y⟩:=y
  subst e
  exact hs i ys x σ _ hlt (y xs q) p
 .have e:i=xs.length:=by omega
  subst e
  exact .inl ⟨⟨xs,q,yAB _⟩,by omega,hd ys σ H p⟩
theorem kit_same {K:W.Frag} {t:Value} (h:(t == t)=true):PySem.W.kitOne K t t=some true:=by unfold PySem.W.kitOne;rw [if_pos h]
theorem cutV_ints (ns:List Int) (lo hi:Option Int):cutV (ns.map V.int) lo hi=(((ns.drop (HT.sIx ns.length 0 lo)).take (HT.sIx ns.length ns.length hi-HT.sIx ns.length 0 lo)).map V.int):=by
 unfold cutV
 rw [yAP,List.map_take,List.map_drop]
theorem ixN_of {n:Nat} {i:Int} (h0:0 <= i) (h:i < n):ixN n i=some i.toNat:=by unfold ixN;rw [if_pos h0,if_pos h]
theorem slL_of {K:W.Frag} {a:Addr} {xs:List V} {lo hi:Option Int} {H:Hp} {Q:VK} (h:SqL K H a xs) (q:∀ p,H p=none->Q (.ref p) (upd H p (.lst (cutV xs lo hi)))):rSlL K (.ref a) lo hi H Q:=⟨a,xs,rfl,h,q⟩
def forL (K:W.Frag) (g:TG) (tb:TS) (D:Ends) (σ:St) (x:V) (H1:Hp):Prop:=∃ a,x=.ref a /\ (∃ xs,SqL K H1 a xs) /\ ∃ W:Nat->Nat->St->Hp->Prop,(∃ m,W 0 m σ H1) /\ ∀ i m σ H,W i m σ H ->
 ((Itl K a).stop i H /\ D.nx σ H)∨((Itl K a).go i H /\ ∃ N:St->Hp->Prop,(∀ σ' H',N σ' H'->∃ m',m' < m /\ W (i+1) m' σ' H') /\ ∀ x H',(Itl K a).yld i H x H'->g x σ H' fun σ2 H2=>tb { D with nx:=N,ct:=N,bk:=D.nx } σ2 H2)
theorem tForL_eq {K:W.Frag} {tl:TE} {g:TG} {tb:TS} {D:Ends} {σ:St} {H:Hp}:tFor (ZDC K tl) g tb D σ H=tl σ H (fun x H1=>forL K g tb D σ x H1):=rfl
theorem forL_of {K:W.Frag} {g:TG} {tb:TS} {D:Ends} {σ:St} {H:Hp} {a:Addr} {xs:List V} (h:SqL K H a xs) (Pv:Nat->St->Hp->Prop) (h0:Pv 0 σ H) (hl:∀ i σ H,i <= xs.length->Pv i σ H->SqL K H a xs)
  (hs:∀ i x σ H,xs[i]?=some x->Pv i σ H->g x σ H fun σ2 H2=>tb { D with nx:=Pv (i+1),ct:=Pv (i+1),bk:=D.nx } σ2 H2) (hd:∀ σ H,Pv xs.length σ H->D.nx σ H):forL K g tb D σ (.ref a) H :=
 ⟨a,rfl,⟨xs,h⟩,for_list Pv h0 hl hs hd⟩
def forR (lo:Int) (g:TG) (tb:TS) (D:Ends) (σ:St) (n:Nat) (H1:Hp):Prop:=∃ W:Nat->Nat->St->Hp->Prop,(∃ m,W 0 m σ H1) /\ ∀ i m σ H,W i m σ H ->
 ((Itr lo n).stop i H /\ D.nx σ H)∨((Itr lo n).go i H /\ ∃ N:St->Hp->Prop,(∀ σ' H',N σ' H'->∃ m',m' < m /\ W (i+1) m' σ' H') /\ ∀ x H',(Itr lo n).yld i H x H'->g x σ H' fun σ2 H2=>tb { D with nx:=N,ct:=N,bk:=D.nx } σ2 H2)
def forR1 (g:TG) (tb:TS) (D:Ends) (σ:St) (x:V) (H1:Hp):Prop:=∃ j:Int,[x]=[.int j] /\ -(2 ^ 62) <= j /\ j < 2 ^ 62 /\ forR 0 g tb D σ j.toNat H1
def forR2 (g:TG) (tb:TS) (D:Ends) (σ:St) (x y:V) (H1:Hp):Prop:=∃ i j:Int,[x,y]=[.int i,.int j] /\ (-(2 ^ 62) <= i /\ i < 2 ^ 62 /\ -(2 ^ 62) <= j /\ j < 2 ^ 62) /\ forR i g tb D σ (j-i).toNat H1
theorem tForR1_eq {t:TE} {g:TG} {tb:TS} {D:Ends} {σ:St} {H:Hp}:tFor (ZDB (ZBc t tNil)) g tb D σ H=t σ H (fun x H1=>forR1 g tb D σ x H1):=rfl
theorem tForR2_eq {t u:TE} {g:TG} {tb:TS} {D:Ends} {σ:St} {H:Hp}:tFor (iRng2 (ZBc t (ZBc u tNil))) g tb D σ H=t σ H (fun x H1=>u σ H1 fun y H2=>forR2 g tb D σ x y H2):=rfl
theorem forR_of {lo:Int} {n:Nat} {g:TG} {tb:TS} {D:Ends} {σ:St} {H:Hp} (Pv:Nat->St->Hp->Prop) (h0:Pv 0 σ H)
  (hs:∀ i σ H,i < n->Pv i σ H->g (.int (lo+i)) σ H fun σ2 H2=>tb { D with nx:=Pv (i+1),ct:=Pv (i+1),bk:=D.nx } σ2 H2) (hd:∀ σ H,Pv n σ H->D.nx σ H):forR lo g tb D σ n H:=for_range Pv h0 hs hd
theorem forR1_of {j:Int} {g:TG} {tb:TS} {D:Ends} {σ:St} {H:Hp} (h:-1000 <= j /\ j <= 1000) (q:forR 0 g tb D σ j.toNat H):forR1 g tb D σ (.int j) H:=⟨j,rfl,by omega,by omega,q⟩
def compL (K:W.Frag) (g:TG) (tt:TT) (te:TE) (σ0:St) (Q:VK) (x:V) (H1:Hp):Prop:=∃ a,x=.ref a /\ (∃ xs,SqL K H1 a xs) /\ ∃ W:Nat->Nat->List V->St->Hp->Prop,(∃ m,W 0 m [] σ0 H1) /\ ∀ i m ys σ H,W i m ys σ H ->
 ((Itl K a).stop i H /\ ys.length <= sizeLine /\ ∀ p,H p=none->Q (.ref p) (upd H p (.lst ys))) ∨
 ((Itl K a).go i H /\ ys.length < sizeLine /\ ∀ x H',(Itl K a).yld i H x H'->g x σ H' fun σ2 H2=>tt σ2 H2 fun b H3=>if b=true then te σ2 H3 fun y H4=>∃ m',m' < m /\ W (i+1) m' (ys++[y]) σ2 H4 else ∃ m',m' < m /\ W (i+1) m' ys σ2 H3)
theorem tCompL_eq {k:Nat} {js:List Nat} {K:W.Frag} {tl:TE} {g:TG} {tt:TT} {te:TE} {σ:St} {H:Hp} {Q:VK}:ZCj k js (ZDC K tl) g tt te σ H Q=tl σ H (fun x H1=>compL K g tt te (up k js σ) Q x H1):=rfl
theorem compL_of {K:W.Frag} {a:Addr} {xs:List V} {g:TG} {tt:TT} {te:TE} {Q:VK} {σ0:St} {H:Hp} (h:SqL K H a xs) (hz:xs.length <= 1000) (P:Nat->List V->St->Hp->Prop) (h0:P 0 [] σ0 H) (hl:∀ i ys σ H,i <= xs.length->P i ys σ H->SqL K H a xs /\ ys.length <= i)
  (hs:∀ i ys x σ H,i < xs.length->xs[i]?=some x->P i ys σ H->g x σ H fun σ2 H2=>tt σ2 H2 fun b H3=>if b=true then te σ2 H3 fun y H4=>Nxt P xs.length i (ys++[y]) σ2 H4 else Nxt P xs.length i ys σ2 H3)
  (hd:∀ ys σ H,P xs.length ys σ H->∀ p,H p=none->Q (.ref p) (upd H p (.lst ys))):compL K g tt te σ0 Q (.ref a) H:=⟨a,rfl,⟨xs,h⟩,comp_list P h0 hl (ZAi hz) hs hd⟩
def compR (lo:Int) (g:TG) (tt:TT) (te:TE) (σ0:St) (Q:VK) (n:Nat) (H1:Hp):Prop:=∃ W:Nat->Nat->List V->St->Hp->Prop,(∃ m,W 0 m [] σ0 H1) /\ ∀ i m ys σ H,W i m ys σ H ->
 ((Itr lo n).stop i H /\ ys.length <= sizeLine /\ ∀ p,H p=none->Q (.ref p) (upd H p (.lst ys))) ∨
 ((Itr lo n).go i H /\ ys.length < sizeLine /\ ∀ x H',(Itr lo n).yld i H x H'->g x σ H' fun σ2 H2=>tt σ2 H2 fun b H3=>if b=true then te σ2 H3 fun y H4=>∃ m',m' < m /\ W (i+1) m' (ys++[y]) σ2 H4 else ∃ m',m' < m /\ W (i+1) m' ys σ2 H3)
def compR1 (g:TG) (tt:TT) (te:TE) (σ0:St) (Q:VK) (x:V) (H1:Hp):Prop:=∃ j:Int,[x]=[.int j] /\ -(2 ^ 62) <= j /\ j < 2 ^ 62 /\ compR 0 g tt te σ0 Q j.toNat H1
theorem tCompR1_eq {k:Nat} {js:List Nat} {t:TE} {g:TG} {tt:TT} {te:TE} {σ:St} {H:Hp} {Q:VK}:ZCj k js (ZDB (ZBc t tNil)) g tt te σ H Q=t σ H (fun x H1=>compR1 g tt te (up k js σ) Q x H1):=rfl
def CDivB (i j:Int):Prop:=0 < j /\ j < 2 ^ 250
section
variable {X:Cx}
theorem op_fdivB:OpR X (binaryOp .FloorDiv) (rI CDivB fun i j=>.int (i / j)):=opI fun i j _ _ _ _ _ hc q=>by
 have h1:(0:Int) < j:=hc.1
 have h2:j < 2 ^ 250:=hc.2
 have h3:j.natAbs < 2 ^ 250:=by
  have e:(j.natAbs:Int)=j:=Int.natAbs_of_nonneg (by omega)
  have e2:((2 ^ 250:Nat):Int)=2 ^ 250:=by rfl
  omega
 have h4:j.natAbs.log2 < 250:=(Nat.log2_lt (by omega)).mpr h3
 exact floordiv_int (by omega) (by rw [Int.fdiv_eq_ediv_of_nonneg i (by omega)];exact q) (.inl (PyProof.noPylong_of_log2 (by omega)))
end
theorem gCons_eq {t:TG} {u:TGs} {v:V} {r:List V} {σ:St} {H:Hp} {Q:St->Hp->Prop}:gCons t u (v::r) σ H Q=t v σ H (fun σ' H'=>u r σ' H' Q):=by
 apply propext;unfold gCons;constructor
 .rintro ⟨v',r',e,q⟩;cases e;exact q
 .exact fun q=>⟨v,r,rfl,q⟩
theorem gNil_eq {σ:St} {H:Hp} {Q:St->Hp->Prop}:gNil [] σ H Q=Q σ H:=by
 apply propext;unfold gNil;simp
section
variable {X:Cx} {tg l e o:Expr} {es:List Expr} {tl te to:TE} {t:TA} {pos apos cpos:Pos} {f:Str}
theorem ix_tupK (K:W.Frag) (h:X.K=K:=by rfl):IxR X (rIxT K):=h ▸ ZCO
theorem op_neDK (K:W.Frag) (hu:X.A.units+64 < cLine) (h:X.K=K:=by rfl):OpR X (compareOp .NotEq) (rNeD K):=h ▸ op_neD hu
end
section
variable {X:Cx}
theorem tAug_eq {i:Nat} {te:TE} {ti:TIp} {D:Ends} {σ:St} {H:Hp}:tAug i te ti D σ H=tVar i σ H (fun x H0=>te σ H0 fun y H1=>ti x y H1 fun z H2=>D.nx (σ.set i (some z)) H2):=rfl
theorem ipI_int {f:Int->Int->Int} {i j:Int} {H:Hp} {Q:VK}:ipI f (.int i) (.int j) H Q=Q (.int (f i j)) H:=by
 refine propext ⟨?_,fun q=>⟨i,j,rfl,rfl,q⟩⟩
 rintro ⟨a,b,e1,e2,q⟩
 cases e1;cases e2;exact q
theorem cx_K {CX:CXT} {P:Program} {w:World} {K:W.Frag} {mg:Str->Option Value} {base:Heap} {N:List Str} {qual:Str} {scope:Scope} {f:Addr} {cd:Value} {A:Around} {outer:List Env} {s:Shared} {H:Hp} {E:XK}:(cxOf CX P w K mg base N qual scope f cd A outer s H E).K=K:=rfl
end
structure Enc {α:Type} [DecidableEq α] (e:α->PyData) (n:Nat):Prop where
 eq:∀ a b,PyData.eqv (e a) (e b)=decide (a=b)
 lay:∀ a,(e a).canLay0=true
 dep:∀ a,(e a).depth <= n
theorem Enc.int:Enc PyData.int 0:=⟨fun a b=>by unfold PyData.eqv;rw [Bool.eq_iff_iff];simp,fun a=>by unfold PyData.canLay0;rfl,fun a=>by unfold PyData.depth;exact yAB _⟩
section
variable {α β γ:Type} [DecidableEq α] [DecidableEq β] [DecidableEq γ] {e:α->PyData} {f:β->PyData} {g:γ->PyData} {n m k:Nat}
theorem Enc.all (h:Enc e n):∀ xs ys:List α,PyData.eqvAll (xs.map e) (ys.map e)=decide (xs=ys)
 | [],[]=>by simp [PyData.eqvAll]
 | x::xs,[]=>by simp [PyData.eqvAll]
 | [],y::ys=>by simp [PyData.eqvAll]
 | x::xs,y::ys=>by
  rw [yAO,yAO]
  unfold PyData.eqvAll
  rw [h.eq,h.all xs ys,<- Bool.decide_and]
  exact decide_eq_decide.mpr (by rw [List.cons.injEq])
theorem Enc.layAll (h:Enc e n):∀ xs:List α,PyData.canLayAll0 (xs.map e)=true
 | []=>by simp [PyData.canLayAll0]
 | x::xs=>by rw [yAO];unfold PyData.canLayAll0;rw [h.lay,h.layAll xs];rfl
theorem Enc.depAll (h:Enc e n):∀ xs:List α,PyData.depthAll (xs.map e) <= n
 | []=>by simp [PyData.depthAll]
 | x::xs=>by
  rw [yAO];unfold PyData.depthAll
  have a:=h.dep x
  have b:=h.depAll xs
  omega
theorem Enc.list (h:Enc e n):Enc (fun xs:List α=>PyData.list (xs.map e)) (n+1) :=
 ⟨fun a b=>by unfold PyData.eqv;exact h.all a b,fun a=>by unfold PyData.canLay0;exact h.layAll a,fun a=>by unfold PyData.depth;have:=h.depAll a;omega⟩
theorem Enc.two (h:Enc e n) (h2:Enc f m):Enc (fun p:α×β=>PyData.tuple [e p.1,f p.2]) (max n m+1) where
 eq:=fun a b=>by
  unfold PyData.eqv PyData.eqvAll PyData.eqvAll PyData.eqvAll
  rw [h.eq,h2.eq,Bool.and_true,<- Bool.decide_and]
  exact decide_eq_decide.mpr (by rw [Prod.ext_iff])
 lay:=fun a=>by unfold PyData.canLay0 PyData.canLayAll0 PyData.canLayAll0 PyData.canLayAll0;rw [h.lay,h2.lay];rfl
 dep:=fun a=>by
  unfold PyData.depth PyData.depthAll PyData.depthAll PyData.depthAll
  have:=h.dep a.1
  have:=h2.dep a.2
  omega
theorem eqD_of {K:W.Frag} {H:Hp} {x y:V} {a b:α} {Q:VK} (h:Enc e n) (hn:n <= 64) (dx:Dp K H (e a) x) (dy:Dp K H (e b) y) (q:Q (.bl (decide (a=b))) H):rEqD K x y H Q :=
 ⟨_,_,dx,dy,h.lay a,h.lay b,yAH (h.dep a) hn,by rw [h.eq];exact q⟩
end
theorem dp_ints {K:W.Frag} {H:Hp} {a:Addr} {xs:List Int} (h:SqL K H a (xs.map V.int)):Dp K H (.list (xs.map PyData.int)) (.ref a):=ZCx h (DpAll.ints xs)
section
variable {K:W.Frag} {H:Hp} {R:Bool->Prop}
theorem ZCW {x c:V} {ty:Value} {b:Bool} (hc:ZBx c=true) (t:TyOf K H x ty) (k:PySem.W.kitOne K ty (cval c)=some b) (q:R b):∃ x' c' ty b,[x,c]=[x',c'] /\ ZBx c'=true /\ TyOf K H x' ty /\ PySem.W.kitOne K ty (cval c')=some b /\ R b:=⟨x,c,ty,b,rfl,hc,t,k,q⟩
theorem inst_int {i:Int} (q:R true):∃ x' c' ty b,[V.int i,V.ty "int"]=[x',c'] /\ ZBx c'=true /\ TyOf K H x' ty /\ PySem.W.kitOne K ty (cval c')=some b /\ R b:=ZCW rfl (.int i) (kit_same rfl) q
theorem inst_bl {i:Bool} (q:R true):∃ x' c' ty b,[V.bl i,V.ty "bool"]=[x',c'] /\ ZBx c'=true /\ TyOf K H x' ty /\ PySem.W.kitOne K ty (cval c')=some b /\ R b:=ZCW rfl (.bl i) (kit_same rfl) q
theorem inst_int_bl {i:Int} (k:PySem.W.kitOne K (.type "int") (.type "bool")=some false) (q:R false):∃ x' c' ty b,[V.int i,V.ty "bool"]=[x',c'] /\ ZBx c'=true /\ TyOf K H x' ty /\ PySem.W.kitOne K ty (cval c')=some b /\ R b:=ZCW rfl (.int i) k q
end
structure FunD (K:W.Frag) (x qual:Str) (st:Stmt) (f:Addr) (fd:FuncData) (dv:List Value):Prop where
 ex:∃ (oc:Value) (od:Option Addr) (T:Addr) (kV doc pm:Value) (an:Option Addr) (cdv ct:Value) (osl:Array (Option Value)),
  fd=W.fnOf x qual (ZAN st) (ZAK st) (ZAB st) (.ref T) kV doc pm an cdv ct /\ K.lookup f=some ⟨oc,od,.func fd,osl⟩ /\ W.codeIn K cdv qual=true /\ ∃ o n,K.lookup T=some o /\ o.data=.seq dv.toArray n
 kp:W.keepIn K (.ref f)=true
section
variable {P:Program} {w:World} {K:W.Frag} {mg:Str->Option Value} {base:Heap}
theorem FunD.ok {x qual:Str} {st:Stmt} {f:Addr} {fd:FuncData} {dv:List Value} {N ps:List Str} {k:Nat} {sp:Sp} (F:FunD K x qual st f fd dv) (S:FnScope N ps (ZAB st)) (len:∀ vs H Q E,sp vs H Q E->vs.length=ps.length)
  (hbody:∀ (cdv:Value) (A:Around) (outer:List Env) (s:Shared) (H:Hp) (vs:List V) (Q:VK) (E:XK),Room k (A.deeper (envOfC qual (ZAB st) s.heap.objs.size f cdv))->sp vs H Q E ->
   ∃ t,PSs (cxOf CX0 P w K mg base N qual (ZAB st) f cdv A outer s H E).nox (ZAK st) t /\ t { nx:=fun _ H'=>Q .non H',rt:=Q } (start N vs) H):FnOk P w K mg base CX0 (k+1) f fd ps sp:=by
 obtain ⟨oc,od,T,kV,doc,pm,an,cdv,ct,osl,rfl,lk,hcd,_⟩:=F.ex
 refine ZDD lk hcd S len fun A outer s H vs Q E hr hsp=>?_
 obtain ⟨t,h,q⟩:=hbody cdv A outer s H vs Q E hr hsp
 exact ⟨t,h.nox,q⟩
theorem FunD.binds {x qual:Str} {st:Stmt} {f:Addr} {fd:FuncData} {dv ds:List Value} {ps:List Str} (F:FunD K x qual st f fd dv)
  (h:∀ (T:Addr) (kV doc pm:Value) (an:Option Addr) (cdv ct:Value) (us:List Value),(us++ds).length=ps.length->∃ k,bindArgs (W.fnOf x qual (ZAN st) (ZAK st) (ZAB st) (.ref T) kV doc pm an cdv ct) ⟨us,[]⟩=seqItems? (.ref T) >>= k /\ k (some dv.toArray)=pure (ps.zip (us++ds))):Binds K fd ps ds:=by
 obtain ⟨oc,od,T,kV,doc,pm,an,cdv,ct,osl,rfl,lk,hcd,o,n,hT,ho⟩:=F.ex
 intro s us KX hl
 obtain ⟨k,h1,h2⟩:=h T kV doc pm an cdv ct us hl
 exact PySem.W.binds_K KX rfl hT ho h1 h2
theorem funD_mk {x qual:Str} {st:Stmt} {f T:Addr} {oc:Value} {od an:Option Addr} {osl:Array (Option Value)} {kV doc pm cdv ct:Value} {dv:List Value} {ocT:Value} {odT:Option Addr} {nT:Nat} {slT:Array (Option Value)} (l:K.lookup f=some ⟨oc,od,.func (W.fnOf x qual (ZAN st) (ZAK st) (ZAB st) (.ref T) kV doc pm an cdv ct),osl⟩)
  (c:W.codeIn K cdv qual=true) (k:W.keepIn K (.ref f)=true) (t:K.lookup T=some ⟨ocT,odT,.seq dv.toArray nT,slT⟩):FunD K x qual st f (W.fnOf x qual (ZAN st) (ZAK st) (ZAB st) (.ref T) kV doc pm an cdv ct) dv:=⟨⟨oc,od,T,kV,doc,pm,an,cdv,ct,osl,rfl,l,c,_,nT,t,rfl⟩,k⟩
end
structure KlD (P:Program) (w:World) (K:W.Frag) (mg:Str->Option Value) (base:Heap) (CX:CXT) (x:Str) (C:Addr) (k:Nat) (ps:List Str) (sp:Sp) (dvs:List V):Prop where
 mgC:mg x=some (.ref C)
 ex:∃ f fd ds,FnOk P w K mg base CX k f fd ps sp /\ Binds K fd ps ds /\ Vals dvs ds /\ Mk K C f
section
variable {X:Cx} {CX:CXT} {k:Nat} {ps:List Str} {sp:Sp} {dvs:List V} {E:XK} {x m:Str} {C:Addr} {p pos apos:Pos} {e o:Expr} {es:List Expr} {ta:TE} {t:TA}
theorem pe_mkD (F:KlD X.prog X.w X.K X.mg X.base CX x C k ps sp dvs) (hr:Room (k+1) X.A) (hg:Gl X x) (hx:ZAu CX X E) (ha:PA X (e::es) t) (hdb:(x == ("__debug__":Str))=false:=by decide) (he:starEach (e::es) X.env=(false,eval e X.env)::starEach es X.env:=by rfl) (hpl:(backTo pos (starEach es X.env)).any (·.1)=false:=by rfl) :
  PE X (.Call (.Name x p) (e::es) [] pos) (ZCn C sp dvs E t):=by
 obtain ⟨f,fd,ds,h1,h2,hv,h3⟩:=F.ex
 exact pe_make h3 h1 hr hg F.mgC h2 hv hx ha hdb he hpl
end
section
variable {X:Cx}
end
theorem Same.get {H H':Hp} {b:Addr} {o:HO} (s:Same H H') (h:H b=some o):H' b=some o:=s b o h
theorem newH {H:Hp} {p:Addr} (h:H p=none) (o:HO):∃ H',upd H p o=H' /\ Same H H' /\ H' p=some o:=⟨_,rfl,ZAz h o,ZAG⟩
section
variable {K:W.Frag} {a:Addr} {xs:List V} {te:TE} {Q:VK} {σ0 rest:St} {H:Hp}
end
section
variable {X:Cx} {pins:List (Addr×Obj)} {σ:St} {H:Hp} {s:Shared}
end
def Ite (K:W.Frag) (a:Addr):It :=
 ⟨fun i H=>∃ xs x,SqL K H a xs /\ xs[i]?=some x,fun i H v H'=>∃ p x,H p=none /\ (∀ xs,SqL K H a xs->xs[i]?=some x) /\ H'=upd H p (.tup [.int i,x]) /\ v=.ref p,fun i H=>∃ xs,SqL K H a xs /\ xs.length <= i⟩
section
variable {X:Cx}
def iEnum (K:W.Frag) (ta:TA):TI:=fun σ H R=>ta σ H fun vs H1=>∃ a,vs=[.ref a] /\ (∃ xs,SqL K H1 a xs) /\ R (Ite K a) H1
end
section
variable {K:W.Frag} {a:Addr} {xs:List V} {g:TG} {tb:TS} {D:Ends} {σ:St} {H:Hp}
def forE (K:W.Frag) (g:TG) (tb:TS) (D:Ends) (σ:St) (x:V) (H1:Hp):Prop:=∃ a,[x]=[.ref a] /\ (∃ xs,SqL K H1 a xs) /\ ∃ W:Nat->Nat->St->Hp->Prop,(∃ m,W 0 m σ H1) /\ ∀ i m σ H,W i m σ H ->
 ((Ite K a).stop i H /\ D.nx σ H)∨((Ite K a).go i H /\ ∃ N:St->Hp->Prop,(∀ σ' H',N σ' H'->∃ m',m' < m /\ W (i+1) m' σ' H') /\ ∀ x H',(Ite K a).yld i H x H'->g x σ H' fun σ2 H2=>tb { D with nx:=N,ct:=N,bk:=D.nx } σ2 H2)
theorem tForE_eq {t:TE}:tFor (iEnum K (ZBc t tNil)) g tb D σ H=t σ H (fun x H1=>forE K g tb D σ x H1):=rfl
variable {tt:TT} {te:TE} {Q:VK} {σ0:St}
def compE (K:W.Frag) (g:TG) (tt:TT) (te:TE) (σ0:St) (Q:VK) (x:V) (H1:Hp):Prop:=∃ a,[x]=[.ref a] /\ (∃ xs,SqL K H1 a xs) /\ ∃ W:Nat->Nat->List V->St->Hp->Prop,(∃ m,W 0 m [] σ0 H1) /\ ∀ i m ys σ H,W i m ys σ H ->
 ((Ite K a).stop i H /\ ys.length <= sizeLine /\ ∀ p,H p=none->Q (.ref p) (upd H p (.lst ys))) ∨
 ((Ite K a).go i H /\ ys.length < sizeLine /\ ∀ x H',(Ite K a).yld i H x H'->g x σ H' fun σ2 H2=>tt σ2 H2 fun b H3=>if b=true then te σ2 H3 fun y H4=>∃ m',m' < m /\ W (i+1) m' (ys++[y]) σ2 H4 else ∃ m',m' < m /\ W (i+1) m' ys σ2 H3)
theorem tCompE_eq {k:Nat} {js:List Nat} {t:TE}:ZCj k js (iEnum K (ZBc t tNil)) g tt te σ H Q=t σ H (fun x H1=>compE K g tt te (up k js σ) Q x H1):=rfl
end
abbrev FZ (o:Obj):HO:=.frz o (.ext fun _=>True)
theorem ZCw {P:Program} {w:World} {H:Hp} {h:Heap} {a:Addr} {o:Obj} (e:h.get? a=some o):ObjOk P w H h a (FZ o):=⟨e,trivial,⟨o,e⟩,fun _ _ _ _=>trivial⟩
theorem ZB6 {P:Program} {w:World} {H:Hp} {h:Heap} {a:Addr} {o:Obj} (x:HOk P w H h) (e:H a=some (FZ o)):h.get? a=some o:=(x a _ e).1
def CodeAt (H:Hp) (c:Addr) (qual:Str):Prop:=∃ oc vs t,H c=some (FZ oc) /\ oc.data=.fields vs /\ vs[1]?=some (.str qual t)
theorem CodeAt.rec {P:Program} {w:World} {H:Hp} {h:Heap} {c:Addr} {qual:Str} (x:HOk P w H h) (k:CodeAt H c qual):h.CodeRec (.ref c) qual :=
 let ⟨oc,vs,t,e,d,v⟩:=k;⟨c,oc,vs,t,rfl,ZB6 x e,d,v⟩
structure CloL (H:Hp) (g:Addr) (iname iq:Str) (ip:Arguments) (ib:List Stmt) (isc:Scope) (fr:List Str) (cs:List V) (cl:List (Str×Addr)):Prop where
 obj:∃ (doc pm ctv:Value) (c':Addr),H g=some (FZ (PySem.W.fnMade iname iq ip ib isc cl doc pm c' ctv)) /\ CodeAt H c' iq
 keys:∀ x c,cl.lookup x=some c->x∈fr
 inj:∀ x y c,cl.lookup x=some c->cl.lookup y=some c->x=y
 cell:∀ (i:Nat) (x:Str),fr[i]?=some x->∃ v c u o,cs[i]?=some v /\ cl.lookup x=some c /\ RelV v u /\ H c=some (FZ o) /\ o.data=.cell (some u)
 len:cs.length=fr.length
def Clo (H:Hp) (g:Addr) (iname iq:Str) (ip:Arguments) (ib:List Stmt) (isc:Scope) (fr:List Str) (cs:List V):Prop:=∃ cl,CloL H g iname iq ip ib isc fr cs cl
def ZCh (H H':Hp):Prop:=∀ b o,H b=some (FZ o)->H' b=some (FZ o)
theorem CodeAt.mono {H H':Hp} {c:Addr} {q:Str} (e:ZCh H H') (k:CodeAt H c q):CodeAt H' c q:=let ⟨oc,vs,t,a,d,v⟩:=k;⟨oc,vs,t,e _ _ a,d,v⟩
theorem CloL.mono {H H':Hp} {g:Addr} {iname iq:Str} {ip:Arguments} {ib:List Stmt} {isc:Scope} {fr:List Str} {cs:List V} {cl:List (Str×Addr)} (e:ZCh H H') (k:CloL H g iname iq ip ib isc fr cs cl):CloL H' g iname iq ip ib isc fr cs cl where
 obj:=let ⟨doc,pm,ctv,c',a,b⟩:=k.obj;⟨doc,pm,ctv,c',e _ _ a,b.mono e⟩
 keys:=k.keys
 inj:=k.inj
 cell:=fun i x h=>let ⟨v,c,u,o,a1,a2,a3,a4,a5⟩:=k.cell i x h;⟨v,c,u,o,a1,a2,a3,e _ _ a4,a5⟩
 len:=k.len
theorem Clo.mono {H H':Hp} {g:Addr} {iname iq:Str} {ip:Arguments} {ib:List Stmt} {isc:Scope} {fr:List Str} {cs:List V} (e:ZCh H H') (k:Clo H g iname iq ip ib isc fr cs):Clo H' g iname iq ip ib isc fr cs:=let ⟨cl,x⟩:=k;⟨cl,x.mono e⟩
theorem CloL.inj' {H:Hp} {g:Addr} {iname iq:Str} {ip:Arguments} {ib:List Stmt} {isc:Scope} {fr:List Str} {cs cs':List V} {cl cl':List (Str×Addr)} (k:CloL H g iname iq ip ib isc fr cs cl) (k':CloL H g iname iq ip ib isc fr cs' cl'):cs=cs':=by
 obtain ⟨d1,p1,t1,c1,e1,_⟩:=k.obj
 obtain ⟨d2,p2,t2,c2,e2,_⟩:=k'.obj
 rw [e1] at e2
 have ecl:cl=cl':=by
  have:=Option.some.inj e2
  injection this with h1 h2
  injection h1 with h3 h4 h5
  injection h5 with h6
  injection h6
 subst ecl
 refine List.ext_getElem? fun i=>?_
 by_cases hi:i < fr.length
 .obtain ⟨v,c,u,o,a1,a2,a3,a4,a5⟩:=k.cell i _ (yAT hi)
  obtain ⟨v',c',u',o',b1,b2,b3,b4,b5⟩:=k'.cell i _ (yAT hi)
  rw [a2] at b2
  cases b2
  rw [a4] at b4
  have eo:o=o':=by
   have:=Option.some.inj b4
   injection this
  subst eo
  rw [a5] at b5
  have eu:u=u':=by injection b5 with h;injection h
  subst eu
  rw [a1,b1,a3.inj b3]
 .rw [List.getElem?_eq_none (by rw [k.len];omega),List.getElem?_eq_none (by rw [k'.len];omega)]
open Classical in
noncomputable def hid (cl:List (Str×Addr)) (H:Hp):Hp:=fun b=>if ∃ x,cl.lookup x=some b then none else H b
open Classical in
noncomputable def back (cl:List (Str×Addr)) (H H1:Hp):Hp:=fun b=>if ∃ x,cl.lookup x=some b then H b else H1 b
theorem ZCX {cl:List (Str×Addr)} {H:Hp} {x:Str} {b:Addr} (h:cl.lookup x=some b):hid cl H b=none:=by unfold hid;rw [if_pos ⟨x,h⟩]
theorem ZBv {cl:List (Str×Addr)} {H:Hp} {b:Addr} (h:¬ ∃ x,cl.lookup x=some b):hid cl H b=H b:=by unfold hid;rw [if_neg h]
theorem ZB8 {cl:List (Str×Addr)} {H H1:Hp} {x:Str} {b:Addr} (h:cl.lookup x=some b):back cl H H1 b=H b:=by unfold back;rw [if_pos ⟨x,h⟩]
theorem ZBQ {cl:List (Str×Addr)} {H H1:Hp} {b:Addr} (h:¬ ∃ x,cl.lookup x=some b):back cl H H1 b=H1 b:=by unfold back;rw [if_neg h]
theorem hid_le {cl:List (Str×Addr)} {H:Hp} {b:Addr} {o:HO} (h:hid cl H b=some o):H b=some o:=by
 by_cases q:∃ x,cl.lookup x=some b
 .obtain ⟨x,q⟩:=q;rw [ZCX q] at h;cases h
 .rw [ZBv q] at h;exact h
def ZDF (cl:List (Str×Addr)) (H:Hp):Prop:=∀ x c,cl.lookup x=some c->∃ u o,H c=some (FZ o) /\ o.data=.cell u
theorem CloL.cells {H:Hp} {g:Addr} {iname iq:Str} {ip:Arguments} {ib:List Stmt} {isc:Scope} {fr:List Str} {cs:List V} {cl:List (Str×Addr)} (k:CloL H g iname iq ip ib isc fr cs cl):ZDF cl H:=fun x c h=>by
 obtain ⟨i,hi⟩:=List.getElem?_of_mem (k.keys x c h)
 obtain ⟨v,c2,u,o,_,h2,_,h4,h5⟩:=k.cell i x hi
 rw [h] at h2
 cases h2
 exact ⟨_,o,h4,h5⟩
theorem ZBH {cl:List (Str×Addr)} {H:Hp} {b:Addr} {o:HO} (C:ZDF cl H) (h:H b=some o) (n:∀ ob,o≠FZ ob):hid cl H b=some o:=by
 rw [ZBv,h]
 rintro ⟨x,q⟩
 obtain ⟨u,ob,e,_⟩:=C x b q
 rw [h] at e
 exact n ob (Option.some.inj e)
theorem hid_none {cl:List (Str×Addr)} {H:Hp} {b:Addr} (C:ZDF cl H) (h:hid cl H b=none) (n:¬ ∃ x,cl.lookup x=some b):H b=none:=by rw [ZBv n] at h;exact h
theorem back_upd {cl:List (Str×Addr)} {H H1:Hp} {l:Addr} {o:HO} (n:¬ ∃ x,cl.lookup x=some l):back cl H (upd H1 l o)=upd (back cl H H1) l o:=by
 funext b
 by_cases q:∃ x,cl.lookup x=some b
 .have:b≠l:=fun e=>n (e ▸ q)
  obtain ⟨x,q⟩:=q
  rw [ZB8 q,ZAC this,ZB8 q]
 .rw [ZBQ q]
  by_cases e:b=l
  .subst e;rw [ZAG,ZAG]
  .rw [ZAC e,ZAC e,ZBQ q]
theorem back_hid {cl:List (Str×Addr)} {H:Hp}:back cl H (hid cl H)=H:=by
 funext b
 by_cases q:∃ x,cl.lookup x=some b
 .obtain ⟨x,q⟩:=q;rw [ZB8 q]
 .rw [ZBQ q,ZBv q]
def NoC (cl:List (Str×Addr)) (H:Hp):Prop:=∀ x c,cl.lookup x=some c->H c=none
structure CloScope (N ps fr:List Str) (sc:Scope):Prop where
 kind:sc.kind=.function
 co:sc.isCoroutine=false
 gen:sc.isGenerator=false
 nd:N.Nodup
 pre:N.take ps.length=ps
 suf:N.drop (N.length-fr.length)=fr
 two:ps.length+fr.length <= N.length
 par:∀ x∈ps,sc.names.lookup x=some .local
 nocell:∀ y∈sc.names,y.2≠.cell
 free:∀ x∈fr,sc.names.lookup x=some .free
 only:∀ x,sc.names.lookup x=some .free->x∈fr
def ZBY (N:List Str) (vs cs:List V):St:=vs.map some++(List.replicate (N.length-vs.length-cs.length) none++cs.map some)
def ZCk (P:Program) (w:World) (K:W.Frag) (mg:Str->Option Value) (base:Heap) (N:List Str) (qual:Str) (scope:Scope) (f:Addr) (cd:Value) (cl:List (Str×Addr)) (A:Around) (outer:List Env) (s:Shared) (H:Hp):Cx where
 prog:=P
 w:=w
 K:=K
 mg:=mg
 base:=base
 A:=A.deeper (PySem.W.envX qual scope s.heap.objs.size f cd cl)
 N:=N
 s₀:=s
 H₀:=H
 env:=PySem.W.envX qual scope s.heap.objs.size f cd cl
 outer:=outer
 stack:=PySem.W.envX qual scope s.heap.objs.size f cd cl::outer
 ex:=[]
 calm:=true
 fn:=fun _=>false
 pn:=[]
 xe:=fun _ _=>False
theorem startC_get {N:List Str} {vs cs:List V} {i:Nat} {v:V} (hl:vs.length+cs.length <= N.length) (h:(ZBY N vs cs)[i]?=some (some v)) :
  vs[i]?=some v∨(N.length-cs.length <= i /\ cs[i-(N.length-cs.length)]?=some v):=by
 unfold ZBY at h
 by_cases h1:i < vs.length
 .rw [yAV (by simpa using h1),yAX] at h
  cases e:vs[i]? with
  | none=>rw [e] at h;cases h
  | some a=>rw [e] at h;cases h;exact .inl rfl
 .rw [yBB (by simpa using Nat.le_of_not_lt h1),yAP] at h
  by_cases h2:i-vs.length < N.length-vs.length-cs.length
  .rw [yAV (by simpa using h2),List.getElem?_replicate,if_pos h2] at h
   cases h
  .rw [yBB (by simpa using Nat.le_of_not_lt h2),yBF,yAX] at h
   right
   refine ⟨by omega,?_⟩
   rw [show i-(N.length-cs.length)=i-vs.length-(N.length-vs.length-cs.length) by omega]
   cases e:cs[i-vs.length-(N.length-vs.length-cs.length)]? with
   | none=>rw [e] at h;cases h
   | some a=>rw [e] at h;cases h;rfl
theorem zip_fst_sub:∀ (ps:List Str) (us:List Value),((ps.zip us).map (·.1)).Sublist ps
 | [],_=>by simp
 | p::ps,[]=>by simp
 | p::ps,u::us=>by rw [List.zip_cons_cons,yAO];exact (zip_fst_sub ps us).cons₂ p
theorem lookup_nodup {α:Type}:∀ {cs:List (Str×α)} {n:Str} {c:α},(cs.map (·.1)).Nodup->(n,c)∈cs->cs.lookup n=some c
 | (m,d)::r,n,c,hn,h=>by
  rw [yAO] at hn
  have hn':=yAQ.mp hn
  rw [yAY]
  rcases yAA.mp h with e | h
  .cases e;simp
  .have:n≠m:=fun z=>hn'.1 (z ▸ List.mem_map_of_mem (f:=(·.1)) h)
   have:(n == m)=false:=by simpa using this
   rw [this]
   exact lookup_nodup hn'.2 h
theorem zip_lookup {ps:List Str} {us:List Value} (nd:ps.Nodup) {i:Nat} {x:Str} {u:Value} (h1:ps[i]?=some x) (h2:us[i]?=some u):((ps.zip us).reverse).lookup x=some u:=by
 have hm:(x,u)∈(ps.zip us).reverse:=by
  rw [List.mem_reverse]
  refine yBC (i:=i) ?_
  rw [List.getElem?_zip_eq_some]
  exact ⟨h1,h2⟩
 have hnd:((ps.zip us).reverse.map (·.1)).Nodup:=by
  rw [List.map_reverse]
  exact List.pairwise_reverse.mpr (List.Pairwise.imp (fun h=>Ne.symm h) (nd.sublist (zip_fst_sub ps us)))
 exact lookup_nodup hnd hm
section
variable {P:Program} {w:World} {K:W.Frag} {mg:Str->Option Value} {base:Heap} {A:Around} {outer:List Env} {s:Shared} {H:Hp} {g:Addr} {iname iq:Str} {ip:Arguments} {ib:List Stmt} {isc:Scope} {N ps fr:List Str} {cs vs:List V} {us:List Value} {cl:List (Str×Addr)} {k:Nat}
theorem clo_call {Q:VK} (C:CloL H g iname iq ip ib isc fr cs cl) (S:CloScope N ps fr isc) (hr:Room (k+1) A) (e0:Env0 P w K mg base A outer s H) (hl:vs.length=ps.length) (r:Vals vs us)
  (hbind:∀ (doc pm ctv:Value) (c':Addr),bindArgs (PySem.W.fnX iname iq ip ib isc cl .none .none doc pm none (.ref c') ctv) ⟨us,[]⟩=pure (ps.zip us))
  (hbody:∀ (cd:Value) (A':Around),Room k A'->∃ t,PSs (ZCk P w K mg base N iq isc g cd cl A outer s (hid cl H)) ib t /\ t { nx:=fun _ H'=>NoC cl H'->Q .non (back cl H H'),rt:=fun v H'=>NoC cl H'->Q v (back cl H H') } (ZBY N vs cs) (hid cl H)) :
  codeAny (model P w) A (.call (.ref g) ⟨us,[]⟩) (fun r s'=>match r with | .ok (.ret u)=>CE outer P w H s Q u s' | _=>False) s:=by
 obtain ⟨doc,pm,ctv,c',hg,hc⟩:=C.obj
 have hget:=ZB6 e0.hok hg
 have lim:s.heap.NoLimit:=e0.mod.nolimit.keeps fun b o e=>(e0.bs b o e).1
 have hnd:ps.Nodup:=by rw [<- S.pre];exact S.nd.sublist (List.take_sublist _ _)
 refine codeAny_call_def (o:=PySem.W.fnMade iname iq ip ib isc cl doc pm c' ctv) (fd:=PySem.W.fnX iname iq ip ib isc cl .none .none doc pm none (.ref c') ctv) (body:=ib) (binds:=ps.zip us) hr.depth hget rfl lim (hc.rec e0.hok) rfl (.of_eq (hbind doc pm ctv c')) S.nocell (fun y hy=>S.par _ (yBE hy).1) (fun h₁ hns hk₁=>?_) S.co S.gen S.kind
 obtain ⟨t,ht,hq⟩:=hbody (.ref c') _ (hr.deeper (PySem.W.envX iq isc s.heap.objs.size g (.ref c') cl))
 have cellAt:∀ x c,cl.lookup x=some c->∃ o u,H c=some (FZ o) /\ s.heap.get? c=some o /\ o.data=.cell u:=fun x c h=>by
  obtain ⟨u,o,e,d⟩:=C.cells x c h
  exact ⟨o,u,e,ZB6 e0.hok e,d⟩
 have cfs:∀ x c,cl.lookup x=some c->c∉frs outer:=fun x c h hb=>by
  obtain ⟨o,u,e,_⟩:=cellAt x c h
  rw [e0.frf c hb] at e;cases e
 have hpl:ps.length <= N.length:=by have:=S.two;omega
 have I:Inv (ZCk P w K mg base N iq isc g (.ref c') cl A outer s (hid cl H)) [] (ZBY N vs cs) (hid cl H) { s with heap:=h₁,toks:=s.toks+(ps.zip us).length }:=by
  refine ⟨⟨e0.mod,S.kind,rfl,rfl,yAB _,C.inj,fun x hx=>?_,fun y c h=>absurd h (by simp [ZCk]),fun _=>hr.hd,Around.frames_deeper e0.frames,.inr ⟨rfl,rfl⟩,fun b z=>absurd (show b∈([]:List Addr) from z) (by simp),fun b o e=>?_,e0.bsz,fun b _ _ z=>absurd (show b∈([]:List Addr) from z) (by simp),fun b z=>absurd (show b∈([]:List Addr) from z) (by simp),e0.funs,fun b hb=>?_⟩,
   rfl,e0.bare,Un.kept hk₁,⟨_,hns,fun i x v h1 h2 h3=>?_⟩,fun x c h=>?_,?_,fun x c h=>ZCX h,fun p hp=>absurd (show p∈([]:List (Addr×Obj)) from hp) (by simp),?_,?_⟩
  .have hx:isc.names.lookup x=some .cell∨isc.names.lookup x=some .free:=hx
   rcases hx with hx | hx
   .exact absurd rfl (S.nocell _ (PySem.mem_of_lookup hx))
   .obtain ⟨i,hi⟩:=List.getElem?_of_mem (S.only x hx)
    obtain ⟨v,c,u,o,_,h2,_⟩:=C.cell i x hi
    exact ⟨c,h2⟩
  .refine ⟨(e0.bs b o e).1,?_⟩
   show hid cl H b=none
   by_cases q:∃ x,cl.lookup x=some b
   .obtain ⟨x,q⟩:=q;exact ZCX q
   .rw [ZBv q];exact (e0.bs b o e).2
  .show hid cl H b=none
   rw [ZBv]
   .exact e0.frf b hb
   .rintro ⟨x,q⟩;exact cfs x b q hb
  .have h1:N[i]?=some x:=h1
   have hcl:=C.len
   rcases startC_get (by rw [hl,hcl];exact S.two) h2 with h4 | ⟨h4,h5⟩
   .obtain ⟨u,hu,rv⟩:=r.get h4
    have hi:i < vs.length:=(yAR.mp h4).1
    have hp:ps[i]?=some x:=by rw [<- S.pre,List.getElem?_take_of_lt (by omega)];exact h1
    exact ⟨u,rv,.inl ⟨S.par x (yBC hp),zip_lookup hnd hp hu⟩⟩
   .have hf:fr[i-(N.length-cs.length)]?=some x:=by
     rw [<- S.suf,List.getElem?_drop,<- hcl,show N.length-cs.length+(i-(N.length-cs.length))=i by omega]
     exact h1
    obtain ⟨v',c,u,o,a1,a2,a3,a4,a5⟩:=C.cell _ x hf
    rw [h5] at a1
    cases a1
    refine ⟨u,a3,.inr ⟨.inr (S.free x (yBC hf)),c,a2,o,hk₁ _ _ (ZB6 e0.hok a4),a5⟩⟩
  .obtain ⟨o,u,e,e2,d⟩:=cellAt x c h
   exact ⟨u,o,hk₁ _ _ e2,d⟩
  .show hid cl H s.heap.objs.size=none
   have hn:=e0.hok.fresh (yAB _)
   rw [ZBv]
   .exact hn
   .rintro ⟨x,q⟩
    obtain ⟨o,u,e,_⟩:=cellAt x _ q
    rw [hn] at e;cases e
  .intro b o e
   have e':=hid_le e
   refine (e0.hok b o e').stay (fun c v _ q=>hk₁ c v q) (fun c q=>?_) fun c xs q=>?_
   .exact ZBH C.cells q (fun ob z=>by cases z)
   .exact ZBH C.cells q (fun ob z=>by cases z)
  .unfold ZBY
   show _=N.length
   have:=S.two
   have:=C.len
   simp only [yAJ,yAP,yBF]
   omega
 refine wpAny_mono (ht [] _ (ZBY N vs cs) (hid cl H) _ I hq) (fun fl s' hs=>?_) fun e s' hs=>False.elim hs
 have fin:∀ {σ':St} {H':Hp} {v:V} {u:Value},Inv (ZCk P w K mg base N iq isc g (.ref c') cl A outer s (hid cl H)) [] σ' H' s'->RelV v u->(NoC cl H'->Q v (back cl H H'))->CE outer P w H s Q u s' :=
  fun {σ' H' v u} J rv q=>by
   have un:Un (frs outer) [] (hid cl H) H' s.heap s'.heap:=J.base
   have nex:∀ b:Addr,b∉([]:List Addr):=fun b=>by simp
   have keepC:∀ x c o,cl.lookup x=some c->s.heap.get? c=some o->s'.heap.get? c=some o:=fun x c o h e=>un.keep c o e (ZCX h) (cfs x c h) (nex c)
   have freeC:∀ x c,cl.lookup x=some c->H' c=none:=fun x c h=>by
    obtain ⟨o,u,e,e2,d⟩:=cellAt x c h
    exact un.free c o e2 (ZCX h) (nex c)
   refine ⟨v,back cl H H',J.os,J.bare,⟨fun b o e n hb hx=>?_,fun b o e n hb hx=>?_,fun b o e n hx=>?_,un.there,fun b xs e=>?_,fun b o u' e=>?_,fun b ps' e=>?_⟩,fun b o e=>?_,rv,q freeC⟩
   .refine un.keep b o e ?_ hb hx
    by_cases q:∃ x,cl.lookup x=some b
    .obtain ⟨x,q⟩:=q;exact ZCX q
    .rw [ZBv q];exact n
   .refine un.slot b o e ?_ hb hx
    by_cases q:∃ x,cl.lookup x=some b
    .obtain ⟨x,q⟩:=q;exact ZCX q
    .rw [ZBv q];exact n
   .have nc:¬ ∃ x,cl.lookup x=some b:=by
     rintro ⟨x,q⟩
     obtain ⟨o,u,e,_⟩:=cellAt x b q
     rw [n] at e;cases e
    rw [ZBQ nc]
    exact un.free b o e (by rw [ZBv nc];exact n) hx
   .have e2:=un.tups b xs (ZBH C.cells e (fun ob z=>by cases z))
    rw [ZBQ]
    .exact e2
    .rintro ⟨x,q⟩;rw [freeC x b q] at e2;cases e2
   .by_cases q:∃ x,cl.lookup x=some b
    .obtain ⟨x,q⟩:=q;rw [ZB8 q];exact e
    .rw [ZBQ q];exact un.frzs b o u' (by rw [ZBv q];exact e)
   .obtain ⟨more,e2⟩:=un.tbls b ps' (ZBH C.cells e (fun ob z=>by cases z))
    refine ⟨more,?_⟩
    rw [ZBQ]
    .exact e2
    .rintro ⟨x,q⟩;rw [freeC x b q] at e2;cases e2
   .have up:∀ c oc,H' c=some oc->back cl H H' c=some oc:=fun c oc q=>by
     rw [ZBQ]
     .exact q
     .rintro ⟨x,z⟩;rw [freeC x c z] at q;cases q
    by_cases q:∃ x,cl.lookup x=some b
    .obtain ⟨x,q⟩:=q
     rw [ZB8 q] at e
     obtain ⟨o2,u2,e2,e3,d⟩:=cellAt x b q
     rw [e] at e2
     cases e2
     exact ZCw (keepC x b _ q e3)
    .rw [ZBQ q] at e
     exact (J.hok b o e).stay (fun c v _ q=>q) (fun c q=>up c _ q) fun c xs q=>up c _ q
 cases fl with
 | ret u=>
  obtain ⟨v,σ',H',J,rv,q⟩:=hs
  exact fin J rv q
 | next=>
  obtain ⟨σ',H',J,q⟩:=hs
  exact fin (v:=V.non) (u:=Value.none) J rfl q
 | brk=>
  obtain ⟨_,_,_,q⟩:=hs
  exact False.elim q
 | cont=>
  obtain ⟨_,_,_,q⟩:=hs
  exact False.elim q
end
def ZCo (r:V->List V->Hp->VK->Prop) (ta:TE) (t:TA):TE:=fun σ H Q=>ta σ H fun f H1=>(∃ g o,f=.ref g /\ H1 g=some (FZ o) /\ ∃ fd,o.data=.func fd) /\ t σ H1 fun vs H2=>r f vs H2 Q
def CloR (X:Cx) (r:V->List V->Hp->VK->Prop):Prop :=
 ∀ (pins:List (Addr×Obj)) (s:Shared) (σ:St) (H:Hp) (f:Addr) (vs:List V) (us:List Value) (Q:VK),Inv X pins σ H s->Vals vs us->r (.ref f) vs H Q ->
  PySem.W.FnAt f s.heap /\ wpAny (model X.prog X.w) X.A (call (.ref f) us) (EP X pins σ Q) X.xe s
theorem fnAt_of {h:Heap} {g:Addr} {o:Obj} {fd:FuncData} (e:h.get? g=some o) (d:o.data=.func fd):PySem.W.FnAt g h:=by
 obtain ⟨oc,od,dt,sl⟩:=o
 have d':dt=.func fd:=d
 subst d'
 exact ⟨oc,od,fd,sl,e⟩
theorem pe_callV {X:Cx} {x:Str} {p pos:Pos} {e:Expr} {es:List Expr} {ta:TE} {t:TA} {r:V->List V->Hp->VK->Prop} (hc:CloR X r) (hx:PE X (.Name x p) ta) (ha:PA X (e::es) t)
  (he:starEach (e::es) X.env=(false,eval e X.env)::starEach es X.env:=by rfl) (hpl:(backTo pos (starEach es X.env)).any (·.1)=false:=by rfl):PE X (.Call (.Name x p) (e::es) [] pos) (ZCo r ta t):=by
 intro pins s σ H Q I h
 refine wpAny_Call_Name_kw (thn (hx pins s σ H _ I h) fun v s1 ⟨f,H1,I1,rf,⟨g,o,eg,hg,fd,hd⟩,q⟩=>?_)
 subst eg
 cases rf
 refine PySem.W.callWith_F (fnAt_of (ZB6 I1.hok hg) hd) (thn (ha pos pins s1 σ H1 _ I1 q) fun us s2 ⟨vs,H2,I2,r2,q2⟩=>?_) he hpl
 exact hc pins s2 σ H2 g vs us Q I2 r2 q2
structure CloOk (P:Program) (w:World) (K:W.Frag) (mg:Str->Option Value) (base:Heap) (k:Nat) (r:V->List V->Hp->VK->Prop):Prop where
 run:∀ (A:Around) (outer:List Env) (s:Shared) (H:Hp) (f:Addr) (vs:List V) (us:List Value) (Q:VK),Room k A->Env0 P w K mg base A outer s H->Vals vs us->r (.ref f) vs H Q ->
  PySem.W.FnAt f s.heap /\ codeAny (model P w) A (.call (.ref f) ⟨us,[]⟩) (fun r s'=>match r with | .ok (.ret u)=>CE outer P w H s Q u s' | _=>False) s
theorem CloOk.at {X:Cx} {k:Nat} {r:V->List V->Hp->VK->Prop} (C:CloOk X.prog X.w X.K X.mg X.base k r) (hr:Room k X.A):CloR X r:=by
 intro pins s σ H f vs us Q I rv h
 obtain ⟨h1,h2⟩:=C.run X.A X.stack s H f vs us Q hr I.env0 rv h
 refine ⟨h1,wpAny_call (codeAny_mono h2 fun r s' hq=>?_)⟩
 cases r with
 | error e=>exact False.elim hq
 | ok fl=>
  cases fl with
  | ret u=>exact I.after hq
  | next=>exact False.elim hq
  | brk=>exact False.elim hq
  | cont=>exact False.elim hq
theorem Clo.fnAt {P:Program} {w:World} {H:Hp} {h:Heap} {g:Addr} {iname iq:Str} {ip:Arguments} {ib:List Stmt} {isc:Scope} {fr:List Str} {cs:List V} {cl:List (Str×Addr)} (x:HOk P w H h) (C:CloL H g iname iq ip ib isc fr cs cl):PySem.W.FnAt g h:=by
 obtain ⟨doc,pm,ctv,c',e,_⟩:=C.obj
 exact fnAt_of (ZB6 x e) rfl
theorem clo_of {P:Program} {w:World} {K:W.Frag} {mg:Str->Option Value} {base:Heap} {iname iq:Str} {ip:Arguments} {ib:List Stmt} {isc:Scope} {N ps fr:List Str} {k:Nat} {r:V->List V->Hp->VK->Prop} (S:CloScope N ps fr isc)
  (hcl:∀ f vs H Q,r f vs H Q->∃ g cs,f=.ref g /\ Clo H g iname iq ip ib isc fr cs) (len:∀ f vs H Q,r f vs H Q->vs.length=ps.length)
  (hbind:∀ (cl:List (Str×Addr)) (doc pm ctv:Value) (c':Addr) (us:List Value),us.length=ps.length->bindArgs (PySem.W.fnX iname iq ip ib isc cl .none .none doc pm none (.ref c') ctv) ⟨us,[]⟩=pure (ps.zip us))
  (hbody:∀ (g:Addr) (cs:List V) (cl:List (Str×Addr)) (cd:Value) (A:Around) (outer:List Env) (s:Shared) (H:Hp) (vs:List V) (Q:VK),Room k (A.deeper (PySem.W.envX iq isc s.heap.objs.size g cd cl))->CloL H g iname iq ip ib isc fr cs cl->r (.ref g) vs H Q ->
   ∃ t,PSs (ZCk P w K mg base N iq isc g cd cl A outer s (hid cl H)) ib t /\ t { nx:=fun _ H'=>NoC cl H'->Q .non (back cl H H'),rt:=fun v H'=>NoC cl H'->Q v (back cl H H') } (ZBY N vs cs) (hid cl H)):CloOk P w K mg base (k+1) r:=by
 refine ⟨fun A outer s H f vs us Q hr e0 rv h=>?_⟩
 obtain ⟨g,cs,eg,cl,C⟩:=hcl _ _ _ _ h
 cases eg
 have hl:=len _ _ _ _ h
 refine ⟨Clo.fnAt e0.hok C,clo_call (k:=k) C S hr e0 hl rv (fun doc pm ctv c'=>hbind cl doc pm ctv c' us (by rw [<- rv.length];exact hl)) fun cd A' hr'=>?_⟩
 exact hbody f cs cl cd A outer s H vs Q (hr.deeper _) C h
theorem NoC.ne {cl:List (Str×Addr)} {H:Hp} {b:Addr} {o:HO} (n:NoC cl H) (h:H b=some o):¬ ∃ x,cl.lookup x=some b:=fun ⟨x,e⟩=>by rw [n x b e] at h;cases h
def TabSt (H:Hp) (Pt:Addr) (pos:Pos) (iq:Str):Prop:=H Pt=some (.tbl #[])∨∃ c',H Pt=some (.tbl #[rawInt pos.line,rawInt pos.col,.ref c']) /\ CodeAt H c' iq
theorem TabSt.mono {H H':Hp} {Pt:Addr} {pos:Pos} {iq:Str} (e:H' Pt=H Pt) (f:ZCh H H') (k:TabSt H Pt pos iq):TabSt H' Pt pos iq:=by
 rcases k with k | ⟨c',k,q⟩
 .exact .inl (e.trans k)
 .exact .inr ⟨c',e.trans k,q.mono f⟩
def ZCS (mg:Str->Option Value) (h:Heap):Prop:=∃ bm ob,mg "__builtins__"=some (.ref bm) /\ bm≠builtinsNs /\ h.get? bm=some ob /\ ob.cls=.type "module" /\ ob.dict=some builtinsNs /\ ob.data=.plain
structure MadeDef (H H':Hp) (Pt:Addr) (pos:Pos) (g:Addr) (iname iq:Str) (ip:Arguments) (ib:List Stmt) (isc:Scope) (fr:List Str) (cs:List V):Prop where
 same:∀ b o,b≠Pt->H b=some o->H' b=some o
 tab:TabSt H' Pt pos iq
 clo:Clo H' g iname iq ip ib isc fr cs
 fresh:H g=none
section
variable {X:Cx} {pins:List (Addr×Obj)} {σ:St} {H:Hp} {s:Shared}
structure MadeMid (H H':Hp) (Pt:Addr) (pos:Pos) (g:Addr) (iname iq:Str) (ip:Arguments) (ib:List Stmt) (isc:Scope) (cl:List (Str×Addr)):Prop where
 same:∀ b o,b≠Pt->H b=some o->H' b=some o
 tab:TabSt H' Pt pos iq
 obj:∃ (doc pm ctv:Value) (c':Addr),H' g=some (FZ (PySem.W.fnMade iname iq ip ib isc cl doc pm c' ctv)) /\ CodeAt H' c' iq
 fresh:H g=none
theorem Inv.made3 (I:Inv X pins σ H s) {Pt c':Addr} {ps more:Array Value} {h':Heap} {oc fo:Obj} {tk:Nat} (hP:H Pt=some (.tbl ps)) (hx:Heap.ExtBut Pt s.heap h') (hge:s.heap.objs.size <= c') (hlt:c' < h'.objs.size) (hoc:h'.get? c'=some oc)
  (hPt:h'.get? Pt=some (PySem.W.tabObj (ps++more))) (hfo:fo.isFreed=false):Inv X pins σ (upd (upd (upd H Pt (.tbl (ps++more))) c' (FZ oc)) h'.objs.size (FZ fo)) { s with heap:=h'.push fo,toks:=tk }:=by
 have gn:∀ b o,s.heap.get? b=some o->b≠h'.objs.size /\ b≠c':=fun b o e=>by
  have l:=Heap.lt_size e
  exact ⟨yAD (Nat.lt_trans (yAG l hge) hlt),yAD (yAG l hge)⟩
 have gt:∀ b o,H b=some o->b≠h'.objs.size /\ b≠c':=fun b o e=>by
  have l:=I.hok.lt e
  exact ⟨yAD (Nat.lt_trans (yAG l hge) hlt),yAD (yAG l hge)⟩
 have np:∀ b,H b=none->b≠Pt:=fun b n z=>by rw [z,hP] at n;cases n
 have cg:c'≠h'.objs.size:=yAD hlt
 have old:∀ b o,b≠Pt->H b=some o->upd (upd (upd H Pt (.tbl (ps++more))) c' (FZ oc)) h'.objs.size (FZ fo) b=some o:=fun b o n e=>by
  rw [ZAC (gt b o e).1,ZAC (gt b o e).2,ZAC n];exact e
 have atP:upd (upd (upd H Pt (.tbl (ps++more))) c' (FZ oc)) h'.objs.size (FZ fo) Pt=some (.tbl (ps++more)):=by
  rw [ZAC (gt Pt _ hP).1,ZAC (gt Pt _ hP).2,ZAG]
 refine I.un (h':=h'.push fo) (t':=tk) ⟨fun b o e n _ _=>?_,fun b o e n _ _=>?_,fun b o e n _=>?_,fun b o e _=>?_,fun b xs e=>?_,fun b o u e=>?_,fun b qs e=>?_⟩ fun b o e=>?_
 .exact Heap.get?_push_of_some _ (hx b o (np b n) e)
 .exact ⟨o.slots,Heap.get?_push_of_some _ (hx b o (np b n) e)⟩
 .rw [ZAC (gn b o e).1,ZAC (gn b o e).2,ZAC (np b n)];exact n
 .by_cases q:b=Pt
  .subst q;exact ⟨_,Heap.get?_push_of_some _ hPt⟩
  .exact ⟨o,Heap.get?_push_of_some _ (hx b o q e)⟩
 .exact old b _ (fun z=>by rw [z,hP] at e;cases e) e
 .exact old b _ (fun z=>by rw [z,hP] at e;cases e) e
 .by_cases q:b=Pt
  .subst q
   rw [hP] at e
   cases e
   exact ⟨more,atP⟩
  .exact ⟨#[],by rw [old b _ q e];simp⟩
 .by_cases q1:b=h'.objs.size
  .subst q1;rw [ZAG] at e;cases e;exact ZCw (Heap.get?_push_size _ hfo)
  .rw [ZAC q1] at e
   by_cases q2:b=c'
   .subst q2;rw [ZAG] at e;cases e;exact ZCw (Heap.get?_push_of_some _ hoc)
   .rw [ZAC q2] at e
    by_cases q3:b=Pt
    .subst q3;rw [ZAG] at e;cases e;exact Heap.get?_push_of_some _ hPt
    .rw [ZAC q3] at e
     refine (I.hok b o e).stay (fun c u hc q=>?_) (fun c q=>?_) fun c xs q=>?_
     .refine Heap.get?_push_of_some _ (hx c u ?_ q)
      rcases hc with z | z
      .rw [z];exact q3
      .intro z2;rw [z2,hP] at z;cases z
     .exact old c _ (fun z=>by rw [z,hP] at q;cases q) q
     .exact old c _ (fun z=>by rw [z,hP] at q;cases q) q
theorem Inv.made1 (I:Inv X pins σ H s) {h':Heap} {fo:Obj} {tk:Nat} (hk:∀ b o,s.heap.get? b=some o->h'.get? b=some o) (hsz:s.heap.objs.size <= h'.objs.size) (hfo:fo.isFreed=false):Inv X pins σ (upd H h'.objs.size (FZ fo)) { s with heap:=h'.push fo,toks:=tk } :=
 I.laid (fun b u q=>Heap.get?_push_of_some _ (hk b u q)) hsz (ZCw (Heap.get?_push_size _ hfo))
def tDef (i:Nat) (Pt:Addr) (pos:Pos) (iname iq:Str) (ip:Arguments) (ib:List Stmt) (isc:Scope) (cl:List (Str×Addr)):TS:=fun D σ H=>TabSt H Pt pos iq /\ ∀ g H',MadeMid H H' Pt pos g iname iq ip ib isc cl->D.nx (σ.set i (some (.ref g))) H'
theorem ps_def {i:Nat} {Pt c:Addr} {pos:Pos} {iname iq:Str} {ip:Arguments} {ib:List Stmt} {isc:Scope} (hN:X.N.Nodup) (hi:X.N[i]?=some iname) (hx:Loc X.env.scope iname) (hf:X.fn iname=true∨X.env.scope.names.lookup iname=some .local)
  (hcode:X.env.code=.ref c) (C:PySem.W.CodeHd X.base c Pt) (B:ZCS X.mg X.base) (hq:qualnameIn X.env iname iname=iq) (hd0:ip.defaults=[]) (hk0:ip.kw_defaults=[]) (ha:annTrees ip none X.env=[])
  (hfr:∀ x,(x,NameKind.free)∈isc.names->∃ c,X.env.cells.lookup x=some c) :
  PS X (.FunctionDef iname ip ib [] none [] isc none iname pos) (tDef i Pt pos iname iq ip ib isc (closFrom X.env.cells isc.names [])):=by
 intro pins s σ H D I h
 obtain ⟨ht,h⟩:=h
 refine PySem.W.nestDef_K hd0 hk0 ha ?_
 rw [hq]
 have hgs:=I.ok.mod.glob.keeps I.bk
 have hC:=C.keeps I.bk
 have hcl:=closureFor_eq (scope:=isc) (env:=X.env) hfr
 obtain ⟨bm,ob,b1,b2,b3,b4,b5,b6⟩:=B
 have hbG:bm≠mainGlobals:=fun q=>by
  obtain ⟨o,es,ep,e,hd,_⟩:=I.ok.mod.glob
  rw [q,e] at b3;cases b3;rw [hd] at b6;cases b6
 have apart:∀ {qs:Array Value},s.heap.get? Pt=some (PySem.W.tabObj qs)->mainGlobals≠Pt /\ s.heap.BuiltinsAt X.mg Pt:=fun {qs} hm=>by
  refine ⟨fun q=>?_,bm,ob,b1,b2,hbG,fun q=>?_,I.bk _ _ b3,b4,b5,b6⟩
  .obtain ⟨o,es,ep,e,hd,_⟩:=hgs
   rw [q,hm] at e;cases e;cases hd
  .have e:=I.bk _ _ b3
   rw [q,hm] at e;cases e;cases b4
 have fin:∀ {g:Addr} {H':Hp} {s':Shared},Inv X pins σ H' s'->MadeMid H H' Pt pos g iname iq ip ib isc (closFrom X.env.cells isc.names []) ->
   wpAny (model X.prog X.w) X.A (storeName X.env iname (.ref g)) (fun _ s''=>SP X pins D .next s'') X.xe s':=fun {g H' s'} J M=>
  ZCA J hN hi hx (v:=.ref g) rfl (fun s'' J'=>⟨_,H',J',h g H' M⟩) hf
 rcases ht with ht | ⟨c1,ht,hc1⟩
 .have hP:s.heap.get? Pt=some (PySem.W.tabObj #[]):=I.hok Pt _ ht
  obtain ⟨a1,a2⟩:=apart hP
  refine PySem.W.makeFunction_K hcl I.ok.glob hgs hcode hC hP trivial rfl a1 a2 fun c' ctv doc h' tk hx2 hge hlt hrec htb=>?_
  obtain ⟨c2,oc,vs,t,e2,hoc,hd,hv⟩:=hrec
  cases e2
  have J:=I.made3 (tk:=tk) (fo:=PySem.W.fnMade iname iq ip ib isc (closFrom X.env.cells isc.names []) doc ((X.mg "__name__").getD .none) c' ctv) ht hx2 hge hlt hoc htb rfl
  have gt:∀ b o,H b=some o->b≠h'.objs.size /\ b≠c':=fun b o e=>by
   have l:=I.hok.lt e
   exact ⟨yAD (Nat.lt_trans (yAG l hge) hlt),yAD (yAG l hge)⟩
  have hcc:CodeAt (upd (upd (upd H Pt (.tbl (#[]++#[rawInt pos.line,rawInt pos.col,.ref c']))) c' (FZ oc)) h'.objs.size (FZ (PySem.W.fnMade iname iq ip ib isc (closFrom X.env.cells isc.names []) doc ((X.mg "__name__").getD .none) c' ctv))) c' iq :=
   ⟨oc,vs,t,by rw [ZAC (yAD hlt),ZAG],hd,hv⟩
  refine fin J ⟨fun b o n e=>?_,.inr ⟨c',?_,hcc⟩,⟨doc,_,ctv,c',ZAG,hcc⟩,?_⟩
  .rw [ZAC (gt b o e).1,ZAC (gt b o e).2,ZAC n];exact e
  .rw [ZAC (gt Pt _ ht).1,ZAC (gt Pt _ ht).2,ZAG];rfl
  .exact I.hok.fresh (yAH hge (Nat.le_of_lt hlt))
 .have hP:s.heap.get? Pt=some (PySem.W.tabObj #[rawInt pos.line,rawInt pos.col,.ref c1]):=I.hok Pt _ ht
  obtain ⟨a1,a2⟩:=apart hP
  refine PySem.W.makeFunction_hit (cv:=.ref c1) hcl I.ok.glob hgs hcode hC hP trivial ?_ a2 fun ctv doc h' tk hk hsz=>?_
  .simp [codeAmong,rawInt]
  have J:=I.made1 (tk:=tk) (fo:=PySem.W.fnMade iname iq ip ib isc (closFrom X.env.cells isc.names []) doc ((X.mg "__name__").getD .none) c1 ctv) hk hsz rfl
  have gt:∀ b o,H b=some o->b≠h'.objs.size:=fun b o e=>yAD (yAG (I.hok.lt e) hsz)
  have old:∀ b o,H b=some o->upd H h'.objs.size (FZ (PySem.W.fnMade iname iq ip ib isc (closFrom X.env.cells isc.names []) doc ((X.mg "__name__").getD .none) c1 ctv)) b=some o:=fun b o e=>by rw [ZAC (gt b o e)];exact e
  have hcc:=hc1.mono (H':=upd H h'.objs.size (FZ (PySem.W.fnMade iname iq ip ib isc (closFrom X.env.cells isc.names []) doc ((X.mg "__name__").getD .none) c1 ctv))) fun b o e=>old b _ e
  exact fin J ⟨fun b o _ e=>old b o e,.inr ⟨c1,old _ _ ht,hcc⟩,⟨doc,_,ctv,c1,ZAG,hcc⟩,I.hok.fresh hsz⟩
end
def ZCc (Pt:Addr) (pos:Pos) (iname iq:Str) (ip:Arguments) (ib:List Stmt) (isc:Scope) (fr:List Str) (ix:List Nat) (n:Nat):Sp:=fun vs H Q _=>
 vs.length=n /\ TabSt H Pt pos iq /\ ∀ g H',MadeDef H H' Pt pos g iname iq ip ib isc fr (ix.map fun i=>vs.getD i .non)->Q (.ref g) H'
theorem teller_ok {P:Program} {w:World} {K:W.Frag} {mg:Str->Option Value} {base:Heap} {x qual:Str} {st:Stmt} {f c Pt:Addr} {fd:FuncData} {ps:List Str} {iname iq:Str} {ip:Arguments} {ib:List Stmt} {isc:Scope} {pos rp rpos:Pos} {fr:List Str} {ix:List Nat}
  (F:Fun K x qual st f fd) (S:FnScope (ps++[iname]) ps (ZAB st)) (hcd:fd.code=.ref c) (C:PySem.W.CodeHd base c Pt) (B:ZCS mg base)
  (hb:ZAK st=[.FunctionDef iname ip ib [] none [] isc none iname pos,.Return (some (.Name iname rp)) rpos]) (hiq:∀ L cd,qualnameIn (envOfC qual (ZAB st) L f cd) iname iname=iq) (hd0:ip.defaults=[]) (hk0:ip.kw_defaults=[]) (ha:∀ L cd,annTrees ip none (envOfC qual (ZAB st) L f cd)=[])
  (hloc:(ZAB st).names.lookup iname=some .local) (hdb:(iname == ("__debug__":Str))=false) (hcdn:(iname == ("__classdict__":Str))=false)
  (hfree:∀ y∈isc.names,y.2=.free->y.1∈fr) (hhas:∀ y∈fr,(y,NameKind.free)∈isc.names) (hfc:∀ y∈fr,(ZAB st).names.lookup y=some .cell) (hix:∀ (j:Nat) (y:Str),fr[j]?=some y->∃ i,ix[j]?=some i /\ ps[i]?=some y) (hixl:ix.length=fr.length) :
  FnOk P w K mg base CX0 1 f fd ps (ZCc Pt pos iname iq ip ib isc fr ix ps.length):=by
 obtain ⟨oc,od,kV,doc,pm,an,cdv,ct,osl,rfl,lk,hcd2⟩:=F.ex
 have hcd':cdv=.ref c:=hcd
 refine ⟨fun vs H Q E h=>h.1,fun A outer s H args us vs Q E hr e0 hbn r hsp=>?_⟩
 obtain ⟨hl,hT,hQ⟩:=hsp
 have KX:K.In s.heap:=e0.mod.kin.keeps fun b o e=>(e0.bs b o e).1
 have lim:s.heap.NoLimit:=e0.mod.nolimit.keeps fun b o e=>(e0.bs b o e).1
 have hkind:∀ y∈ps.zip us,(ZAB st).names.lookup y.1=some .local∨((ZAB st).names.lookup y.1=some .cell /\ ((cellsFrom (s.heap.objs.size+1) (ZAB st).names []).lookup y.1).isSome=true):=fun ⟨n,v⟩ hy=>by
  rcases S.par n (yBE hy).1 with q | q
  .exact .inl q
  .exact .inr ⟨q,PySem.W.cellsFrom_some _ _ _ (.inl q)⟩
 refine codeAny_call_function hr.depth (KX _ _ lk) rfl S.co S.gen rfl (PySem.W.codeRec_of KX hcd2) (hbn _ _ _ _ ?_)
 refine wpAny_newFunctionEnv_cells S.kind hkind fun env he s1 xx=>?_
 subst he
 refine ⟨lim.keeps xx.toInCall.keep,codeAny_func ?_⟩
 have I:Inv (cxOf CX0 P w K mg base (ps++[iname]) qual (ZAB st) f cdv A outer s H E).nox [] (start (ps++[iname]) vs) H s1:=(ZBu S hr.hd e0 hl r xx).wish _
 have cellHas:∀ y∈fr,∃ cc,(cellsFrom (s.heap.objs.size+1) (ZAB st).names []).lookup y=some cc:=fun y hy=>ZBm (hfc y hy)
 rw [hb]
 have hiN:(ps++[iname])[ps.length]?=some iname:=by simp
 have d1:=ps_def (X:=(cxOf CX0 P w K mg base (ps++[iname]) qual (ZAB st) f cdv A outer s H E).nox) (i:=ps.length) (pos:=pos) (Pt:=Pt) (c:=c) (iq:=iq) (ip:=ip) (ib:=ib) (isc:=isc) S.nd hiN (.inl hloc) (.inr hloc) hcd' C B (hiq _ _) hd0 hk0 (ha _ _) fun y hy=>cellHas y (hfree _ hy rfl)
 have hlen:(start (ps++[iname]) vs).length=ps.length+1:=by
  unfold start
  simp only [yAJ,yAP,yBF,yAN,yBA]
  omega
 have run:=d1 [] s1 (start (ps++[iname]) vs) H { nx:=fun σ' H'=>∃ g,σ'=(start (ps++[iname]) vs).set ps.length (some (.ref g)) /\ MadeMid H H' Pt pos g iname iq ip ib isc (closFrom (cellsFrom (s.heap.objs.size+1) (ZAB st).names []) isc.names []),rt:=fun _ _=>False } I ⟨hT,fun g H' M=>⟨g,rfl,M⟩⟩
 refine wpAny_execs_cons (wpAny_mono run (fun fl s2 q=>?_) fun e s' z=>z.elim)
 cases fl with
 | ret v=>obtain ⟨_,_,_,_,_,q⟩:=q;exact q.elim
 | brk=>obtain ⟨_,_,_,q⟩:=q;exact q.elim
 | cont=>obtain ⟨_,_,_,q⟩:=q;exact q.elim
 | next=>
  obtain ⟨σ',H',J,g,rfl,M⟩:=q
  have v1:=pe_var (pos:=rp) (X:=(cxOf CX0 P w K mg base (ps++[iname]) qual (ZAB st) f cdv A outer s H E).nox) hiN (.inl hloc) hdb hcdn [] s2 _ H' (fun v H2=>v=.ref g /\ H2=H') J ⟨.ref g,by rw [List.getElem?_set_self (by rw [hlen];omega)],rfl,rfl⟩
  refine wpAny_execs_cons (wpAny_Return_some (wpAny_mono v1 (fun u s3 q=>?_) fun e s' z=>z.elim))
  obtain ⟨v,H2,J2,rv,rfl,rfl⟩:=q
  cases rv
  have un:Un (frs outer) [] H H2 s.heap s3.heap:=J2.base
  have nex:∀ b:Addr,b∉([]:List Addr):=fun b=>by simp
  have inj:=J2.ok.inj
  have cAt:∀ (j:Nat) (y:Str),fr[j]?=some y->∃ v cc uu,(ix.map fun i=>vs.getD i .non)[j]?=some v /\ (cellsFrom (s.heap.objs.size+1) (ZAB st).names []).lookup y=some cc /\ RelV v uu /\ s3.heap.IsCell cc (some uu):=fun j y hj=>by
   obtain ⟨i,h1,h2⟩:=hix j y hj
   have hi:i < ps.length:=(yAR.mp h2).1
   obtain ⟨v,hv⟩:∃ v,vs[i]?=some v:=⟨_,yAT (by omega)⟩
   obtain ⟨m,_,hm⟩:=J2.loc
   have hs:((start (ps++[iname]) vs).set ps.length (some (.ref g)))[i]?=some (some v):=by
    rw [List.getElem?_set_ne (by omega)]
    unfold start
    rw [yAV (by rw [yAP];omega),yAX,hv]
    rfl
   have hN:(ps++[iname])[i]?=some y:=by rw [yAV hi];exact h2
   obtain ⟨uu,ru,lk2⟩:=hm i y v hN hs (.inr (.inl (hfc y (yBC hj))))
   refine ⟨v,?_⟩
   rcases lk2 with ⟨k1,_⟩ | ⟨_,cc,e1,e2⟩
   .have k2:(ZAB st).names.lookup y=some .local:=k1
    rw [hfc y (yBC hj)] at k2
    cases k2
   .refine ⟨cc,uu,?_,e1,ru,e2⟩
    rw [yAX,h1]
    show some (vs.getD i .non)=some v
    rw [List.getD_eq_getElem?_getD,hv]
    rfl
  have clk:∀ y cc,(closFrom (cellsFrom (s.heap.objs.size+1) (ZAB st).names []) isc.names []).lookup y=some cc->y∈fr /\ (cellsFrom (s.heap.objs.size+1) (ZAB st).names []).lookup y=some cc:=fun y cc h=>by
   rcases ZA2 _ _ y cc (PySem.mem_of_lookup h) with z | ⟨z1,z2⟩
   .cases z
   .have hy:=hfree _ z1 rfl
    obtain ⟨c3,h3⟩:=cellHas y hy
    rw [h3] at z2
    exact ⟨hy,by rw [h3];exact congrArg some z2.symm⟩
  have clh:∀ y cc,y∈fr->(cellsFrom (s.heap.objs.size+1) (ZAB st).names []).lookup y=some cc->(closFrom (cellsFrom (s.heap.objs.size+1) (ZAB st).names []) isc.names []).lookup y=some cc:=fun y cc hy h=>by
   obtain ⟨c3,h3⟩:=ZAv (ZA3 (cells:=cellsFrom (s.heap.objs.size+1) (ZAB st).names []) isc.names [] y (hhas y hy))
   have:=(clk y c3 h3).2
   rw [h] at this
   rw [h3,Option.some.inj this]
  have cnew:∀ y cc,(closFrom (cellsFrom (s.heap.objs.size+1) (ZAB st).names []) isc.names []).lookup y=some cc->s.heap.objs.size <= cc /\ H2 cc=none /\ ∃ o u,s3.heap.get? cc=some o /\ o.data=.cell u:=fun y cc h=>by
   obtain ⟨hy,h2⟩:=clk y cc h
   obtain ⟨u,o,e1,e2⟩:=J2.cell y cc h2
   exact ⟨Nat.le_of_lt (xx.above y cc (PySem.mem_of_lookup h2)),J2.freeC y cc h2,o,u,e1,e2⟩
  generalize closFrom (cellsFrom (s.heap.objs.size+1) (ZAB st).names []) isc.names []=cl at M clk clh cnew
  have tr:∀ b,¬ (∃ y,cl.lookup y=some b)->back cl (fun b=>(s3.heap.get? b).map FZ) H2 b=H2 b:=fun b n=>ZBQ n
  have tc:∀ y b o,cl.lookup y=some b->s3.heap.get? b=some o->back cl (fun b=>(s3.heap.get? b).map FZ) H2 b=some (FZ o):=fun y b o h e=>by rw [ZB8 h,e];rfl
  have oldn:∀ b,b < s.heap.objs.size->¬ ∃ y,cl.lookup y=some b:=fun b hb ⟨y,z⟩=>absurd (cnew y b z).1 (Nat.not_le.mpr hb)
  have up:∀ b o,H2 b=some o->back cl (fun b=>(s3.heap.get? b).map FZ) H2 b=some o:=fun b o e=>by
   rw [tr b fun ⟨y,z⟩=>by rw [(cnew y b z).2.1] at e;cases e];exact e
  refine ⟨.ref g,back cl (fun b=>(s3.heap.get? b).map FZ) H2,J2.os,J2.bare,⟨un.keep,un.slot,fun b o e n hx=>?_,un.there,fun b xs e=>up _ _ (un.tups b xs e),fun b o u e=>up _ _ (un.frzs b o u e),fun b qs e=>?_⟩,fun b o e=>?_,rfl,hQ g _ ⟨fun b o n e=>up _ _ (M.same b o n e),?_,⟨cl,?_,fun y cc h=>(clk y cc h).1,fun y z cc h1 h2=>inj y z cc (clk y cc h1).2 (clk z cc h2).2,fun j y hj=>?_,?_⟩,M.fresh⟩⟩
  .rw [tr b (oldn b (Heap.lt_size e))];exact un.free b o e n hx
  .obtain ⟨more,e2⟩:=un.tbls b qs e
   exact ⟨more,up _ _ e2⟩
  .by_cases q:∃ y,cl.lookup y=some b
   .obtain ⟨y,q⟩:=q
    obtain ⟨_,_,o2,u2,e2,_⟩:=cnew y b q
    rw [tc y b o2 q e2] at e
    cases e
    exact ZCw e2
   .rw [tr b q] at e
    exact (J2.hok b o e).stay (fun c v _ q=>q) (fun c q=>up c _ q) fun c xs q=>up c _ q
  .exact M.tab.mono (by
    rcases M.tab with z | ⟨_,z,_⟩
    .rw [z];exact up _ _ z
    .rw [z];exact up _ _ z) fun b o e=>up b _ e
  .obtain ⟨d1,d2,d3,c3,e1,e2⟩:=M.obj
   exact ⟨d1,d2,d3,c3,up _ _ e1,e2.mono fun b o e=>up b _ e⟩
  .obtain ⟨v,cc,uu,a1,a2,a3,o,a4,a5⟩:=cAt j y hj
   have hl2:=clh y cc (yBC hj) a2
   exact ⟨v,cc,uu,o,a1,hl2,a3,tc y cc o hl2 a4,a5⟩
  .rw [yAP];exact hixl
def ZDE (tabs:List (Addr×Addr)) (H:Hp):Prop:=∀ q∈tabs,H q.2=some (.tbl #[])
theorem law_callT {P:Program} {w:World} {K:W.Frag} {mg mb:Str->Option Value} {CX:CXT} {k:Nat} {fa a:Addr} {fd:FuncData} {x:Str} {sp:Sp} {s₁:Shared} {vs:List Value} {ns:List Int} {tabs:List (Addr×Addr)}
  (KX:K.In s₁.heap) (hns:s₁.heap.Ns mainGlobals mg) (hb:s₁.heap.Ns builtinsNs mb) (hbb:∀ x:Str,x≠"__name__"->mb x=bootBuiltins x) (hlim:s₁.heap.NoLimit) (hg:s₁.gens=#[])
  (ha:s₁.heap.get? a=some { cls:=.type "list",data:=.seq vs.toArray }) (hi:IntsAre vs ns) (hl:ns.length <= sizeLine) (hr:Room k callerA)
  (hT:∀ q∈tabs,PySem.W.CodeHd s₁.heap q.1 q.2 /\ s₁.heap.get? q.2=some (PySem.W.tabObj #[])) (nt:PySem.W.noTabs K=true) (hbm:ZCS mg s₁.heap)
  (F:∀ base:Heap,K.In base->base.Ns mainGlobals mg->(∀ q∈tabs,PySem.W.CodeHd base q.1 q.2)->ZCS mg base->FnOk P w K mg base CX k fa fd [x] sp) (hbind:∀ (s:Shared) (u:Value),BindsTo s fd ⟨[u],[]⟩ [(x,u)])
  (hsp:∀ H:Hp,ZDE tabs H->SqL K H a (ns.map V.int)->sp [.ref a] H (fun v _=>v=.bl true) fun _ _ _=>False)
  (hCX:∀ H e s',CX [] H s₁ (fun _ _ _=>False) e s'->False) :
  codeAny (model P w) callerA (.call (.ref fa) ⟨[.ref a],[]⟩) (fun r s'=>r=.ok (.ret (.bool true)) /\ OldK s₁.heap s'.heap /\ s'.os=s₁.os /\ AllBare s'.gens) s₁:=by
 have rv:=vals_ints hi
 have lenV:=hi.length
 have core:∀ H:Hp,SqL K H a (ns.map V.int)->HOk P w H s₁.heap->(∀ b o,H b=some o->(b=a /\ K.lookup a=none /\ ∃ ob xs,o=.frz ob (.lst xs))∨(o=.tbl #[] /\ ∃ q∈tabs,q.2=b))->ZDE tabs H ->
   codeAny (model P w) callerA (.call (.ref fa) ⟨[.ref a],[]⟩) (fun r s'=>r=.ok (.ret (.bool true)) /\ OldK s₁.heap s'.heap /\ s'.os=s₁.os /\ AllBare s'.gens) s₁:=by
  intro H hS hok hA hO
  have base_of:∀ {b:Addr} {o:Obj},s₁.heap.get? b=some o->H b=none->(hidT s₁.heap H).get? b=some o:=fun e n=>hidT_get e n
  have noObj:∀ {b:Addr} {o:Obj},s₁.heap.get? b=some o->(∀ vs' n',o.data≠.seq vs' n')->(o.cls=.none->∀ vs',o.data≠.fields vs')->H b=none:=fun {b o} e d1 d2=>by
   cases q:H b with
   | none=>rfl
   | some u=>
    rcases hA b u q with ⟨e',_⟩ | ⟨_,q',hq,e'⟩
    .subst e'
     rw [ha] at e;cases e
     exact absurd rfl (d1 _ _)
    .subst e'
     rw [(hT q' hq).2] at e;cases e
     exact absurd rfl (d2 rfl _)
  have nsK:∀ {b:Addr} {m:Str->Option Value},s₁.heap.Ns b m->(hidT s₁.heap H).Ns b m:=fun {b m} ⟨o,es,ep,e,d,r⟩=>⟨o,es,ep,base_of e (noObj e (by rw [d];intro _ _ z;cases z) (fun _=>by rw [d];intro _ z;cases z)),d,r⟩
  have hKb:K.In (hidT s₁.heap H):=fun b o e=>base_of (KX b o e) (by
   cases q:H b with
   | none=>rfl
   | some u=>
    rcases hA b u q with ⟨e',n,_⟩ | ⟨_,q',hq,e'⟩
    .subst e';rw [n] at e;cases e
    .subst e'
     have e2:=KX _ _ e
     rw [(hT q' hq).2] at e2
     cases e2
     have h2:=List.all_eq_true.mp nt _ (PySem.W.mem_of_lookupK e)
     exact absurd (show false=true from h2) yAI)
  have hM:Mod K mg (hidT s₁.heap H):=⟨hKb,nsK hns,⟨mb,nsK hb,hbb⟩,let ⟨mc,h1,h2⟩:=hlim;⟨mc,nsK h1,h2⟩⟩
  have e0:Env0 P w K mg (hidT s₁.heap H) callerA [] s₁ H:=⟨rfl,hM,fun b o e=>of_hidT e,Nat.le_of_eq (hidT_size _ _),trivial,fun b hb=>absurd (show b∈([]:List Addr) from hb) (by simp),hok,.of_eq hg⟩
  have hC:∀ q∈tabs,PySem.W.CodeHd (hidT s₁.heap H) q.1 q.2:=fun q hq=>by
   obtain ⟨o,vs,file,tf,flags,tg,inF,text,tt,e1,e2,e3,r⟩:=(hT q hq).1
   exact ⟨o,vs,file,tf,flags,tg,inF,text,tt,base_of e1 (noObj e1 (by rw [e3];intro _ _ z;cases z) (fun z=>by rw [e2] at z;cases z)),e2,e3,r⟩
  have hB:ZCS mg (hidT s₁.heap H):=by
   obtain ⟨bm,ob,b1,b2,b3,b4,b5,b6⟩:=hbm
   exact ⟨bm,ob,b1,b2,base_of b3 (noObj b3 (by rw [b6];intro _ _ z;cases z) (fun z=>by rw [b4] at z;cases z)),b4,b5,b6⟩
  refine codeAny_mono ((F _ hKb (nsK hns) hC hB).run callerA [] s₁ H ⟨[.ref a],[]⟩ [.ref a] [.ref a] _ _ hr e0 (hbind s₁ (.ref a)) (.cons rfl .nil) (hsp H hO hS)) fun r s' h=>?_
  cases r with
  | error e=>exact (hCX H e s' h).elim
  | ok fl=>
   cases fl with
   | next=>exact False.elim h
   | brk=>exact False.elim h
   | cont=>exact False.elim h
   | ret u=>
    obtain ⟨v,H',os,bare,un,hok',r',q⟩:=h
    have q':v=.bl true:=q
    subst q'
    obtain rfl:u=Value.bool true:=r'
    have nfs:∀ b:Addr,b∉frs ([]:List Env):=fun b z=>absurd (show b∈([]:List Addr) from z) (by simp)
    refine ⟨rfl,⟨fun b o e=>?_,fun b o e=>un.there b o e (by simp)⟩,os,bare⟩
    cases q:H b with
    | none=>exact .inl (un.keep b o e q (nfs b) (by simp))
    | some u=>
     rcases hA b u q with ⟨_,_,ob,xs,z⟩ | ⟨z,q',hq,e'⟩
     .subst z
      have z2:=un.frzs b ob _ q
      obtain ⟨e1,_⟩:=hok b _ q
      obtain ⟨e2,_⟩:=hok' b _ z2
      rw [e] at e1;cases e1
      exact .inl e2
     .subst z
      subst e'
      obtain ⟨more,z2⟩:=un.tbls _ _ q
      have e2:s'.heap.get? q'.2=some (PySem.W.tabObj (#[]++more)):=hok' _ _ z2
      have e3:=(hT q' hq).2
      rw [e] at e3
      have e4:o=PySem.W.tabObj #[]:=Option.some.inj e3
      subst e4
      exact .inr (.inl ⟨((hT q' hq).1.tab (hT q' hq).2).isCodeTable,rfl,#[],more,rfl,e2⟩)
 have tabA:∀ q∈tabs,q.2≠a:=fun q hq z=>by
  have e:=(hT q hq).2
  rw [z,ha] at e;cases e
 cases hk:K.lookup a with
 | some o=>
  have e:=KX a o hk
  rw [ha] at e
  cases e
  refine core (fun b=>if b∈tabs.map (·.2) then some (.tbl #[]) else none) (.inr ⟨_,vs.toArray,_,hk,rfl,rfl,rfl,by rw [yAK,lenV];exact hl,by simpa using rv⟩) (fun b u z=>?_) (fun b u z=>?_) fun q hq=>if_pos (List.mem_map_of_mem hq)
  .by_cases hb:b∈tabs.map (·.2)
   .have z':=(if_pos hb).symm.trans z
    cases z'
    obtain ⟨q,hq,rfl⟩:=List.mem_map.mp hb
    exact (hT q hq).2
   .have z':=(if_neg hb).symm.trans z
    cases z'
  .by_cases hb:b∈tabs.map (·.2)
   .have z':=(if_pos hb).symm.trans z
    cases z'
    obtain ⟨q,hq,e⟩:=List.mem_map.mp hb
    exact .inr ⟨rfl,q,hq,e⟩
   .have z':=(if_neg hb).symm.trans z
    cases z'
 | none=>
  refine core (fun b=>if b∈tabs.map (·.2) then some (.tbl #[]) else if b=a then some (.frz { cls:=.type "list",data:=.seq vs.toArray } (.lst (ns.map V.int))) else none) (.inl (.inr ⟨{ cls:=.type "list",data:=.seq vs.toArray },?_⟩)) (fun b u z=>?_) (fun b u z=>?_) fun q hq=>if_pos (List.mem_map_of_mem hq)
  .dsimp only
   rw [if_neg,if_pos rfl]
   intro z
   obtain ⟨q,hq,e⟩:=List.mem_map.mp z
   exact tabA q hq e
  .by_cases hb:b∈tabs.map (·.2)
   .have z':=(if_pos hb).symm.trans z
    cases z'
    obtain ⟨q,hq,rfl⟩:=List.mem_map.mp hb
    exact (hT q hq).2
   .have z':=(if_neg hb).symm.trans z
    by_cases hba:b=a
    .have z':=(if_pos hba).symm.trans z'
     cases z'
     subst hba
     exact ⟨ha,by rw [yAP];exact hl,vs,_,rv,ha⟩
    .have z':=(if_neg hba).symm.trans z'
     cases z'
  .by_cases hb:b∈tabs.map (·.2)
   .have z':=(if_pos hb).symm.trans z
    cases z'
    obtain ⟨q,hq,e⟩:=List.mem_map.mp hb
    exact .inr ⟨rfl,q,hq,e⟩
   .have z':=(if_neg hb).symm.trans z
    by_cases hba:b=a
    .have z':=(if_pos hba).symm.trans z'
     cases z'
     exact .inl ⟨hba,hk,_,_,rfl⟩
    .have z':=(if_neg hba).symm.trans z'
     cases z'
def ZCq (K:W.Frag) (tabs:List (Addr×Addr)):Sp:=fun vs H Q _=>∃ (a:Addr) (ns:List Int),vs=[.ref a] /\ SqL K H a (ns.map V.int) /\ ns.length <= 63 /\ ZDE tabs H /\ ∀ H',Q (.bl true) H'
theorem tabIn_of {K:W.Frag} {x:Str} {f c Pt:Addr} {oc oc2:Value} {od od2:Option Addr} {fd:FuncData} {sl sl2:Array (Option Value)} {vs:Array Value} (a:W.nsIn K mainGlobals x=some (some (.ref f))) (l:K.lookup f=some ⟨oc,od,.func fd,sl⟩) (hc:fd.code=.ref c)
  (lc:K.lookup c=some ⟨oc2,od2,.fields vs,sl2⟩) (tp:vs[11]?=some (.ref Pt)):PySem.W.tabIn K x=some (c,Pt):=by
 unfold PySem.W.tabIn
 rw [a]
 dsimp only
 rw [l]
 dsimp only
 rw [hc]
 dsimp only
 rw [lc]
 dsimp only
 rw [tp]
theorem walk_ofT2 {l:PySem.W.OpenLaw} {k:Nat} {q:Program} {loose:List Str} {XP:(Str->Option Value)->Heap->Prop} {YP:World->Heap->Prop} {d:DefRec} {K:Params->W.Frag} {x:Str} {names:List Str}
  (hn:l.most=some 63) (hdf:d.params.defaults=[]) (hr:Room k callerA)
  (hY:∀ (w:World) (h:Heap),YP w h->(K w.params).In h) (hrec:∀ y∈names,∃ dr,(recsOf q).find? (fun e=>e.name == y)=some dr)
  (F:∀ (w:World) (mg:Str->Option Value) (fa:Addr) (h:Heap),(K w.params).In h->h.Ns mainGlobals mg->mg d.name=some (.ref fa) ->
   ∃ (tabs:List (Addr×Addr)) (fd:FuncData),PySem.W.noTabs (K w.params)=true /\ (∀ t∈tabs,∃ y∈names,PySem.W.tabIn (K w.params) y=some t) /\ (∀ (s:Shared) (u:Value),BindsTo s fd ⟨[u],[]⟩ [(x,u)]) /\
    ∀ base:Heap,(K w.params).In base->base.Ns mainGlobals mg->(∀ t∈tabs,PySem.W.CodeHd base t.1 t.2)->ZCS mg base->FnOk l.prog w (K w.params) mg base CX0 k fa fd [x] (ZCq (K w.params) tabs)) :
  PySem.W.WalkO q loose XP YP l.row.toRowW d [] (fun f vs=>PySem.call f vs):=by
 refine Att.attach_call hn hdf fun w s₀ s₁ mg mb fa o pm cd doc a vs ns G Y ho hd hcd hmg hobj hints hlen hg=>?_
 have KX:=hY w _ Y
 obtain ⟨tabs,fd,nt,ht,hb,hF⟩:=F w mg fa _ KX G.T.g hmg
 refine law_callT (tabs:=tabs) KX G.T.g G.T.b G.T.builtins G.T.nolimit hg hobj hints (yAH hlen (by decide)) hr (fun t h2=>?_) nt G.T.bmain hF hb (fun H hO hS=>⟨a,ns,rfl,hS,hlen,hO,fun _=>rfl⟩) fun H e s' z=>z
 obtain ⟨y,hy,e2⟩:=ht t h2
 obtain ⟨dr,e1⟩:=hrec y hy
 exact PySem.W.tab_of G.T KX e1 e2
theorem hix_of {ix:List Nat} {ps fr:List Str} (h:ix.map (fun i=>ps[i]?)=fr.map some):∀ (j:Nat) (y:Str),fr[j]?=some y->∃ i,ix[j]?=some i /\ ps[i]?=some y:=fun j y e=>by
 have:=congrArg (fun l=>l[j]?) h
 simp only [yAX,e,Option.map_some] at this
 cases q:ix[j]? with
 | none=>rw [q] at this;cases this
 | some i=>rw [q] at this;exact ⟨i,rfl,by simpa using this⟩
def inBody (s:Stmt) (j:Nat):Stmt:=(ZAK s).getD j (.Pass ⟨0,0,0,0⟩)
def ZCy (s:Stmt):Pos:=match s with
 | .FunctionDef _ _ _ _ _ _ _ _ _ pos=>pos
 | _=>⟨0,0,0,0⟩
theorem cx_cloK {P:Program} {w:World} {K:W.Frag} {mg:Str->Option Value} {base:Heap} {N:List Str} {qual:Str} {scope:Scope} {f:Addr} {cd:Value} {cl:List (Str×Addr)} {A:Around} {outer:List Env} {s:Shared} {H:Hp}:(ZCk P w K mg base N qual scope f cd cl A outer s H).K=K:=rfl
section
variable {prog:Program} {w:World} {A:Around} {R:Result->Shared->Prop} {I:Addr} {fp wr:List Addr} {n:Nat} {P:Nat->Value->Prop} {St:Nat->Heap->Prop}
end
section
variable {prog:Program} {w:World} {A:Around} {E:Value->Shared->Prop} {s:Shared} {l:Addr}
end
def maxD (d:Int):List Int->Int
 | []=>d
 | x::r=>r.foldl (fun m y=>if m < y then y else m) x
section
variable {X:Cx} {e d:Expr} {te td:TE} {p pos:Pos} {kpos:Pos}
def tMaxD (K:W.Frag) (te td:TE):TE:=fun σ H Q=>te σ H fun x H1=>td σ H1 fun y H2=>∃ a ns dd,x=.ref a /\ y=.int dd /\ SqL K H2 a (ns.map V.int) /\ Q (.int (maxD dd ns)) H2
end
theorem lkc {k k':Str} {v:V} {r:List (Str×V)}:List.lookup k ((k',v)::r)=if k=k' then some v else List.lookup k r:=by
 rw [yAY]
 by_cases h:k=k'
 .subst h;simp
 .have:(k == k')=false:=by simpa using h
  rw [this,if_neg h]
theorem ZA7 {f:Str} {v u:V}:∀ {fs:List (Str×V)},fs.lookup f=some u->(putF f v fs).length=fs.length
 | [],h=>by cases h
 | (g,w)::r,h=>by
  unfold putF
  by_cases e:g=f
  .rw [if_pos e];rfl
  .rw [if_neg e,yAN,yAN]
   rw [lkc,if_neg (fun z=>e z.symm)] at h
   rw [ZA7 h]
structure Ins (H:Hp) (a C:Addr) (fl:List (Str×V)):Prop where
 ex:∃ dx fs,H a=some (.ins C dx fs) /\ fs.length <= 50 /\ ∀ f,fs.lookup f=fl.lookup f
theorem Ins.of {H:Hp} {a C dx:Addr} {fl:List (Str×V)} (h:H a=some (.ins C dx fl)) (hl:fl.length <= 50):Ins H a C fl:=⟨dx,fl,h,hl,fun _=>rfl⟩
theorem Ins.congr {H:Hp} {a C:Addr} {fl fl':List (Str×V)} (h:Ins H a C fl) (e:∀ f,fl.lookup f=fl'.lookup f):Ins H a C fl':=let ⟨dx,fs,h1,h2,h3⟩:=h.ex;⟨dx,fs,h1,h2,fun f=>(h3 f).trans (e f)⟩
theorem Ins.mono {H H':Hp} {a C:Addr} {fl:List (Str×V)} (h:Ins H a C fl) (s:Same H H'):Ins H' a C fl:=let ⟨dx,fs,h1,h2,h3⟩:=h.ex;⟨dx,fs,s _ _ h1,h2,h3⟩
theorem Ins.keep {H H':Hp} {a C:Addr} {fl:List (Str×V)} (h:Ins H a C fl) (s:H' a=H a):Ins H' a C fl:=let ⟨dx,fs,h1,h2,h3⟩:=h.ex;⟨dx,fs,s.trans h1,h2,h3⟩
theorem Ins.ne {H:Hp} {a b C:Addr} {fl:List (Str×V)} {o:HO} (h:Ins H a C fl) (hb:H b=some o) (n:∀ C dx fs,o≠.ins C dx fs):b≠a:=fun z=>by
 obtain ⟨dx,fs,h1,_⟩:=h.ex
 rw [z,h1] at hb
 exact n _ _ _ (Option.some.inj hb).symm
theorem Ins.neN {H:Hp} {a b C:Addr} {fl:List (Str×V)} (h:Ins H a C fl) (hb:H b=none):b≠a:=fun z=>by
 obtain ⟨dx,fs,h1,_⟩:=h.ex
 rw [z,h1] at hb;cases hb
section
variable {K:W.Frag} {f:Str} {a C:Addr} {fl:List (Str×V)} {v:V} {H:Hp}
theorem Ins.get {Q:VK} (h:Ins H a C fl) (cl:Cls K C) (n:NoAttr K C f) (l:fl.lookup f=some v) (q:Q v H):getF K f (.ref a) H Q:=by
 obtain ⟨dx,fs,h1,h2,h3⟩:=h.ex
 exact getF_of h1 cl n ((h3 f).trans l) q
theorem Ins.meth {m:Str} {R:Prop} (h:Ins H a C fl) (l:fl.lookup m=none) (q:R):∃ b dx fs,V.ref a=.ref b /\ H b=some (.ins C dx fs) /\ fs.lookup m=none /\ R:=by
 obtain ⟨dx,fs,h1,h2,h3⟩:=h.ex
 exact ⟨a,dx,fs,rfl,h1,(h3 m).trans l,q⟩
end
def augA (K:W.Frag) (tv:TE) (rd:V->V->Hp->VK->Prop) (f:Str) (D:Ends) (σ:St) (x:V) (H1:Hp):Prop:=∃ a C dx fs v,x=.ref a /\ H1 a=some (.ins C dx fs) /\ Cls K C /\ NoAttr K C f /\ fs.lookup f=some v /\
 tv σ H1 fun y H2=>rd v y H2 fun z H3=>∃ dx' fs',H3 a=some (.ins C dx' fs') /\ fs'.length < 1000 /\ D.nx σ (upd H3 a (.ins C dx' (putF f z fs')))
theorem sFldAug_eq {K:W.Frag} {ta tv:TE} {rd:V->V->Hp->VK->Prop} {f:Str} {D:Ends} {σ:St} {H:Hp}:sFldAug K ta tv rd f D σ H=ta σ H (fun x H1=>augA K tv rd f D σ x H1):=rfl
theorem Ins.aug {K:W.Frag} {f:Str} {a C:Addr} {fl:List (Str×V)} {i j:Int} {H:Hp} {D:Ends} {σ:St} (h:Ins H a C fl) (cl:Cls K C) (n:NoAttr K C f) (l:fl.lookup f=some (.int i))
  (q:∀ H',Ins H' a C (putF f (.int (i+j)) fl)->(∀ b,b≠a->H' b=H b)->D.nx σ H'):augA K (tC (.int j)) rAdd f D σ (.ref a) H:=by
 obtain ⟨dx,fs,h1,h2,h3⟩:=h.ex
 refine ⟨a,C,dx,fs,_,rfl,h1,cl,n,(h3 f).trans l,i,j,rfl,rfl,dx,fs,h1,by omega,q _ ⟨dx,_,ZAG,?_,fun g=>?_⟩ fun b hb=>ZAC hb⟩
 .rw [ZA7 ((h3 f).trans l)];exact h2
 .rw [ZAU,ZAU,h3]
theorem setX {K:W.Frag} {f:Str} {a C dx:Addr} {fs:List (Str×V)} {v:V} {H:Hp} {Q:Hp->Prop} (h:H a=some (.ins C dx fs)) (cl:Cls K C) (n:NoAttr K C f) (hl:fs.length <= 20) (q:∀ H',H' a=some (.ins C dx (putF f v fs))->(∀ b,b≠a->H' b=H b)->Q H'):setF K f (.ref a) v H Q :=
 setF_of h cl n (by omega) (q _ ZAG fun b hb=>ZAC hb)
theorem ZAd {f:Str} {v:V} {fs:List (Str×V)} {n:Nat} (h:fs.length <= n):(putF f v fs).length <= n+1:=yAH (ZBV f v fs) (Nat.succ_le_succ h)
theorem putL1 {f0:Str} {v0:V}:(putF f0 v0 []).length <= 20:=yAH (ZAd (yAB 0)) (by decide)
theorem putL2 {f0 f1:Str} {v0 v1:V}:(putF f1 v1 (putF f0 v0 [])).length <= 20:=yAH (ZAd (ZAd (yAB 0))) (by decide)
theorem putL3 {f0 f1 f2:Str} {v0 v1 v2:V}:(putF f2 v2 (putF f1 v1 (putF f0 v0 []))).length <= 20:=yAH (ZAd (ZAd (ZAd (yAB 0)))) (by decide)
theorem putL4 {f0 f1 f2 f3:Str} {v0 v1 v2 v3:V}:(putF f3 v3 (putF f2 v2 (putF f1 v1 (putF f0 v0 [])))).length <= 20:=yAH (ZAd (ZAd (ZAd (ZAd (yAB 0))))) (by decide)
theorem putL5 {f0 f1 f2 f3 f4:Str} {v0 v1 v2 v3 v4:V}:(putF f4 v4 (putF f3 v3 (putF f2 v2 (putF f1 v1 (putF f0 v0 []))))).length <= 20:=yAH (ZAd (ZAd (ZAd (ZAd (ZAd (yAB 0)))))) (by decide)
theorem mx_eq (p q:Int):(if q > p then q else p)=max p q:=by split <;> omega
theorem mn_eq (p q:Int):(if q < p then q else p)=min p q:=by split <;> omega
end L2
namespace PySem
open Sem (wp)
theorem ZAx (o : Obj) (f) : (o.mapFields f).dict = o.dict := by
  unfold Obj.mapFields
  split <;> rfl
structure Kpo (o o' : Obj) : Prop where
  fr : o'.isFreed = o.isFreed
  di : o'.dict = o.dict
theorem Kpo.refl (o : Obj) : Kpo o o := ⟨rfl, rfl⟩
theorem Kpo.set (i : Nat) (v : Value) (o : Obj) : Kpo o (o.mapFields (·.setIfInBounds i v)) := by
  unfold Obj.mapFields
  split
  · exact ⟨rfl, rfl⟩
  · exact .refl _
def Kph (h h' : Heap) : Prop := ∀ b o, h.get? b = some o → ∃ u, h'.get? b = some u ∧ Kpo o u
theorem Kph.trans {h h' k : Heap} (x : Kph h h') (y : Kph h' k) : Kph h k := fun b o e => by
  obtain ⟨u, e1, q1⟩ := x b o e
  obtain ⟨w, e2, q2⟩ := y b u e1
  exact ⟨w, e2, q2.fr.trans q1.fr, q2.di.trans q1.di⟩
theorem Kph.upd (h : Heap) (a : Addr) {f : Obj → Obj} (hf : ∀ o, Kpo o (f o)) : Kph h (h.update a f) := fun b o e => by
  by_cases q : a = b
  · subst q
    exact ⟨_, Heap.get?_update_self f e ((hf o).fr.trans (Heap.get?_some_iff.mp e).2), hf o⟩
  · exact ⟨o, (Heap.get?_update_other h f q).trans e, .refl o⟩
inductive Tame {α : Type} : Sem α → Prop
  | pure (a) : Tame (.pure a)
  | no (w) : Tame (.unsupported w)
  | load {a p k} : (∀ o, Tame (k o)) → Tame (.load a p k)
  | upd {a p f k} : (∀ o, Kpo o (f o)) → Tame (k ()) → Tame (.update a p f k)
  | new {o k} : (∀ a, Tame (k a)) → Tame (.alloc o k)
  | stack {k} : (∀ l, Tame (k l)) → Tame (.stack k)
section
variable {α β : Type} {M : Model} {Γ : Ctx} {A : Around} {E : Value → Shared → Prop} {s : Shared}
theorem Tame.wp {t : Sem α} (T : Tame t) {Q : α → Pos → Shared → Prop} {E : Value → Pos → Shared → Prop} {p : Pos} : ∀ {s : Shared}, wp M Γ t Q E p s → wp M Γ t (fun a p z => Q a p z ∧ Kph s.heap z.heap) E p s := by
  have go : ∀ {t : Sem α} {s s1 : Shared}, Kph s.heap s1.heap → (∀ {s : Shared}, Sem.wp M Γ t Q E p s → Sem.wp M Γ t (fun a p z => Q a p z ∧ Kph s.heap z.heap) E p s) → Sem.wp M Γ t Q E p s1 → Sem.wp M Γ t (fun a p z => Q a p z ∧ Kph s.heap z.heap) E p s1 :=
    fun k ih h => Sem.wp_mono M Γ _ (fun _ _ _ z => ⟨z.1, k.trans z.2⟩) (fun _ _ _ z => z) _ _ (ih h)
  induction T with
  | pure => exact fun h => ⟨h, fun b o e => ⟨o, e, .refl o⟩⟩
  | no => exact id
  | load _ ih => exact fun ⟨o, e, h⟩ => ⟨o, e, ih o h⟩
  | upd f _ ih => exact fun ⟨e, h⟩ => ⟨e, go (Kph.upd _ _ f) ih h⟩
  | @new o k _ ih => exact fun {s} h => go (t := k s.heap.objs.size) (s1 := { s with heap := s.heap.push o }) (fun b u e => ⟨u, Heap.get?_push_of_some _ e, .refl u⟩) (ih _) h
  | stack _ ih => exact fun h => ih _ h
theorem Tame.any {t : Sem α} (T : Tame t) {Q : α → Shared → Prop} (h : wpAny M A t Q E s) : wpAny M A t (fun a z => Q a z ∧ Kph s.heap z.heap) E s := fun Γ p hΓ => T.wp (h Γ p hΓ)
theorem Tame.bind {m : Sem α} {f : α → Sem β} (x : Tame m) (y : ∀ a, Tame (f a)) : Tame (m >>= f) := by
  show Tame (m.bind f)
  induction x with
  | pure a => exact y a
  | no w => exact .no w
  | load _ ih => exact .load ih
  | upd h _ ih => exact .upd h ih
  | new _ ih => exact .new ih
  | stack _ ih => exact .stack ih
theorem Tame.ite {c : Prop} [Decidable c] {x y : Sem α} (hx : Tame x) (hy : Tame y) : Tame (if c then x else y) := by split <;> assumption
theorem tame_field (v : Value) (i : Nat) : Tame (field v i) := by
  refine .bind (m := fieldsOf v) ?_ fun a => ?_
  · unfold fieldsOf
    split
    · refine .bind (.load fun o => .pure o) fun o => ?_
      split
      · exact .pure _
      · exact .no _
    · exact .no _
  · split
    · exact .pure _
    · exact .no _
theorem tame_setField (i : Nat) (v x : Value) : Tame (setField v i x) := by
  unfold setField
  split
  · unfold updateField
    refine .bind (.load fun o => .pure o) fun o => ?_
    split
    · exact .ite (.upd (Kpo.set i x) (.pure _)) (.no _)
    · exact .no _
  · exact .no _
theorem tame_ready (l : List Env) : Tame (readyFrames l) := by
  induction l with
  | nil => exact .pure _
  | cons env r ih =>
    unfold readyFrames
    split
    next f hf =>
      refine .bind (.load fun o => .pure o) fun o => .ite (.pure _) (.bind ?_ fun b => .bind ?_ fun c => .bind (.upd (fun o => ⟨by cases o with | mk a b d c => cases d <;> rfl, rfl⟩) (.pure _)) fun _ => ih)
      · unfold behindIsImport
        exact .ite (.pure _) (.ite (.pure _) (.bind (tame_field _ _) fun _ => .pure _))
      · unfold keptBack
        split
        · exact .ite (.pure _) (.bind (.bind (.stack fun l => .pure l) fun _ => .pure _) fun _ => .pure _)
        · exact .pure _
    · exact .no _
theorem tame_note (e : Value) (env : Env) : Tame (noteFrame e env) := by
  unfold noteFrame
  split
  next f hf =>
    have rest : ∀ head b, Tame (do setField e 1 (← EntryCells.newEntry head (← frameOf env) .none (rawInt f) .none (← entryPlaceOf f b))) := fun head b => by
      refine .bind ?_ fun a => .bind ?_ fun pl => .bind ?_ fun n => tame_setField _ _ _
      · unfold frameOf
        refine .bind (.bind (.stack fun l => .pure l) fun _ => .pure _) fun l => .bind ?_ fun o => ?_
        · unfold frameObject
          split
          · exact .pure _
          · exact .bind (tame_ready _) fun _ => .pure _
        · split
          · exact .pure _
          · exact .no _
      · unfold entryPlaceOf
        refine .bind (.stack fun l => .pure l) fun l => ?_
        split <;> exact .pure _
      · unfold EntryCells.newEntry newFields newObj
        exact .ite (.bind (.no _) fun _ => .bind (.new fun a => .pure a) fun a => .pure _) (.bind (.new fun a => .pure a) fun a => .pure _)
    refine .bind (tame_field _ _) fun head => .ite (.bind (tame_field _ _) fun y => .ite (.pure _) (.bind (tame_setField _ _ _) fun _ => rest _ _)) (rest _ _)
  · exact .no _
theorem tame_flight (e : Value) (o : Option Addr) : Tame (setFlight e o) := .bind (tame_field _ _) fun _ => .ite (tame_setField _ _ _) (.pure _)
theorem tame_leaving (env : Env) (e : Value) : Tame (leaving env e) := .bind (tame_note _ _) fun _ => tame_flight _ _
def Heap.Dx (h : Heap) (e : Addr) (d : Option Addr) : Prop := ∃ o, h.get? e = some o ∧ o.dict = d
theorem Heap.Dx.kept {h h' : Heap} {e : Addr} {d : Option Addr} (x : h.Dx e d) (k : Kph h h') : h'.Dx e d := by
  obtain ⟨o, h1, h3⟩ := x
  obtain ⟨u, h5, q⟩ := k e o h1
  exact ⟨u, h5, q.di.trans h3⟩
def Heap.TracedAtD (h base : Heap) (e : Addr) (cls : Value) (a0 : Value × Option Addr) (fl : Value) : Prop := h.TracedAtW base e cls a0.1 fl ∧ h.Dx e a0.2
abbrev Heap.TracedD (h base : Heap) (e : Addr) (cls : Value) (a0 : Value × Option Addr) : Prop := h.TracedAtD base e cls a0 .none
abbrev Heap.FlyD (base : Heap) (l : List Env) (e : Addr) (cls : Value) (a0 : Value × Option Addr) (fl : Value) (h : Heap) : Prop := base.StaysIn h ∧ base.get? e = none ∧ h.FunFrames base l ∧ h.TracedAtD base e cls a0 fl
abbrev Heap.FlyingD (base : Heap) (l : List Env) (e : Addr) (cls : Value) (a0 : Value × Option Addr) (h : Heap) : Prop := Heap.FlyD base l e cls a0 .none h
abbrev Heap.HeldD (base : Heap) (l : List Env) (e : Addr) (cls : Value) (a0 : Value × Option Addr) (L : Addr) (h : Heap) : Prop := Heap.FlyD base l e cls a0 (rawInt L) h
theorem Heap.FlyingD.thereD {base h : Heap} {l : List Env} {e : Addr} {cls : Value} {a0 : Value × Option Addr} (x : Heap.FlyingD base l e cls a0 h) : ∃ ob, h.get? e = some ob ∧ ob.cls = cls ∧ ob.dict = a0.2 ∧ ∃ vs, ob.data = .fields vs := by
  obtain ⟨_, _, _, ⟨oe, vs, _, _, _, he, hc, hd, _⟩, o, h1, h2⟩ := x
  rw [he] at h1
  cases h1
  exact ⟨oe, he, hc.1, h2, vs, hd⟩
theorem Heap.FlyingD.there {base h : Heap} {l : List Env} {e : Addr} {cls : Value} {a0 : Value × Option Addr} (x : Heap.FlyingD base l e cls a0 h) : ∃ ob, h.get? e = some ob ∧ ob.cls = cls :=
  let ⟨ob, h1, h2, _⟩ := Heap.FlyingD.thereD x
  ⟨ob, h1, h2⟩
variable {base : Heap} {env : Env} {l outer : List Env} {L e : Addr} {cls : Value} {a0 : Value × Option Addr} {Q : Unit → Shared → Prop}
theorem Tame.go {t : Sem Unit} (T : Tame t) {P : Heap → Prop} (w : wpAny M A t (fun _ z => ∃ h', z = { s with heap := h' } ∧ P h') E s) (hQ : ∀ h', P h' → Kph s.heap h' → Q () { s with heap := h' }) : wpAny M A t Q E s :=
  wpAny_mono (T.any w) (fun _ _ z => by
    obtain ⟨⟨h', rfl, p⟩, k⟩ := z
    exact hQ h' p k) fun _ _ z => z
theorem wpAny_looks_onD (hfr : A.frames = some (env :: outer)) (hf : env.frame = some L) (x : Heap.FlyingD base (env :: outer) e cls a0 s.heap) (hQ : ∀ h', Heap.HeldD base (env :: outer) e cls a0 L h' → s.heap.UpToSlots h' → Q () { s with heap := h' }) : wpAny M A (noteFrame (.ref e) env) Q E s := by
  obtain ⟨f1, f2, f3, f4, d⟩ := x
  refine (tame_note _ _).go (P := fun h' => Heap.HeldW base (env :: outer) e cls a0.1 L h' ∧ s.heap.UpToSlots h') (wpAny_looks_onW hfr hf ⟨f1, f2, f3, f4⟩ fun h' y u => ⟨h', rfl, y, u⟩) fun h' ⟨⟨y1, y2, y3, y4⟩, u⟩ k => hQ h' ⟨y1, y2, y3, y4, d.kept k⟩ u
theorem flightD_ {fl : Value} (o : Option Addr) (f1 : base.StaysIn s.heap) (f3 : s.heap.FunFrames base l) (f4 : s.heap.TracedAtD base e cls a0 fl)
    (hQ : ∀ h', base.StaysIn h' → h'.FunFrames base l → h'.TracedAtD base e cls a0 (o.elim .none fun f => rawInt f) → (∀ b o, s.heap.get? b = some o → (∀ vs, o.data ≠ .fields vs) → h'.get? b = some o) → Q () { s with heap := h' }) : wpAny M A (setFlight (.ref e) o) Q E s := by
  obtain ⟨⟨oe, vs, T, oT, ts, he, hc, hd, h1, hnT, hTe, hT, hdT, h3⟩, d⟩ := f4
  refine (tame_flight _ _).go (P := fun h' => h' = s.heap.update T (Obj.mapFields (·.setIfInBounds 3 (o.elim .none fun f => rawInt f)))) ?_ fun h' z k => ?_
  · refine wpAny_bind (wpAny_field he hd h1 ?_)
    show wpAny M A (setField (.ref T) 3 _) _ E s
    exact wpAny_setField hT hdT (Array.getElem?_eq_some_iff.mp h3).1 ⟨_, rfl, rfl⟩
  · subst z
    have ot : ∀ b u, s.heap.get? b = some u → b ≠ T → (s.heap.update T (Obj.mapFields (·.setIfInBounds 3 (o.elim .none fun f => rawInt f)))).get? b = some u := fun b u h n => (Heap.get?_update_other _ _ (Ne.symm n)).trans h
    have nt : ∀ b u, s.heap.get? b = some u → (∀ vs, u.data ≠ .fields vs) → b ≠ T := fun b u h n z => by
      subst z
      rw [hT] at h
      cases h
      exact n ts hdT
    exact hQ _ (fun b u h => ot b u (f1 b u h) (fun z => by subst z; rw [hnT] at h; cases h)) (f3.of_keeps fun b u h n => ⟨u, ot b u h (nt b u h n), rfl⟩)
      ⟨⟨oe, vs, T, _, _, ot e oe he (Ne.symm hTe), hc, hd, h1, hnT, hTe, Heap.get?_update_self _ hT (Obj.isFreed_of_fields (Obj.data_mapFields hdT _)), Obj.data_mapFields hdT _, by
        have := (Array.getElem?_eq_some_iff.mp h3).1
        simp [this]⟩, d.kept k⟩ fun b u h n => ot b u h (nt b u h n)
theorem wpAny_landsD (hh : Heap.HeldD base l e cls a0 L s.heap) (hQ : ∀ h', Heap.FlyingD base l e cls a0 h' → s.heap.UpToSlots h' → Q () { s with heap := h' }) : wpAny M A (setFlight (.ref e) none) Q E s :=
  flightD_ none hh.1 hh.2.2.1 hh.2.2.2 fun h' k1 k2 k3 k4 => hQ h' ⟨k1, hh.2.1, k2, k3⟩ fun b o y n => ⟨o.slots, k4 b o y n⟩
theorem LANDS2_ (hh : Heap.FlyingD base l e cls a0 s.heap) (hQ : ∀ h', Heap.FlyingD base l e cls a0 h' → s.heap.UpToSlots h' → Q () { s with heap := h' }) : wpAny M A (setFlight (.ref e) none) Q E s :=
  flightD_ none hh.1 hh.2.2.1 hh.2.2.2 fun h' k1 k2 k3 k4 => hQ h' ⟨k1, hh.2.1, k2, k3⟩ fun b o y n => ⟨o.slots, k4 b o y n⟩
theorem wpAny_leaving_firstD {oe : Obj} {vs : Array Value} (hfr : A.frames = some (env :: outer)) (hl : s.heap.FunFrames base (env :: outer)) (hf : env.frame = some L) (he : s.heap.get? e = some oe) (hkb : base.StaysIn s.heap) (hen : base.get? e = none) (hd : oe.data = .fields vs) (h1 : vs[1]? = some .none)
    (h0 : vs[0]? = some a0.1 ∧ oe.dict = a0.2) (hQ : ∀ h', (base.StaysIn h' ∧ h'.FunFrames base (env :: outer) ∧ h'.TracedD base e oe.cls a0 ∧ s.heap.UpToSlots h') → Q () { s with heap := h' }) : wpAny M A (leaving env (.ref e)) Q E s :=
  (tame_leaving _ _).go (P := fun h' => Heap.LeftW base (env :: outer) e oe.cls a0.1 s.heap h') (wpAny_leaving_firstW hfr hl hf he hkb hen hd h1 h0.1 fun h' y => ⟨h', rfl, y⟩) fun h' ⟨y1, y2, y3, y4⟩ k => hQ h' ⟨y1, y2, ⟨y3, Heap.Dx.kept ⟨oe, he, h0.2⟩ k⟩, y4⟩
end
end PySem
namespace L2
open PySem PySem.Spec PyProof.Rows
def Fly (l:List Env) (H:Hp) (h0:Heap) (e:Addr) (cls:Value) (dd:Option Addr) (h:Heap):Prop :=
 ∃ B a0,Heap.FlyingD B l e cls (a0,dd) h /\ H e=none /\ h0.get? e=none /\ ∀ b o,h.get? b=some o->b∉frs l->(H b≠none∨∃ o0,h0.get? b=some o0)->B.get? b=some o
def CXE (P:Program) (w:World):CXT:=fun outer H s E e s'=>
 ∃ ea cls dd H',e=.ref ea /\ s'.os=s.os /\ AllBare s'.gens /\ Un (frs outer) [] H H' s.heap s'.heap /\ HOk P w H' s'.heap /\ Fly outer H' s.heap ea cls dd s'.heap /\ E cls dd H'
theorem passE {P:Program} {w:World} {X:Cx}:ZAu (CXE P w) X E0:=fun _ _ _ _ _ _ _ ⟨_,_,_,_,_,_,_,_,_,_,h⟩=>h.elim
section
variable {P:Program} {w:World} {l:List Env} {H H':Hp} {h h1 h2 B base:Heap}
theorem Un.fly (u:Un (frs l) [] H H' h h1) (hB:∀ b o,h1.get? b=some o->b∉frs l->(H' b≠none∨∃ o0,h.get? b=some o0)->B.get? b=some o) (st:B.StaysIn h2) (up:h1.UpToSlots h2) (hf:h1.FunFrames base l):Un (frs l) [] H H' h h2 where
 keep b o e n hb hx:=st b o (hB b o (u.keep b o e n hb hx) hb (.inr ⟨o,e⟩))
 slot b o e n hb hx:=by
  obtain ⟨sl,e1⟩:=u.slot b o e n hb hx
  obtain ⟨_,o',ho',hd⟩:=hf.mem hb
  rw [e1] at ho'
  cases ho'
  obtain ⟨sl2,e2⟩:=up b _ e1 hd
  exact ⟨sl2,e2⟩
 free:=u.free
 there b o e hx:=by
  obtain ⟨o',e1⟩:=u.there b o e hx
  by_cases hb:b∈frs l
  .obtain ⟨_,o2,ho2,hd⟩:=hf.mem hb
   rw [e1] at ho2
   cases ho2
   obtain ⟨sl,e2⟩:=up b _ e1 hd
   exact ⟨_,e2⟩
  .exact ⟨o',st b o' (hB b o' e1 hb (.inr ⟨o,e⟩))⟩
 tups:=u.tups
 frzs:=u.frzs
 tbls:=u.tbls
theorem HOk.fly (x:HOk P w H' h1) (hB:∀ b o,h1.get? b=some o->b∉frs l->(H' b≠none∨∃ o0,h.get? b=some o0)->B.get? b=some o) (st:B.StaysIn h2) (hn:∀ b∈frs l,H' b=none):HOk P w H' h2:=fun a o e=>by
 have k:∀ b o,H' b=some o->b∉frs l:=fun b o z m=>by rw [hn b m] at z;cases z
 refine (x a o e).stay (fun b v hc q=>?_) (fun _ q=>q) fun _ _ q=>q
 rcases hc with z | z
 .exact st b v (hB b v q (by rw [z];exact k _ _ e) (.inl (by rw [z,e];exact fun y=>nomatch y)))
 .exact st b v (hB b v q (k _ _ z) (.inl (by rw [z];exact fun y=>nomatch y)))
theorem Inv.stkFree2 {X:Cx} {pins:List (Addr×Obj)} {σ:St} {s:Shared} (I:Inv X pins σ H s) (u:Un (frs X.stack) [] H H' s.heap h1):∀ b∈frs X.stack,H' b=none:=fun b hb=>by
 obtain ⟨_,o,ho,_⟩:=I.stack.mem hb
 exact u.free b o ho (I.stkFree b hb) yAE
end
section
variable {P:Program} {w:World} {K:W.Frag} {mg:Str->Option Value} {base:Heap} {N:List Str} {qual:Str} {scope:Scope} {f:Addr} {cd:Value} {A:Around} {outer:List Env} {s:Shared} {H:Hp} {E:XK}
theorem cxe_of {pins:List (Addr×Obj)} {σ:St} {H1 H':Hp} {s1 s2:Shared} {hm h' B B':Heap} {ea:Addr} {cls a0:Value} {dd:Option Addr} (I:Inv (cxOf (CXE P w) P w K mg base N qual scope f cd A outer s H E) pins σ H1 s1)
  (un:Un (frs (cxOf (CXE P w) P w K mg base N qual scope f cd A outer s H E).stack) [] H1 H' s1.heap hm) (hok:HOk P w H' hm)
  (hB:∀ b o,hm.get? b=some o->b∉frs (cxOf (CXE P w) P w K mg base N qual scope f cd A outer s H E).stack->(H' b≠none∨∃ o0,s1.heap.get? b=some o0)->B.get? b=some o)
  (ff:hm.FunFrames B' (cxOf (CXE P w) P w K mg base N qual scope f cd A outer s H E).stack) (up:hm.UpToSlots h') (fl:Heap.FlyingD B outer ea cls (a0,dd) h') (hout:H' ea=none) (hnew:s1.heap.get? ea=none) (os:s2.os=s1.os) (bare:AllBare s2.gens) (hE:E cls dd H') :
  CXE P w outer H s E (.ref ea) { s2 with heap:=h' }:=by
 have fr:=I.stkFree2 un
 have un2:=un.fly hB fl.1 up ff
 have hok2:=hok.fly hB fl.1 fr
 have I2:=I.call' (s':={ s2 with heap:=h' }) os un2 hok2 bare fun b z=>nomatch z
 have old:∀ b o,s.heap.get? b=some o->∃ o1,s1.heap.get? b=some o1:=fun b o q=>I.base.there b o q (fun z=>nomatch z)
 refine ⟨ea,cls,dd,H',rfl,I2.os,bare,I2.base,hok2,⟨B,a0,fl,hout,?_,fun b o ho hb hor=>?_⟩,hE⟩
 .cases q:s.heap.get? ea with
  | none=>rfl
  | some o=>
   obtain ⟨o1,h1⟩:=old ea o q
   rw [hnew] at h1;cases h1
 .have hb2:b∉frs (cxOf (CXE P w) P w K mg base N qual scope f cd A outer s H E).stack:=fun m=>by
   rcases yAA.mp (I2.stkSub b m) with z | z
   .rcases hor with y | ⟨o0,y⟩
    .exact y (by rw [z];exact I2.free)
    .exact absurd (yAG (Heap.lt_size y) I.ok.above) (by rw [z];exact yAZ _)
   .exact hb z
  have:∃ o1,hm.get? b=some o1 /\ (H' b≠none∨∃ o0,s1.heap.get? b=some o0):=by
   rcases hor with y | ⟨o0,y⟩
   .obtain ⟨u,hu⟩:=Option.ne_none_iff_exists'.mp y
    have:=(hok b u hu).lt
    cases z:hm.get? b with
    | some o1=>exact ⟨o1,rfl,.inl y⟩
    | none=>
     exfalso
     have st2:=hok b u hu
     cases u with
     | lst xs=>obtain ⟨_,_,_,_,e⟩:=st2;rw [z] at e;cases e
     | tup xs=>obtain ⟨_,_,_,ob,e,_⟩:=st2;rw [z] at e;cases e
     | dK kvs=>obtain ⟨_,_,_,_,ob,es,ep,e,_⟩:=st2;rw [z] at e;cases e
     | dT kvs=>obtain ⟨_,_,_,_,ob,es,ep,e,_⟩:=st2;rw [z] at e;cases e
     | set S n=>obtain ⟨ob,es,ep,t,e,_⟩:=st2;rw [z] at e;cases e
     | ins C dx fs=>obtain ⟨_,_,_,e,_⟩:=st2;rw [z] at e;cases e
     | own y=>obtain ⟨_,e⟩:=st2;rw [z] at e;cases e
     | xd fs=>obtain ⟨_,⟨_,_,_,e,_⟩,_⟩:=st2;rw [z] at e;cases e
     | rng lo hi=>obtain ⟨_,_,_,e⟩:=st2;rw [z] at e;cases e
     | frz ob u=>obtain ⟨e,_⟩:=st2;rw [z] at e;cases e
     | tbl ps=>have e:hm.get? b=some _:=st2;rw [z] at e;cases e
     | met f y=>have e:hm.get? b=some _:=st2;rw [z] at e;cases e
     | ext φ=>obtain ⟨_,⟨_,e⟩,_⟩:=st2;rw [z] at e;cases e
   .obtain ⟨o1,h1⟩:=old b o0 y
    obtain ⟨o2,h2⟩:=un.there b o1 h1 (fun z=>nomatch z)
    exact ⟨o2,h2,.inr ⟨o1,h1⟩⟩
  obtain ⟨o1,q1,q2⟩:=this
  have q3:=hB b o1 q1 hb2 q2
  have q4:=fl.1 b o1 q3
  rw [ho] at q4
  cases q4
  exact q3
theorem raisedD {pins:List (Addr×Obj)} {σ:St} {H1 H2:Hp} {s1 s2:Shared} {ea:Addr} {oe:Obj} {vs:Array Value} {cls a0:Value} {dd:Option Addr} (I:Inv (cxOf (CXE P w) P w K mg base N qual scope f cd A outer s H E) pins σ H1 s1)
  (un:Un (frs (cxOf (CXE P w) P w K mg base N qual scope f cd A outer s H E).stack) [] H1 H2 s1.heap s2.heap) (hok:HOk P w H2 s2.heap) (os:s2.os=s1.os) (bare:AllBare s2.gens) (hnew:s1.heap.get? ea=none) (hout:H2 ea=none)
  (he:s2.heap.get? ea=some oe) (hc:oe.cls=cls) (hd:oe.dict=dd) (hv:oe.data=.fields vs) (h1:vs[1]?=some .none) (h0:vs[0]?=some a0) (hE:E cls dd H2) :
  (cxOf (CXE P w) P w K mg base N qual scope f cd A outer s H E).xe (.ref ea) s2:=by
 have I2:=I.call' (s':=s2) os un hok bare fun b z=>nomatch z
 have hin:∀ env∈(cxOf (CXE P w) P w K mg base N qual scope f cd A outer s H E).stack,∀ b,env.frame=some b->b∈ea::frs (cxOf (CXE P w) P w K mg base N qual scope f cd A outer s H E).stack:=fun env he b hb=>yAL _ (List.mem_filterMap.mpr ⟨env,he,hb⟩)
 subst hc
 have eh:∀ b∈ea::frs (cxOf (CXE P w) P w K mg base N qual scope f cd A outer s H E).stack,(PySem.W.hideAll s2.heap (ea::frs (cxOf (CXE P w) P w K mg base N qual scope f cd A outer s H E).stack)).get? b=none:=fun b hb=>by
  exact PySem.W.hideAll_none _ hb
 refine wpAny_leaving_firstD (a0:=(a0,dd)) (base:=PySem.W.hideAll s2.heap (ea::frs (cxOf (CXE P w) P w K mg base N qual scope f cd A outer s H E).stack)) I.ok.frames (PySem.W.funFrames_hide I2.stack hin) rfl he (fun b o q=>PySem.W.of_hideAll _ q) (eh ea yAC) hv h1 ⟨h0,hd⟩ fun h' hL=>?_
 obtain ⟨k1,⟨_,_,k2⟩,k3,k4⟩:=hL
 refine cxe_of (s2:=s2) (B:=PySem.W.hideAll s2.heap (ea::frs (cxOf (CXE P w) P w K mg base N qual scope f cd A outer s H E).stack)) I un hok (fun b o q nb hor=>PySem.W.hideAll_get _ q fun z=>?_) I2.stack k4 ⟨k1,eh ea yAC,k2,k3⟩ hout hnew os bare hE
 rcases yAA.mp z with z | z
 .subst z
  rcases hor with y | ⟨o0,y⟩
  .exact y hout
  .rw [hnew] at y;cases y
 .exact nb z
end
open PySem PySem.Spec PySem.W PySem.Calls PyProof.Rows Builtin.Getset_descriptor Builtin.ObjectAttr
structure ExcC (K:W.Frag) (C:Addr):Prop where
 ga:W.findIn K (.ref C) "__getattribute__"=some (some (.builtin "BaseException.__getattribute__"))
 gt:W.findIn K (.ref C) "__getattr__"=some none
 ca:W.findIn K (.ref C) "__class__"=some (some (.builtin "object.__class__"))
 sg:PySem.W.specialIn K (.builtin "object.__class__") "__get__"=some (some (.builtin "getset_descriptor.__get__"))
 tk:PySem.W.takesIn K (.builtin "object.__class__")=some true
 mo:PySem.W.mroIn K C (.type "object")=some true
 mb:PySem.W.mroIn K C (.type "BaseException")=some true
section
variable {prog:Program} {w:World} {A:Around} {E:Value->Shared->Prop} {K:W.Frag} {a C:Addr} {o:Obj} {h:Heap} {g:Array GenState} {d:Drawn} {t:Nat} {os:OsState}
theorem ZCg {M:Model} (hx:h.get? a=some o) (hc:o.cls=.ref C):Looks M h (typeOf (.ref a)) (.ref C):=hc ▸ (Looks.ld hx).andThen .now
theorem exc_get {R:Result->Shared->Prop} (X:K.In h) (F:ExcC K C) (hx:h.get? a=some o) (hc:o.cls=.ref C) (hq:R (.ok (.ret (.ref C))) ⟨h,g,d,t,os⟩) :
  codeAny (model prog w) A (.call (.builtin "getset_descriptor.__get__") ⟨[.builtin "object.__class__",.ref a,.ref C],[]⟩) R ⟨h,g,d,t,os⟩:=by
 have y0:=ZCg (M:=model prog w) hx hc
 have y1:=looks_mroIn (M:=model prog w) X F.mo
 refine codeAny_call_builtin KF.slot_gs.plain KF.entry_gs (KF.slot_gs.check _ _ _ _ _ _ _ _ KF.type_class (KF.args_gs _ _ _) ?_)
 simp only [Builtin.«getset_descriptor.__get__»,descrGet]
 rw [dga_obj]
 refine wpAny_bind (wpAny_pure ?_)
 simp only [descrGetter,descrCheckInstance,descrNameAndClass,isInstance,KF.owner_class]
 repeat lk
 refine ⟨Code.quiet_builtin _ (by decide +kernel),codeAny_builtin KF.entry_class ?_⟩
 simp only [Builtin.«object.__class__»,shownTypeOf]
 repeat lk
 exact hq
theorem exc_ga_check {M:Model} {nameV:Value} {Q:Unit->Shared->Prop} (X:K.In h) (F:ExcC K C) (hx:h.get? a=some o) (hc:o.cls=.ref C) (hq:Q () ⟨h,g,d,t,os⟩) :
  wpAny M A (checkBuiltinCall "BaseException.__getattribute__" ⟨[.ref a,nameV],[]⟩) Q E ⟨h,g,d,t,os⟩:=by
 have y0:=ZCg (M:=M) hx hc
 have y1:=looks_mroIn (M:=M) X F.mb
 have k1:builtinKind "BaseException.__getattribute__"=some .slot:=by decide +kernel
 have k2:splitId "BaseException.__getattribute__"=some ("BaseException","__getattribute__"):=by decide +kernel
 have k3:=PySem.F.args_bexc_ga (.ref a) nameV
 simp only [checkBuiltinCall,k1,k2]
 refine wpAny_bind ?_
 unfold isInstance
 repeat lk
 exact hq
theorem exc_class {Q:Option Value->Shared->Prop} (X:K.In h) (F:ExcC K C) (hx:h.get? a=some o) (hc:o.cls=.ref C) (hq:Q (some (.ref C)) ⟨h,g,d,t+1,os⟩) :
  wpAny (model prog w) A (getAttr? (.ref a) "__class__") Q E ⟨h,g,d,t,os⟩:=by
 have y0:=ZCg (M:=model prog w) hx hc
 have y1:=looks_findIn (M:=model prog w) X F.ga
 have y2:=looks_findIn (M:=model prog w) X F.gt
 have y3:=looks_findIn (M:=model prog w) X F.ca
 have y4:=looks_specialIn (M:=model prog w) X F.sg
 have y5:=looks_takesIn (M:=model prog w) X F.tk
 have bd:=PySem.F.attr_ValueError.ga.bind (.ref a)
 simp only [getAttr?,getAttrBy?,getAttrBy]
 refine wpAny_bind (wpAny_mkText (wpAny_bind (wpAny_attempt (wpAny_holding (wpAny_bind (y0.at (wpAny_bind (y1.at ?_))))))))
 show wpAny _ _ (getAttrByItsOwn _ _ _ _ _ _) _ _ _
 unfold getAttrByItsOwn
 refine wpAny_bind ?_
 show wpAny _ _ (typeLookup (.ref C) "__getattr__") _ _ _
 refine y2.at (wpAny_bind (wpAny_attempt (wpAny_holding ?_)))
 show wpAny _ _ (boundAndCalled _ _ _) _ _ _
 unfold boundAndCalled
 rw [bd]
 refine wpAny_bind (wpAny_pure (wpAny_call (codeAny_call_builtin PySem.F.attr_ValueError.ga.plain PySem.F.entry_bexc_ga (exc_ga_check X F hx hc ?_))))
 unfold Builtin.«object.__getattribute__»
 refine wpAny_bind (wpAny_pure (wpAny_bind (wpAny_pure (wpAny_bind (y0.at (wpAny_bind ?_))))))
 unfold find
 refine wpAny_bind (y3.at (wpAny_bind ?_))
 show wpAny _ _ (specialOf (.builtin "object.__class__") "__get__") _ _ _
 refine y4.at (wpAny_bind ?_)
 unfold dataDescriptor?
 refine wpAny_bind (y5.at ?_)
 rw [if_pos rfl]
 refine wpAny_pure (wpAny_bind (wpAny_rule (wpAny_pure ?_)))
 show wpAny _ _ (holding [_] (call (.builtin "getset_descriptor.__get__") [.builtin "object.__class__",.ref a,.ref C]) >>= ret) _ _ _
 refine wpAny_bind (wpAny_holding (wpAny_call (exc_get X F hx hc ?_)))
 exact wpAny_pure (handed_on rfl (wpAny_pure hq))
theorem kitx_exc {D:Addr} (F:ExcC K D) (hdct:hasDictIn K D=true):KitX K (.ref a) (.ref D) (fun h=>∃ o,h.get? a=some o /\ o.cls=.ref D) where
 ty:=fun _ _ _ ⟨_,h1,h2⟩=>ZCg h1 h2
 it:=fun _ _ X _=>by
  obtain ⟨cdD,hcD,_⟩:=any_some hdct
  unfold clsIn at hcD
  split at hcD
  .rename_i z
   intro A1 Q1 E1 s1 k1 q1
   simp only [isType,loadHead]
   exact wpAny_bind (wpAny_loadPart (k1 _ _ (X _ _ z)) (wpAny_pure q1))
  .cases hcD
 ne:=fun h tp dd its n sl X htp=>by
  obtain ⟨cdD,hcD,_⟩:=any_some hdct
  refine Bool.eq_false_iff.mpr fun q=>?_
  cases Value.ref.inj (beq_iff_eq.mp q)
  unfold clsIn at hcD
  split at hcD
  .rename_i z
   have y:=(X _ _ z).symm.trans htp
   cases y
  .cases hcD
 ca:=fun {_ _ _ _ _ s} X ⟨_,h1,h2⟩ k=>by
  obtain ⟨hh,g,d,t,os⟩:=s
  exact exc_class X F h1 h2 k
end
def excO (a:Addr) (cls:Value) (dd:Option Addr):HO:=.ext fun h=>∃ o,h.get? a=some o /\ o.cls=cls /\ o.dict=dd /\ ∃ vs,o.data=.fields vs
section
variable {X:Cx}
theorem call_isExc:ZBi X (.builtin "isinstance") (fun xs H Q=>∃ a C c b dd,xs=[.ref a,c] /\ ZBx c=true /\ H a=some (excO a (.ref C) dd) /\ ExcC X.K C /\ PySem.W.hasDictIn X.K C=true /\ PySem.W.kitOne X.K (.ref C) (cval c)=some b /\ Q (.bl b) H):=by
 intro pins s σ H xs us Q I r h
 obtain ⟨a,C,c,b,dd,rfl,hc,ha,F,hd,e,q⟩:=h
 obtain ⟨u,w',rfl,r1,r2⟩:=ZCl r
 have e2:w'=cval c:=by
  cases c <;> first | (cases hc;done) | exact r2
 subst e2
 cases (show u=Value.ref a from r1)
 obtain ⟨⟨o,z1,z2,_⟩,_,_⟩:=(show ObjOk X.prog X.w H s.heap a (excO a (.ref C) dd) from I.hok a _ ha)
 have z:∃ o,s.heap.get? a=some o /\ o.cls=.ref C:=⟨o,z1,z2⟩
 exact kia_one (kitx_exc F hd) I.kIn z e (fun z=>nomatch z) fun tk=>⟨.bl b,H,I.tok tk,rfl,q⟩
end
open PySem PySem.Spec PySem.W PySem.Calls PyProof.Rows
theorem boot_ValueError:bootBuiltins "ValueError"=some (.type "ValueError"):=by decide +kernel
theorem ZAf {X:Cx} (K:W.Frag) (h:X.K=K:=by rfl):ZBi X (.builtin "isinstance") (fun xs H Q=>∃ a C c b dd,xs=[.ref a,c] /\ ZBx c=true /\ H a=some (excO a (.ref C) dd) /\ ExcC K C /\ PySem.W.hasDictIn K C=true /\ PySem.W.kitOne K (.ref C) (cval c)=some b /\ Q (.bl b) H):=h ▸ call_isExc
section
variable {X:Cx}
end
abbrev bmV:List Value:=[.type "ValueError",.type "Exception",.type "BaseException",.type "object"]
def tRaise (E:XK) (C:Addr):TS:=fun _ _ H=>E (.ref C) none H
section
variable {P:Program} {w:World} {K:W.Frag} {mg:Str->Option Value} {base:Heap} {N:List Str} {qual:Str} {scope:Scope} {f:Addr} {cd:Value} {A:Around} {outer:List Env} {s:Shared} {H:Hp} {E:XK}
theorem Fun.okX {x:Str} {st:Stmt} {fd:FuncData} {ps:List Str} {k:Nat} {sp:Sp} (F:Fun K x qual st f fd) (S:FnScope N ps (ZAB st)) (len:∀ vs H Q E,sp vs H Q E->vs.length=ps.length)
  (hbody:∀ (cdv:Value) (A:Around) (outer:List Env) (s:Shared) (H:Hp) (vs:List V) (Q:VK) (E:XK),Room k (A.deeper (envOfC qual (ZAB st) s.heap.objs.size f cdv))->sp vs H Q E ->
   ∃ t,PSs (cxOf (CXE P w) P w K mg base N qual (ZAB st) f cdv A outer s H E) (ZAK st) t /\ t { nx:=fun _ H'=>Q .non H',rt:=Q } (start N vs) H):FnOk P w K mg base (CXE P w) (k+1) f fd ps sp:=by
 obtain ⟨oc,od,kV,doc,pm,an,cdv,ct,osl,rfl,lk,hcd⟩:=F.ex
 exact ZDD lk hcd S len fun A outer s H vs Q E hr hsp=>hbody cdv A outer s H vs Q E hr hsp
end
theorem PS.nox {X:Cx} {st:Stmt} {t:TS} (h:PS X.nox st t):PS X st t:=fun pins s σ H D I hw=>
 wpAny_mono (h pins s σ H D (I.wish _) hw) (fun _ _ q=>q.unwish) fun _ _ z=>False.elim z
def PassesS (CX:CXT) (X:Cx) (E:St->XK):Prop:=∀ (pins:List (Addr×Obj)) (σ:St) (H:Hp) (s:Shared) (e:Value) (s':Shared),Inv X pins σ H s->CX X.stack H s (E σ) e s'->X.xe e s'
def tCallS (sp:Sp) (dvs:List V) (E:St->XK) (t:TA):TE:=fun σ H Q=>t σ H fun vs H1=>sp (vs++dvs) H1 Q (E σ)
section
variable {X:Cx} {CX:CXT} {k:Nat} {f:Addr} {fd:FuncData} {ps:List Str} {sp:Sp} {dvs:List V} {ds:List Value} {E:St->XK} {x:Str} {p pos:Pos} {e:Expr} {es:List Expr} {t:TA}
theorem run_fnS {pins:List (Addr×Obj)} {σ:St} {H:Hp} {s:Shared} {Q:VK} {E:XK} {us:List Value} {vs:List V} (F:FnOk X.prog X.w X.K X.mg X.base CX k f fd ps sp) (hr:Room k X.A) (hb:Binds X.K fd ps ds) (hd:Vals dvs ds) (hx:∀ e s',CX X.stack H s E e s'->X.xe e s')
  (I:Inv X pins σ H s) (r:Vals vs us) (h:sp (vs++dvs) H Q E):wpAny (model X.prog X.w) X.A (call (.ref f) us) (EP X pins σ Q) X.xe s:=by
 have r2:Vals (vs++dvs) (us++ds):=r.append hd
 have hl:(us++ds).length=ps.length:=by rw [<- r2.length];exact F.len _ _ _ _ h
 refine wpAny_call (codeAny_mono (F.run X.A X.stack s H ⟨us,[]⟩ (us++ds) (vs++dvs) Q E hr I.env0 (hb s us I.kIn hl) r2 h) fun r s' hq=>?_)
 cases r with
 | error e=>exact hx e s' hq
 | ok fl=>
  cases fl with
  | ret u=>exact I.after hq
  | next=>exact False.elim hq
  | brk=>exact False.elim hq
  | cont=>exact False.elim hq
end
abbrev Cx.tries (X:Cx) (pn:List (Addr×Obj)) (xe:Value->Shared->Prop):Cx:={ X with pn:=pn,xe:=xe }
abbrev Cx.handles (X:Cx) (e:Addr):Cx:={ X with A:=X.A.mark (some (.ref e)),calm:=false,xe:=fun _ _=>False }
section
variable {X:Cx} {pins pins':List (Addr×Obj)} {σ:St} {H:Hp} {s:Shared} {xe:Value->Shared->Prop} {e:Addr}
theorem Inv.toTry (I:Inv X pins σ H s):Inv (X.tries (X.pn++pins) xe) [] σ H s :=
 ⟨⟨I.ok.mod,I.ok.kind,I.ok.glob,I.ok.blt,I.ok.above,I.ok.inj,I.ok.has,I.ok.cab,I.ok.hd,I.ok.frames,I.ok.stk,I.ok.exf,I.ok.bs,I.ok.bsz,I.ok.noex,I.ok.exfs,I.ok.funs,I.ok.frf⟩,I.os,I.bare,I.base,I.loc,I.cell,I.free,I.freeC,fun p hp=>I.pin p (by simpa using hp),I.hok,I.len⟩
theorem Inv.ofTry (I:Inv (X.tries (X.pn++pins) xe) pins' σ H s):Inv X pins σ H s :=
 ⟨⟨I.ok.mod,I.ok.kind,I.ok.glob,I.ok.blt,I.ok.above,I.ok.inj,I.ok.has,I.ok.cab,I.ok.hd,I.ok.frames,I.ok.stk,I.ok.exf,I.ok.bs,I.ok.bsz,I.ok.noex,I.ok.exfs,I.ok.funs,I.ok.frf⟩,I.os,I.bare,I.base,I.loc,I.cell,I.free,I.freeC,fun p hp=>I.pin p (List.mem_append_left _ hp),I.hok,I.len⟩
theorem Inv.toH (I:Inv X pins σ H s) (e:Addr):Inv (X.handles e) pins σ H s :=
 ⟨⟨I.ok.mod,I.ok.kind,I.ok.glob,I.ok.blt,I.ok.above,I.ok.inj,I.ok.has,I.ok.cab,(fun z=>nomatch z),I.ok.frames,I.ok.stk,I.ok.exf,I.ok.bs,I.ok.bsz,I.ok.noex,I.ok.exfs,I.ok.funs,I.ok.frf⟩,I.os,I.bare,I.base,I.loc,I.cell,I.free,I.freeC,I.pin,I.hok,I.len⟩
theorem Inv.ofH (I:Inv (X.handles e) pins σ H s) (ok:X.Ok):Inv X pins σ H s:=⟨ok,I.os,I.bare,I.base,I.loc,I.cell,I.free,I.freeC,I.pin,I.hok,I.len⟩
theorem SP.ofTry {D:Ends} {f:Flow} (h:SP (X.tries (X.pn++pins) xe) pins' D f s):SP X pins D f s:=by
 cases f with
 | next=>obtain ⟨σ',H',I,q⟩:=h;exact ⟨σ',H',I.ofTry,q⟩
 | brk=>obtain ⟨σ',H',I,q⟩:=h;exact ⟨σ',H',I.ofTry,q⟩
 | cont=>obtain ⟨σ',H',I,q⟩:=h;exact ⟨σ',H',I.ofTry,q⟩
 | ret u=>obtain ⟨v,σ',H',I,r,q⟩:=h;exact ⟨v,σ',H',I.ofTry,r,q⟩
theorem Inv.track {o:HO} (I:Inv X pins σ H s) (h0:X.s₀.heap.get? e=none) (hL:e≠X.env.locals) (hC:∀ x c,X.env.cells.lookup x=some c->c≠e) (hp:∀ p∈X.pn++pins,p.1≠e) (hn:H e=none) (new:ObjOk X.prog X.w (upd H e o) s.heap e o):Inv X pins σ (upd H e o) s:=by
 have k:∀ b u,H b=some u->upd H e o b=some u:=fun b u q=>by rw [ZAC (ZAF q hn)];exact q
 refine ⟨I.ok,I.os,I.bare,⟨I.base.keep,I.base.slot,fun b ob q n hx=>?_,I.base.there,fun b xs q=>k _ _ (I.base.tups b xs q),fun b ob u q=>k _ _ (I.base.frzs b ob u q),fun b ps q=>?_⟩,I.loc,I.cell,?_,fun x c q=>?_,fun p hp'=>?_,fun b u q=>?_,I.len⟩
 .rw [ZAC (fun z=>by rw [z,h0] at q;cases q)]
  exact I.base.free b ob q n hx
 .obtain ⟨m,hm⟩:=I.base.tbls b ps q
  exact ⟨m,k _ _ hm⟩
 .rw [ZAC (Ne.symm hL)];exact I.free
 .rw [ZAC (hC x c q)];exact I.freeC x c q
 .obtain ⟨q1,q2,q3,q4,q5⟩:=I.pin p hp'
  exact ⟨q1,by rw [ZAC (hp p hp')];exact q2,q3,q4,q5⟩
 .by_cases z:b=e
  .subst z
   rw [ZAG] at q
   cases q
   exact new
  .rw [ZAC z] at q
   exact (I.hok b u q).stay (fun _ _ _ y=>y) (fun c y=>k _ _ y) fun c xs y=>k _ _ y
theorem Inv.gone {i t':Nat} {x:Str} {m:Str->Option Value} {v:Option Value} {h':Heap} (I:Inv X pins σ H s) (hN:X.N.Nodup) (hi:X.N[i]?=some x) (hn:s.heap.Ns X.env.locals m) (hn':h'.Ns X.env.locals (fun y=>if y=x then v else m y)) (hs:Heap.SameBut X.env.locals s.heap h') :
  Inv X pins (σ.set i none) H { s with heap:=h',toks:=t' }:=by
 obtain ⟨m0,hn0,hl⟩:=I.loc
 obtain ⟨oL,_,_,hoL,_⟩:=id hn
 have hm:m0=m:=by
  obtain ⟨o1,es1,ep1,ho1,hd1,_,hf1⟩:=hn0
  obtain ⟨o2,es2,ep2,ho2,hd2,_,hf2⟩:=hn
  rw [ho1] at ho2
  cases ho2
  rw [hd1] at hd2
  cases hd2
  funext y
  rw [<- hf1 y,<- hf2 y]
 subst hm
 have nL:∀ b ob,X.s₀.heap.get? b=some ob->b≠X.env.locals:=fun b ob q=>yAD (yAG (Heap.lt_size q) I.ok.above)
 refine ⟨I.ok,I.os,I.bare,⟨fun b o q n hb hx=>(hs.2 b (nL b o q)).trans (I.base.keep b o q n hb hx),fun b o q n hb hx=>?_,I.base.free,fun b o q hx=>?_,I.base.tups,I.base.frzs,I.base.tbls⟩,⟨_,hn',fun j y v' q1 q2 q3=>?_⟩,fun y c q=>?_,I.free,I.freeC,fun p hp=>?_,fun b u q=>?_,by simpa using I.len⟩
 .obtain ⟨sl,q1⟩:=I.base.slot b o q n hb hx
  exact ⟨sl,(hs.2 b (nL b o q)).trans q1⟩
 .obtain ⟨o',q1⟩:=I.base.there b o q hx
  exact ⟨o',(hs.2 b (nL b o q)).trans q1⟩
 .by_cases hj:j=i
  .subst hj
   by_cases hlen:j < σ.length
   .rw [List.getElem?_set_self hlen] at q2;cases q2
   .rw [List.getElem?_eq_none (by rw [List.length_set];omega)] at q2;cases q2
  .rw [List.getElem?_set_ne (Ne.symm hj)] at q2
   obtain ⟨u',r',q⟩:=hl j y v' q1 q2 q3
   refine ⟨u',r',?_⟩
   rcases q with ⟨k,q⟩ | ⟨k,c,q,z⟩
   .have:y≠x:=fun z=>hj (ZCF hN q1 (z ▸ hi))
    exact .inl ⟨k,by simp [this,q]⟩
   .exact .inr ⟨k,c,q,z.sameBut hs (I.cne y c q)⟩
 .obtain ⟨w',z⟩:=I.cell y c q
  exact ⟨w',z.sameBut hs (I.cne y c q)⟩
 .obtain ⟨q,n,ne,nf,d⟩:=I.pin p hp
  exact ⟨(hs.2 p.1 ne).trans q,n,ne,nf,d⟩
 .refine (I.hok b u q).stay (fun c w' hc z=>(hs.2 c ?_).trans z) (fun _ z=>z) fun _ _ z=>z
  rintro rfl
  rcases hc with y | y
  .rw [<- y,I.free] at q;cases q
  .rw [I.free] at y;cases y
end
def Ehit (K:W.Frag) (HC:Addr) (i:Nat) (ts:TS) (D:Ends):St->XK:=fun σ cls dd H'=>exmOne K cls (.ref HC)=some true /\ ∀ ea,H' ea=none ->
 ts { nx:=fun σ' H''=>D.nx (σ'.set i none) H'',rt:=D.rt,bk:=fun σ' H''=>D.bk (σ'.set i none) H'',ct:=fun σ' H''=>D.ct (σ'.set i none) H'' } (σ.set i (some (.ref ea))) (upd H' ea (excO ea cls dd))
def tTry (K:W.Frag) (HC:Addr) (i:Nat) (tb:(St->XK)->TS) (ts:TS):TS:=fun D σ H=>tb (Ehit K HC i ts D) D σ H
theorem ps_try {X:Cx} {body suite:List Stmt} {b₀:Stmt} {x n:Str} {i:Nat} {HC:Addr} {np hpos pos:Pos} {tb:(St->XK)->TS} {ts:TS} (hstk:X.stack=X.env::X.outer /\ X.env.frame=some X.env.locals) (hex:X.ex=[]) (hg:Gl X x) (hm:X.mg x=some (.ref HC))
  (hN:X.N.Nodup) (hi:X.N[i]?=some n) (hl:X.env.scope.names.lookup n=some .local)
  (hb:∀ (pn:List (Addr×Obj)) (xe:Value->Shared->Prop) (E:St->XK),PassesS (CXE X.prog X.w) (X.tries pn xe) E->PSs (X.tries pn xe) body (tb E)) (hs:∀ e,PSs (X.handles e) (b₀::suite) ts) (hdb:(x == ("__debug__":Str))=false:=by decide) :
  PS X (.Try body [.ExceptHandler (some (.Name x np)) (some n) (b₀::suite) hpos] [] [] pos) (tTry X.K HC i tb ts):=by
 intro pins s σ H D I hw
 refine wpAny_Try_except ?_
 refine wpAny_mono (hb (X.pn++pins) _ (Ehit X.K HC i ts D) ?_ [] s σ H D I.toTry hw) (fun f s1 q=>?_) fun e s1 q=>q
 .intro pins' σ1 H1 s1 e s2 I1 hc
  obtain ⟨ea,cls,dd,H',rfl,os,bare,un,hok,⟨B,a0,fl,hout,hnew,hB⟩,hmt,hE⟩:=hc
  have J:Inv X pins σ1 H1 s1:=I1.ofTry
  obtain ⟨e1,e2⟩:=hstk
  have un:Un (frs X.stack) [] H1 H' s1.heap s2.heap:=un
  have fr:=J.stkFree2 un
  have af:X.A.frames=some (X.env::X.outer):=by rw [<- e1];exact J.ok.frames
  have fl:Heap.FlyingD B (X.env::X.outer) ea cls (a0,dd) s2.heap:=by rw [<- e1];exact fl
  have ff:s2.heap.FunFrames B X.stack:=by rw [e1];exact fl.2.2.1
  have nx:∀ h5,Heap.FlyingD B (X.env::X.outer) ea cls (a0,dd) h5->s2.heap.UpToSlots h5->Inv X pins σ1 H' { s2 with heap:=h5 }:=fun h5 f5 u5=>J.call' os (un.fly hB f5.1 u5 ff) (hok.fly hB f5.1 fr) bare fun b z=>nomatch z
  refine wpAny_looks_onD af e2 fl fun h3 held up3=>?_
  refine wpAny_landsD held fun h4 fl4 up4=>?_
  have I4:=nx h4 fl4 (up3.trans up4)
  obtain ⟨ob,hob,hcl⟩:=fl4.there
  refine wpAny_handleBy_cons (codeAny_handlers_test ?_) (by intro q;cases q)
  refine ZBW (X:=X.handles ea) (I4.toH ea) hg hm ?_ hdb
  refine (exm_one I4.kIn (hcl ▸ (Looks.ld hob).andThen .now) hmt).here ?_
  refine codeAny_handlers_suite_as ?_
  refine PySem.LANDS2_ fl4 fun h6 fl6 up6=>?_
  have I6:=nx h6 fl6 ((up3.trans up4).trans up6)
  obtain ⟨ob6,hob6,hcl6,hdd6⟩:=fl6.thereD
  refine store_ok2 I6 hN hi (.inl hl) (show RelV (.ref ea) (.ref ea) from rfl) (fun s7 I7 hsb=>?_) (.inr hl)
  have nL:ea≠X.env.locals:=fun z=>by
   obtain ⟨m,⟨o,_,_,ho,_⟩,_⟩:=J.loc
   rw [<- z,hnew] at ho;cases ho
  have nC:∀ x c,X.env.cells.lookup x=some c->c≠ea:=fun x c q z=>by
   obtain ⟨v,o,ho,_⟩:=J.cell x c q
   rw [z,hnew] at ho;cases ho
  have hob7:s7.heap.get? ea=some ob6:=by
   obtain ⟨a,sb,z⟩:=hsb
   refine (sb.2 ea ?_).trans hob6
   rcases z with z | z
   .rw [z];exact nL
   .exact Ne.symm (nC _ _ z)
  have I8:=(I7.track (e:=ea) (o:=excO ea cls dd) (by
   cases q:X.s₀.heap.get? ea with
   | none=>rfl
   | some o=>
    obtain ⟨o1,z⟩:=J.base.there ea o q (by rw [hex];exact yAE)
    rw [hnew] at z;cases z) nL nC (fun p hp z=>by
   have:=(J.pin p hp).1
   rw [z,hnew] at this;cases this) hout ⟨⟨ob6,hob7,hcl6,hdd6⟩,⟨ob6,hob7⟩,fun g1 g2 ⟨o,z1,z2⟩ k=>⟨o,k o z1,z2⟩⟩).toH ea
  refine wpAny_mono (hs ea pins s7 _ _ _ I8 (hE ea hout)) (fun f s8 q8=>?_) fun _ _ z=>z.elim
  have kd:(X.env.scope.kind == .class || (X.env.scope.kind == .module && X.env.locals != X.env.globals))=false:=by rw [J.ok.kind];rfl
  cases f with
  | next=>
   obtain ⟨σ',H'',I',q⟩:=q8
   have I':=I'.ofH J.ok
   obtain ⟨m,hn,_⟩:=I'.loc
   exact wpAny_nameGoes_keeps hl hn kd fun h9 v hn9 sb9=>⟨_,_,I'.gone hN hi hn hn9 sb9,q⟩
  | brk=>
   obtain ⟨σ',H'',I',q⟩:=q8
   have I':=I'.ofH J.ok
   obtain ⟨m,hn,_⟩:=I'.loc
   exact wpAny_nameGoes_keeps hl hn kd fun h9 v hn9 sb9=>⟨_,_,I'.gone hN hi hn hn9 sb9,q⟩
  | cont=>
   obtain ⟨σ',H'',I',q⟩:=q8
   have I':=I'.ofH J.ok
   obtain ⟨m,hn,_⟩:=I'.loc
   exact wpAny_nameGoes_keeps hl hn kd fun h9 v hn9 sb9=>⟨_,_,I'.gone hN hi hn hn9 sb9,q⟩
  | ret u=>
   obtain ⟨v',σ',H'',I',r,q⟩:=q8
   have I':=I'.ofH J.ok
   obtain ⟨m,hn,_⟩:=I'.loc
   exact wpAny_nameGoes_keeps hl hn kd fun h9 v hn9 sb9=>⟨_,_,_,I'.gone hN hi hn hn9 sb9,r,q⟩
 .have q':SP X pins D f s1:=q.ofTry
  cases f with
  | next=>exact wpAny_execs_nil q'
  | brk=>exact q'
  | cont=>exact q'
  | ret u=>exact q'
open PySem PySem.Spec PySem.W PySem.Calls PyProof.Rows Builtin.Getset_descriptor Builtin.ObjectAttr
section
variable {prog:Program} {w:World} {A:Around} {E:Value->Shared->Prop} {K:W.Frag} {a C:Addr} {o:Obj} {h:Heap} {g:Array GenState} {d:Drawn} {t:Nat} {os:OsState}
theorem exc_value {name:Str} {v:Value} {od:Option Obj} {expr:Bool} {Q:Value->Shared->Prop} (X:K.In h) (F:ExcC K C) (I:PySem.W.InstAt h a o C od) (hf:findObj K C od name=some (.value v)) (hv:handedIn v=true) (hq:Q v ⟨h,g,d,t+1,os⟩) :
  wpAny (model prog w) A (getAttr (.ref a) name expr) Q E ⟨h,g,d,t,os⟩:=by
 have y0:=I.type (M:=model prog w)
 have y1:=looks_findIn (M:=model prog w) X F.ga
 have y2:=looks_findIn (M:=model prog w) X F.gt
 have y3:=looks_find (M:=model prog w) X I hf
 have bd:=PySem.F.attr_ValueError.ga.bind (.ref a)
 have hx0:(expr && onTheHeap (Value.builtin "BaseException.__getattribute__"))=false:=by cases expr <;> rfl
 simp only [getAttr,getAttrBy]
 refine wpAny_bind (wpAny_mkText (wpAny_holding (wpAny_bind (y0.at (wpAny_bind (y1.at ?_))))))
 show wpAny _ _ (getAttrByItsOwn _ _ _ _ _ _) _ _ _
 unfold getAttrByItsOwn
 refine wpAny_bind ?_
 show wpAny _ _ (typeLookup (.ref C) "__getattr__") _ _ _
 refine y2.at (wpAny_bind (wpAny_attempt (wpAny_holding ?_)))
 unfold callGetattribute
 rw [hx0]
 show wpAny _ _ (boundAndCalled _ _ _) _ _ _
 unfold boundAndCalled
 rw [bd]
 refine wpAny_bind (wpAny_pure (wpAny_call (codeAny_call_builtin PySem.F.attr_ValueError.ga.plain PySem.F.entry_bexc_ga (exc_ga_check X F I.at_ I.cls ?_))))
 unfold Builtin.«object.__getattribute__»
 refine wpAny_bind (wpAny_pure (wpAny_bind (wpAny_pure (wpAny_bind (y0.at (wpAny_bind (y3.at ?_)))))))
 refine wpAny_pure ?_
 show wpAny _ _ (handedOut v) _ _ _
 rw [handedOut_of hv]
 exact wpAny_pure hq
end
open PySem PySem.Spec PySem.W PySem.Calls PyProof.Rows
section
variable {prog:Program} {w:World} {A:Around} {E:Value->Shared->Prop} {h:Heap} {g:Array GenState} {d:Drawn} {t:Nat} {os:OsState}
variable {nm q:Str} {C N:Addr} {bs bm bmB:List Value} {hdct:Bool} {sn:List Str} {sub:List Value} {ab:Bool} {col:Option Bool} {dd:Option Addr} {k0 k1 k2 k3 k5:Option Value} {B Bn newId nid initId inN:String} {bmN:List Value}
theorem type_call_initU (Fn:ExcBaseFacts Bn newId inN bmN) (hBn:bmB.contains (.type Bn)=true) (F:ExcBaseFacts B nid initId bmB) (T:OwnTail h bmB bm) {mN:Str->Option Value} {rest:List Value} {fI:Addr} {oI:Obj} {Q:Fin->Shared->Prop}
  (hC:h.get? C=some (excClassObj nm q C N bs bm hdct sn sub ab col dd k0 k1 k2 k3 k5 newId)) (hn:h.Ns N mN) (hi:mN "__init__"=some (.ref fI)) (hfI:h.get? fI=some oI) (hfc:oI.cls=.type "function")
  (hq:∀ h' e,Heap.MadeExcOf h h' e (.ref C) rest->e=h.objs.size+1->wpAny (model prog w) A (call (.ref fI) (.ref e::rest)) (fun r s'=>r=.none /\ Q (.done (.ret (.ref e))) s') E ⟨h',g,d,t,os⟩) (hrest:rest.length <= sizeLine:=by size_fits) :
  wpAny (model prog w) A (Builtin.«type.__call__» ⟨.ref C::rest,[]⟩) Q E ⟨h,g,d,t,os⟩:=by
 repeat (first | with_reducible refine wpAny_loadPart_at hC ?_ | with_reducible refine wpAny_madeBy_exc hC ?_ | wp_step)
 refine codeAny_call_builtin_code (Code.quiet_builtin _ Fn.quiet) (wpAny_check_new_subU Fn hBn T hC ?_)
 refine codeAny_exc_new_subU Fn hBn F T hC ?_ hrest
 show wpAny _ _ _ _ _ _
 have kp:∀ b o,h.get? b=some o->((h.push { cls:=.type "tuple",data:=.seq rest.toArray }).push { cls:=.ref C,data:=.fields #[.ref h.objs.size,.none,.none,.none,.bool false,.none] }).get? b=some o:=fun b o e=>Heap.get?_push_of_some _ (Heap.get?_push_of_some _ e)
 have hC₁:=kp _ _ hC
 have hfI₁:=kp _ _ hfI
 have hn₁:=hn.keeps kp
 have hget:((h.push { cls:=.type "tuple",data:=.seq rest.toArray }).push
   { cls:=.ref C,data:=.fields #[.ref h.objs.size,.none,.none,.none,.bool false,.none] }).get? (h.objs.size+1)=some
   { cls:=.ref C,data:=.fields #[.ref h.objs.size,.none,.none,.none,.bool false,.none] }:=by heap_get
 have hcC:(Value.ref C::bm).contains (.ref C)=true:=by simp
 have T₁:=T.keeps kp
 unfold isInstance
 repeat (first | with_reducible refine wpAny_loadPart_at hget ?_ | (with_reducible refine wpAny_isSubtype_exc hC₁ ?_;rw [hcC]) | wp_step)
 show wpAny _ _ (typeLookup (.ref C) _) _ _ _
 refine wpAny_typeLookup_tail hC₁ hn₁ T₁ F.mroIs F.init.lookup ?_
 rw [hi]
 refine wpAny_holding (wpAny_bind ?_)
 unfold bindSpecial
 refine wpAny_bind (wpAny_typeOf (T:="function") ⟨_,hfI₁,hfc⟩ ?_)
 rw [if_pos (by decide)]
 refine wpAny_pure (wpAny_bind (wpAny_mono (hq _ (h.objs.size+1) ⟨kp,Heap.get?_none_of_le (yAM _),h.objs.size,hget,Heap.get?_none_of_le (yAB _),?_⟩ rfl) (fun r s' hr=>?_) fun _ _ x=>x))
 .exact Heap.get?_push_of_some _ (Heap.get?_push_at rfl rfl)
 .obtain ⟨rfl,hQ⟩:=hr
  wp_walk
  exact hQ
theorem call_exc_initU (Fn:ExcBaseFacts Bn newId inN bmN) (hBn:bmB.contains (.type Bn)=true) (F:ExcBaseFacts B nid initId bmB) (T:OwnTail h bmB bm) {mN:Str->Option Value} {rest:List Value} {fI:Addr} {oI:Obj} {Q:Value->Shared->Prop}
  (hC:h.get? C=some (excClassObj nm q C N bs bm hdct sn sub ab col dd k0 k1 k2 k3 k5 newId)) (hn:h.Ns N mN) (hi:mN "__init__"=some (.ref fI)) (hfI:h.get? fI=some oI) (hfc:oI.cls=.type "function")
  (hq:∀ h' e,Heap.MadeExcOf h h' e (.ref C) rest->e=h.objs.size+1->wpAny (model prog w) (A.under (.builtin "type.__call__" ⟨.ref C::rest,[]⟩)) (call (.ref fI) (.ref e::rest)) (fun r s'=>r=.none /\ Q (.ref e) s') E ⟨h',g,d,t,os⟩) (hrest:rest.length <= sizeLine:=by size_fits) :
  wpAny (model prog w) A (call (.ref C) rest) Q E ⟨h,g,d,t,os⟩:=by
 have f1:=tc_lookup
 have f2:=tc_bind (.ref C)
 have hT:(⟨h,g,d,t,os⟩:Shared).TypeIs (.ref C) "type":=⟨_,hC,rfl⟩
 refine wpAny_call (codeAny_of_tree ?_)
 show wpAny _ _ (callAny (.ref C) _) _ _ _
 repeat (any_goals (first | assumption | with_reducible refine wpAny_loadPart_at hC ?_ | wp_step))
 refine ⟨rfl,?_⟩
 refine codeAny_call_builtin_at (Code.quiet_builtin _ (by decide +kernel)) entry_typeCall (wpAny_check_type_call_sub hC (type_call_initU (hrest:=hrest) Fn hBn F T hC hn hi hfI hfc fun h' e hm he=>?_))
 exact hq h' e hm he
end
section
variable {M:Model} {A:Around} {E:Value->Shared->Prop} {env:Env}
variable {nm q:Str} {C N:Addr} {bs bm:List Value} {hdct:Bool} {sn:List Str} {sub:List Value} {ab:Bool} {col:Option Bool} {dd:Option Addr} {k0 k1 k2 k3 k5:Option Value} {newId:String}
theorem raiseStmt_madeD {s:Shared} {x:Sem Value} {Q:Flow->Shared->Prop} (hbase:bm.contains (.type "BaseException")=true) (hh:A.handled=none)
  (h:wpAny M A x (fun v s₁=>∃ e oe vs,v=.ref e /\ s₁.heap.get? C=some (excClassObj nm q C N bs bm hdct sn sub ab col dd k0 k1 k2 k3 k5 newId) /\
   s₁.heap.get? e=some oe /\ oe.cls=.ref C /\ oe.data=.fields vs /\ vs[1]?=some .none /\ E (.ref e) s₁) E s) :
  wpAny M A (raiseStmt env (some x) none) Q E s:=by
 have hcB:(Value.ref C::bm).contains (.type "BaseException")=true:=by rw [List.contains_cons,hbase,Bool.or_true]
 unfold raiseStmt
 refine wpAny_bind (wpAny_mono h (fun v s₁ h₁=>?_) fun _ _ x=>x)
 obtain ⟨e,oe,vs,rfl,hC,he,hc,hd,h1,hE⟩:=h₁
 obtain ⟨oc,od,odt,osl⟩:=oe
 dsimp only at hc hd
 subst hc hd
 obtain ⟨hp,g,d,tk,os⟩:=s₁
 repeat (first | with_reducible refine wpAny_loadPart_at he ?_ | with_reducible refine wpAny_loadPart_at hC ?_ | (with_reducible refine wpAny_isSubtype_exc hC ?_;rw [hcB]) | wp_step)
 rw [h1]
 exact wpAny_pure (by rw [if_neg (by decide)];exact wpAny_pure (wpAny_raiseNew_none hh hE))
end
def ZBh (K:W.Frag) (C fI:Addr) (bmB:List Value) (newId:String):Bool:=match K.lookup C with
 | some ⟨.type "type",_,.cls cd,sl⟩=>(match cd.mro,sl.toList with
  | .ref C'::bm,[_,_,_,_,some (.builtin n),_]=>C' == C && n == newId && !cd.hasDel && tailIn K bmB bm && nsOkIn K cd.ns && nsIn K cd.ns "__init__" == some (some (.ref fI))
  | _,_=>false)
 | _=>false
theorem ns_some_of {K:W.Frag} {h:Heap} {N:Addr} {mg:Str->Option Value} {n:Str} {v:Value} (X:K.In h) (G:h.Ns N mg) (e:W.nsIn K N n=some (some v)):mg n=some v:=by
 obtain ⟨o,es,ep,ho,hd,_,hf⟩:=G
 unfold nsIn at e
 split at e
 .rename_i hl
  rw [X _ _ hl] at ho
  cases ho
  cases hd
  split at e
  .rename_i y he
   rw [<- hf]
   unfold nsFind findBy
   rw [<- Array.find?_toList,he]
   exact (Option.some.inj e)
  .split at e <;> cases e
 .cases e
theorem ZCJ {K:W.Frag} {h:Heap} {C fI:Addr} {bmB:List Value} {newId:String} (X:K.In h) (q:ZBh K C fI bmB newId=true):∃ bm N nm qn bs hdct sn sub ab col dd k0 k1 k2 k3 k5 mN,
  h.get? C=some (excClassObj nm qn C N bs bm hdct sn sub ab col dd k0 k1 k2 k3 k5 newId) /\ h.Ns N mN /\ mN "__init__"=some (.ref fI) /\ OwnTail h bmB bm /\ K.lookup C=some (excClassObj nm qn C N bs bm hdct sn sub ab col dd k0 k1 k2 k3 k5 newId):=by
 unfold ZBh at q
 split at q
 next dd cd sl ho=>
  split at q
  next C1 bm k0 k1 k2 k3 n1 k5 hm hs=>
   simp only [Bool.and_eq_true,beq_iff_eq,Bool.not_eq_true'] at q
   obtain ⟨⟨⟨⟨⟨y1,y2⟩,y3⟩,y4⟩,y5⟩,y6⟩:=q
   subst y1 y2
   obtain ⟨nm,bs,mro,ns,qn,hd,sn,sub,ab,col,del⟩:=cd
   dsimp only at hm y3 y5 y6
   subst hm y3
   have z:sl=#[k0,k1,k2,k3,some (.builtin n1),k5]:=by
    cases sl
    simp only at hs
    rw [hs]
   subst z
   have G:h.Ns ns (h.nsMap ns):=.of_isNs (isNs_of_in X y5)
   exact ⟨bm,ns,nm,qn,bs,hd,sn,sub,ab,col,dd,k0,k1,k2,k3,k5,_,X _ _ ho,G,ns_some_of X G y6,tail_of_in X y4,ho⟩
  next=>cases q
 next=>cases q
open PySem PySem.Spec PySem.W PySem.Calls PyProof.Rows Builtin.Getset_descriptor Builtin.ObjectAttr
def excM (a:Addr) (cls:Value) (dd:Option Addr):HO:=.ext fun h=>∃ o,h.get? a=some o /\ o.cls=cls /\ o.dict=dd /\ ∃ vs,o.data=.fields vs /\ vs[1]?=some .none /\ ∃ a0,vs[0]?=some a0
theorem ZCZ {P:Program} {w:World} {H:Hp} {h:Heap} {a:Addr} {cls:Value} {dd:Option Addr} {o:Obj} {vs:Array Value} {a0:Value} (e:h.get? a=some o) (e1:o.cls=cls) (e2:o.dict=dd) (e3:o.data=.fields vs) (e4:vs[1]?=some .none) (e5:vs[0]?=some a0):ObjOk P w H h a (excM a cls dd) :=
 ⟨⟨o,e,e1,e2,vs,e3,e4,a0,e5⟩,⟨o,e⟩,fun h1 h2 ⟨o,z1,z2⟩ k=>⟨o,k o z1,z2⟩⟩
theorem ZBb {P:Program} {w:World} {H:Hp} {h:Heap} {a:Addr} {cls:Value} {dd:Option Addr} (x:HOk P w H h) (e:H a=some (excM a cls dd)):∃ o vs a0,h.get? a=some o /\ o.cls=cls /\ o.dict=dd /\ o.data=.fields vs /\ vs[1]?=some .none /\ vs[0]?=some a0 :=
 let ⟨⟨o,e1,e2,e3,vs,e4,e5,a0,e6⟩,_⟩:=x a _ e;⟨o,vs,a0,e1,e2,e3,e4,e5,e6⟩
theorem upd_self {H:Hp} {a:Addr} {o:HO} (h:H a=some o):upd H a o=H:=funext fun b=>by
 by_cases z:b=a
 .rw [z,ZAG,h]
 .rw [ZAC z]
section
variable {X:Cx}
theorem call_verr (fI:Addr):ZBi X (.builtin "ValueError.__init__") (fun xs H Q=>∃ e C dd v,xs=[.ref e,v] /\ H e=some (excM e (.ref C) dd) /\ ZBh X.K C fI bmV "ValueError.__new__"=true /\ Q .non H):=by
 intro pins s σ H xs us Q I r h
 obtain ⟨e,C,dd,v,rfl,he,hm,q⟩:=h
 obtain ⟨u,w',rfl,r1,r2⟩:=ZCl r
 cases (show u=Value.ref e from r1)
 obtain ⟨o,vs,a0,z1,z2,z3,z4,z5,z6⟩:=ZBb I.hok he
 have F:=PySem.F.excBase_ValueError
 obtain ⟨bm,N',nm,qn,bs,hdct,sn,sub,ab,col,d0,k0,k1,k2,k3,k5,mN,hC,hN,hni,T,hKC⟩:=ZCJ I.kIn hm
 obtain ⟨h0,g,d,t,os⟩:=s
 refine wpAny_call (codeAny_call_builtin F.init.plain F.initEntry (wpAny_check_init_subU F T hC z1 z2 ?_))
 show wpAny _ _ (do Builtin.BaseException.bexcPut (.ref e) 0 (<- newTuple [w']);ret .none) _ _ _
 refine wpAny_bind (wpAny_newTuple ?_ (by rw [sizeLine_eq];simp))
 have z1':(h0.push { cls:=.type "tuple",data:=.seq [w'].toArray }).get? e=some o:=Heap.get?_push_of_some _ z1
 have hsz:0 < vs.size:=by
  cases hv:vs.size with
  | zero=>rw [Array.getElem?_eq_none (by omega)] at z6;cases z6
  | succ n=>omega
 unfold Builtin.BaseException.bexcPut
 refine wpAny_bind (wpAny_bind (wpAny_field z1' z4 z6 (wpAny_bind (wpAny_setField z1' z4 hsz ?_))))
 have h2:((h0.push { cls:=.type "tuple",data:=.seq [w'].toArray }).update e (Obj.mapFields (·.setIfInBounds 0 (.ref h0.objs.size)))).get? e=some (o.mapFields (·.setIfInBounds 0 (.ref h0.objs.size))) :=
  Heap.get?_update_self _ z1' (by obtain ⟨oc,od,odt,osl⟩:=o;cases z4;rfl)
 have fin:∀ tk,EP X pins σ Q .none ⟨(h0.push { cls:=.type "tuple",data:=.seq [w'].toArray }).update e (Obj.mapFields (·.setIfInBounds 0 (.ref h0.objs.size))),g,d,tk,os⟩:=fun tk=>by
  refine ⟨.non,H,?_,rfl,q⟩
  have J:=I.write (x:=e) (e:=e) (o:=excM e (.ref C) dd) (t':=tk) (h':=(h0.push { cls:=.type "tuple",data:=.seq [w'].toArray }).update e (Obj.mapFields (·.setIfInBounds 0 (.ref h0.objs.size)))) (by rw [he];exact True.intro) (.inl rfl)
   (fun b u hb q=>(Heap.get?_update_ne _ _ _ _ hb).trans (Heap.get?_push_of_some _ q)) ⟨_,h2⟩
    (ZCZ (vs:=vs.setIfInBounds 0 (.ref h0.objs.size)) (a0:=.ref h0.objs.size) h2 (by rw [Obj.cls_mapFields];exact z2) (by rw [ZAx];exact z3) (Obj.data_mapFields z4 _) (by rw [Array.getElem?_setIfInBounds_ne (by decide)];exact z5) (by rw [Array.getElem?_setIfInBounds_self_of_lt hsz]))
  rw [upd_self he] at J
  exact J
 cases a0 with
 | ref b=>exact wpAny_letGo (wpAny_pure (fin t))
 | _=>exact wpAny_pure (wpAny_pure (fin t))
end
section
variable {X:Cx} {x name:Str} {C:Addr} {np apos pos:Pos} {e:Expr} {es:List Expr} {t:TA} {r:List V->Hp->VK->Prop} {id:String}
theorem pe_clsB {pl:Sem Bool} (hc:ZBi X (.builtin id) r) (hg:Gl X x) (hm:X.mg x=some (.ref C)) (hgs:specialIn X.K (.ref C) "__getattribute__"=some (some (.builtin "type.__getattribute__"))) (hr:readsIn X.K C (.type "type")=true)
  (hf:findCls X.K (.ref C) (.type "type") name=some (.val (.builtin id))) (hid:handedIn (.builtin id)=true) (ha:PA X (e::es) t) (hdb:(x == ("__debug__":Str))=false:=by decide)
  (he:starEach (e::es) X.env=(false,eval e X.env)::starEach es X.env:=by rfl) (hpl:(backTo pos (starEach es X.env)).any (·.1)=false:=by rfl)
  (ht:eval (.Call (.Attribute (.Name x np) name apos) (e::es) [] pos) X.env=(do
   let ov <- eval (.Name x np) X.env
   standAt apos.atName
   let (f,first) <- holding [ov] (getMethod ov name pl)
   callWith pos f first (backTo pos (starEach (e::es) X.env)) (backToKw pos (keywordEach [] X.env))):=by rfl):PE X (.Call (.Attribute (.Name x np) name apos) (e::es) [] pos) (tCB r t):=by
 intro pins s σ H Q I h
 refine PySem.W.methodCall_KW (pl:=pl) (ZBW I hg hm ?_ hdb) ht
 refine method_cls I.kIn hgs (cls_value I.kIn hr hf hid ?_)
 exact PyProof.Rows.callWith_builtin1 (thn (ha pos pins _ σ H _ (I.tok _) h) fun us s1 ⟨vs,H1,I1,r1,q1⟩=>hc pins s1 σ H1 vs us Q I1 r1 q1) he hpl
end
def tFS (te:TE):TE:=fun σ H Q=>te σ H fun x H1=>∃ i:Int,x=.int i /\ i.natAbs.log2 < 1920 /\ ∀ y,Q (.str y) H1
section
variable {X:Cx} {v c1 c2:Expr} {s1 s2:Str} {te:TE} {p pos:Pos}
theorem pe_fs1 (h1:PE X c1 (tC (.str s1))) (hv:PE X v te) (hl:s1.length <= 1000:=by decide):PE X (.JoinedStr [c1,.FormattedValue v (-1) none p] pos) (tFS te):=by
 intro pins s σ H Q I h
 refine JoinedStr_many (joinParts_cons (thn (h1 pins s σ H (fun x H1=>x=.str s1 /\ H1=H) I ⟨rfl,rfl⟩) fun u st1 ⟨y,H1,I1,ry,e1,e2⟩=>?_))
 subst e1 e2
 obtain ⟨tk,rfl⟩:=(show ∃ t,u=Value.str s1 t from ry)
 refine ⟨by rw [strLen_append,sizeLine_eq];show 0+s1.length <= _;omega,joinParts_cons (FormattedValue_plain (thn (hv pins st1 σ H1 _ I1 h) fun u2 st2 ⟨y,H2,I2,ry,i,e1,hi,q⟩=>?_))⟩
 subst e1
 obtain ⟨tk2,rfl⟩:=(show ∃ t,u2=Value.int i t from ry)
 refine formatField_int_small hi ?_
 have hz:=int_text_length_le (k:=1920) (by decide) hi
 have hz':(Str.empty++s1++Str.ofString (toString i)).length <= sizeLine:=by rw [strLen_append,strLen_append,PySem.ofString_length,sizeLine_eq];show 0+s1.length+_ <= _;omega
 exact ⟨hz',joinParts_nil ⟨.str _,H2,I2.tok _,⟨_,rfl⟩,q _⟩ hz'⟩
end
def ZBl:List Value->Bool
 | .ref c::r=>ZBl r
 | l=>l == bmV
theorem over_pass (self:Value):∀ {l:List Value},ZBl l=true->refuseLoop self "__setattr__" l=pure ()
 | .ref c::r,e=>by rw [refuseLoop_ref];exact over_pass self e
 | [],e=>by cases (beq_iff_eq.mp (show ([] == bmV)=true from e))
 | .type n::r,e=>by rw [show (Value.type n::r)=bmV from beq_iff_eq.mp e];exact PySem.F.store_ValueError.passes self
 | .none::r,e=>by cases (beq_iff_eq.mp (show (Value.none::r == bmV)=true from e))
 | .bool b::r,e=>by cases (beq_iff_eq.mp (show (Value.bool b::r == bmV)=true from e))
 | .int i t::r,e=>by cases (beq_iff_eq.mp (show (Value.int i t::r == bmV)=true from e))
 | .float b t::r,e=>by cases (beq_iff_eq.mp (show (Value.float b t::r == bmV)=true from e))
 | .str x t::r,e=>by cases (beq_iff_eq.mp (show (Value.str x t::r == bmV)=true from e))
 | .bytes x t::r,e=>by cases (beq_iff_eq.mp (show (Value.bytes x t::r == bmV)=true from e))
 | .ellipsis::r,e=>by cases (beq_iff_eq.mp (show (Value.ellipsis::r == bmV)=true from e))
 | .notImplemented::r,e=>by cases (beq_iff_eq.mp (show (Value.notImplemented::r == bmV)=true from e))
 | .builtin n::r,e=>by cases (beq_iff_eq.mp (show (Value.builtin n::r == bmV)=true from e))
theorem ZCE:∀ {l:List Value},ZBl l=true->l.contains (.type "object")=true /\ l.isEmpty=false
 | .ref c::r,e=>⟨by rw [List.contains_cons,(ZCE (l:=r) e).1,Bool.or_true],rfl⟩
 | [],e=>by cases (beq_iff_eq.mp (show ([] == bmV)=true from e))
 | .type n::r,e=>by rw [show (Value.type n::r)=bmV from beq_iff_eq.mp e];exact ⟨by decide,rfl⟩
 | .none::r,e=>by cases (beq_iff_eq.mp (show (Value.none::r == bmV)=true from e))
 | .bool b::r,e=>by cases (beq_iff_eq.mp (show (Value.bool b::r == bmV)=true from e))
 | .int i t::r,e=>by cases (beq_iff_eq.mp (show (Value.int i t::r == bmV)=true from e))
 | .float b t::r,e=>by cases (beq_iff_eq.mp (show (Value.float b t::r == bmV)=true from e))
 | .str x t::r,e=>by cases (beq_iff_eq.mp (show (Value.str x t::r == bmV)=true from e))
 | .bytes x t::r,e=>by cases (beq_iff_eq.mp (show (Value.bytes x t::r == bmV)=true from e))
 | .ellipsis::r,e=>by cases (beq_iff_eq.mp (show (Value.ellipsis::r == bmV)=true from e))
 | .notImplemented::r,e=>by cases (beq_iff_eq.mp (show (Value.notImplemented::r == bmV)=true from e))
 | .builtin n::r,e=>by cases (beq_iff_eq.mp (show (Value.builtin n::r == bmV)=true from e))
def ZCY (K:Frag) (C:Addr):Bool:=(clsIn K C).any fun cd=>ZBl cd.mro
section
variable {prog:Program} {w:World} {A:Around} {R:Result->Shared->Prop} {s:Shared} {K:Frag} {x C:Addr}
theorem osa_openX {ox:Obj} {od:Option Obj} {name:Str} {tk:Tok} {v:Value} {r:Option Value} (X:K.In s.heap) (I:InstAt s.heap x ox C od) (hp:ZCY K C=true) (ht:takerIn K C name=some r)
  (h:∀ b,wpAny (model prog w) A.in1 (match r with | some a=>setByDescriptor a (.ref x) v | none=>storeInOwnDict (.ref x) (.ref C) (.str name tk) name v b)
   (fun fin s'=>match fin with | Fin.done f=>R (.ok f) s' | Fin.again c'=>c'.quiet=true /\ codeAny (model prog w) A c' R s') (fun e s'=>R (.error e) s') s) :
  codeAny (model prog w) A (.call (.builtin "object.__setattr__") ⟨[.ref x,.str name tk,v],[]⟩) R s:=by
 have SF:=PySem.F.store_object
 obtain ⟨cd,hc,ho⟩:=any_some hp
 have ne:cd.mro.isEmpty=false:=(ZCE ho).2
 have sub:Looks (model prog w) s.heap (isInstance (.ref x) (.type "object")) true:=I.type.andThen (looks_mroIn X (by unfold mroIn;rw [hc,Option.bind_some,if_neg (by rw [ne];decide),(ZCE ho).1]))
 refine codeAny_call_builtin SF.slot.plain SF.entry (@check_slot (model prog w) _ _ s "object.__setattr__" "object" "__setattr__" (.ref x) [.str name tk,v] [] _ SF.kind SF.split sub (SF.args (.ref x) (.str name tk) v) ?_)
 obtain ⟨attr,ha,hr⟩:=Option.bind_eq_some_iff.mp ht
 have hm:Looks (model prog w) s.heap (mroOf (.ref C)) cd.mro:=(looks_clsIn X hc).andThen .now
 have L3:Looks (model prog w) s.heap (storeTaker? attr) r:=by
  cases attr with
  | none=>cases hr;exact .now
  | some a=>
   obtain ⟨b,hb,rfl⟩:=Option.map_eq_some_iff.mp hr
   refine (looks_takesIn X hb).andThen ?_
   cases b <;> exact .now
 rw [osa_eq,refuse_eq]
 refine wpAny_bind (wpAny_bind (I.type.here (wpAny_bind (hm.here ?_))))
 rw [over_pass _ ho]
 refine wpAny_pure (wpAny_bind (I.type.here (wpAny_bind ((looks_findIn X ha).here (wpAny_bind (L3.here ?_))))))
 exact h _
end
def xdM (d:Addr) (fs:List (Str×V)):HO:=.ext fun h=>∃ mA,h.Ns1 d mA /\ ∀ f,RelO (fs.lookup f) (mA f)
theorem xdM_ok {P:Program} {w:World} {H:Hp} {h:Heap} {d:Addr} {fs:List (Str×V)} {mA:Str->Option Value} (n:h.Ns1 d mA) (r:∀ f,RelO (fs.lookup f) (mA f)):ObjOk P w H h d (xdM d fs) :=
 ⟨⟨mA,n,r⟩,let ⟨o,_,_,e,_⟩:=n;⟨o,e⟩,fun h1 h2 ⟨mA,⟨o,es,ep,e,c⟩,r⟩ k=>⟨mA,⟨o,es,ep,k _ e,c⟩,r⟩⟩
structure XCls (K:Frag) (C:Addr):Prop where
 hd:hasDictIn K C=true
 ov:ZCY K C=true
 sa:findIn K (.ref C) "__setattr__"=some (some (.builtin "object.__setattr__"))
section
variable {X:Cx} {pins:List (Addr×Obj)} {σ:St} {H:Hp} {s:Shared} {A:Around} {E:Value->Shared->Prop} {a C:Addr} {f:Str}
theorem excset0 {y:V} {u:Value} {Q:Unit->Shared->Prop} (I:Inv X pins σ H s) (e:H a=some (excM a (.ref C) none)) (c:XCls X.K C) (n:NoAttr X.K C f) (ry:RelV y u)
  (h:∀ d s',H d=none->d≠a->Inv X pins σ (upd (upd H d (xdM d [(f,y)])) a (excM a (.ref C) (some d))) s'->Q () s'):wpAny (model X.prog X.w) A (setAttr (.ref a) f u) Q E s:=by
 obtain ⟨o,vs,a0,z1,z2,z3,z4,z5,z6⟩:=ZBb I.hok e
 have J:InstAt s.heap a o C none:=⟨z1,z2,by unfold notCls;rw [z4],by rw [z3];trivial⟩
 refine set_plain I.kIn J c.sa (osa_openX (s:={ s with toks:=s.toks+1 }) (r:=none) I.kIn J c.ov n.taker fun b=>?_)
 obtain ⟨cd,hc,hd'⟩:=any_some c.hd
 obtain ⟨oc,od,odt,osl⟩:=o
 dsimp only at z2 z3 z4
 subst z2 z3 z4
 refine wpAny_bind (wpAny_pure (wpAny_bind (wpAny_bind (wpAny_loadPart (s:={ s with toks:=s.toks+1 }) z1 (wpAny_bind (Looks.here (s:={ s with toks:=s.toks+1 }) (looks_clsIn I.kIn hc) ?_))))))
 rw [hd']
 have hax:a≠s.heap.objs.size:=yAD (Heap.lt_size z1)
 have hx1:(s.heap.push { cls:=.type "dict",data:=.dict #[] }).get? a=some ⟨.ref C,none,.fields vs,osl⟩:=Heap.get?_push_of_some _ z1
 rw [if_neg (by decide)]
 show wpAny _ _ (do
  let d <- alloc { cls:=Value.type "dict",data:=Data.dict #[] }
  update a fun o=>{ cls:=o.cls,dict:=some d,data:=o.data,slots:=o.slots }
  dictMade (.ref C) a d) _ _ _
 refine wpAny_bind (wpAny_alloc' ?_)
 refine wpAny_bind (wpAny_update' hx1 ?_)
 refine wpAny_pure ?_
 have hgd:((s.heap.push { cls:=.type "dict",data:=.dict #[] }).update a fun o=>{ cls:=o.cls,dict:=some s.heap.objs.size,data:=o.data,slots:=o.slots }).get? s.heap.objs.size=some { cls:=.type "dict",data:=.dict #[] } :=
  (Heap.get?_update_ne _ _ _ _ (Ne.symm hax)).trans (Heap.get?_push_at rfl rfl)
 have hnd:((s.heap.push { cls:=.type "dict",data:=.dict #[] }).update a fun o=>{ cls:=o.cls,dict:=some s.heap.objs.size,data:=o.data,slots:=o.slots }).Ns s.heap.objs.size (fun _=>none) :=
  ⟨_,#[],_,hgd,rfl,fun e he=>absurd he (by simp),fun _=>rfl⟩
 have hga:((s.heap.push { cls:=.type "dict",data:=.dict #[] }).update a fun o=>{ cls:=o.cls,dict:=some s.heap.objs.size,data:=o.data,slots:=o.slots }).get? a=some ⟨.ref C,some s.heap.objs.size,.fields vs,osl⟩:=Heap.get?_update_self _ hx1 rfl
 show wpAny _ _ (storeInDict s.heap.objs.size (.str f s.toks) f u) _ _ _
 unfold storeInDict newKeyGuard
 refine wpAny_bind (wpAny_pure (wpAny_bind (wpAny_nsSet1 (Heap.Ns1.of_empty hnd) fun h' hn' hs=>?_)))
 obtain ⟨oD,esD,epD,hoD,hdD,hcD⟩:=hn'.count (Within.cons f u Within.nil)
 refine wpAny_bind (wpAny_lookBehind hoD (by rw [hdD];exact pastItsLine_dict (yAH hcD (by rw [yAN,yBA,sizeLine_eq];omega))) ?_)
 refine wpAny_pure ?_
 have hfr:H s.heap.objs.size=none:=I.hok.fresh (yAB _)
 have keepB:∀ b ob,b≠a->s.heap.get? b=some ob->h'.get? b=some ob:=fun b ob hb q=>(hs.2 b (yAD (Heap.lt_size q))).trans ((Heap.get?_update_ne _ _ _ _ hb).trans (Heap.get?_push_of_some _ q))
 have ha':h'.get? a=some ⟨.ref C,some s.heap.objs.size,.fields vs,osl⟩:=(hs.2 a hax).trans hga
 have rel:∀ g,RelO ([(f,y)].lookup g) (if g=f then some u else none):=fun g=>by
  by_cases q:g=f
  .rw [if_pos q,q,List.lookup_cons_self];exact ry
  .rw [if_neg q,yAY,show (g == f)=false from by simpa using q];trivial
 have J1:=I.write (x:=a) (e:=a) (o:=excM a (.ref C) (some s.heap.objs.size)) (t':=s.toks+1+1) (h':=(s.heap.update a fun o=>{ cls:=o.cls,dict:=some s.heap.objs.size,data:=o.data,slots:=o.slots })) (by rw [e];exact True.intro) (.inl rfl)
  (fun b ob hb q=>(Heap.get?_update_ne _ _ _ _ hb).trans q) ⟨_,Heap.get?_update_self _ z1 rfl⟩ (ZCZ (Heap.get?_update_self _ z1 rfl) rfl rfl rfl z5 z6)
 have hsz:(s.heap.update a fun o=>{ cls:=o.cls,dict:=some s.heap.objs.size,data:=o.data,slots:=o.slots }).objs.size=s.heap.objs.size:=Heap.size_update ..
 have J2:=J1.laid (a:=s.heap.objs.size) (o:=xdM s.heap.objs.size [(f,y)]) (t':=s.toks+1+1) (h':=h') (fun b ob q=>?_) (by rw [show ({ s with heap:=(s.heap.update a fun o=>{ cls:=o.cls,dict:=some s.heap.objs.size,data:=o.data,slots:=o.slots }),toks:=s.toks+1+1 }:Shared).heap.objs.size=_ from hsz];exact yAB _) (xdM_ok hn' rel)
 .have:=h s.heap.objs.size _ hfr (Ne.symm hax) (by
   have e2:upd (upd H s.heap.objs.size (xdM s.heap.objs.size [(f,y)])) a (excM a (.ref C) (some s.heap.objs.size))=upd (upd H a (excM a (.ref C) (some s.heap.objs.size))) s.heap.objs.size (xdM s.heap.objs.size [(f,y)]):=funext fun b=>by
    by_cases q1:b=a
    .rw [q1,ZAG,ZAC hax,ZAG]
    .rw [ZAC q1]
     by_cases q2:b=s.heap.objs.size
     .rw [q2,ZAG,ZAG]
     .rw [ZAC q2,ZAC q2,ZAC q1]
   rw [e2]
   exact J2)
  exact this
 .by_cases hb:b=a
  .rw [hb] at q ⊢
   rw [Heap.get?_update_self _ z1 rfl] at q
   rw [ha',<- q]
  .exact keepB b ob hb ((Heap.get?_update_ne _ _ _ _ hb).symm.trans q)
theorem excset1 {y:V} {u:Value} {Q:Unit->Shared->Prop} {d:Addr} {fs:List (Str×V)} (I:Inv X pins σ H s) (e:H a=some (excM a (.ref C) (some d))) (hda:d≠a) (ed:H d=some (xdM d fs)) (hl:fs.length < 1000) (c:XCls X.K C) (n:NoAttr X.K C f) (ry:RelV y u)
  (h:∀ s',Inv X pins σ (upd H d (xdM d (putF f y fs))) s'->Q () s'):wpAny (model X.prog X.w) A (setAttr (.ref a) f u) Q E s:=by
 obtain ⟨o,vs,a0,z1,z2,z3,z4,z5,z6⟩:=ZBb I.hok e
 obtain ⟨⟨mA,hns,r⟩,_,_⟩:=(show ObjOk X.prog X.w H s.heap d (xdM d fs) from I.hok d _ ed)
 obtain ⟨od,hod,hlk⟩:=ZBs hns
 have J:InstAt s.heap a o C (some od):=⟨z1,z2,by unfold notCls;rw [z4],by rw [z3];exact hod⟩
 refine set_plain I.kIn J c.sa (osa_openX (s:={ s with toks:=s.toks+1 }) (r:=none) I.kIn J c.ov n.taker fun b=>?_)
 obtain ⟨cd,hc,hd'⟩:=any_some c.hd
 obtain ⟨oc,odd,odt,osl⟩:=o
 dsimp only at z2 z3 z4
 subst z2 z3 z4
 refine wpAny_bind (wpAny_pure (wpAny_bind (wpAny_bind (wpAny_loadPart (s:={ s with toks:=s.toks+1 }) z1 (wpAny_bind (Looks.here (s:={ s with toks:=s.toks+1 }) (looks_clsIn I.kIn hc) ?_))))))
 rw [hd',if_neg (by decide)]
 refine wpAny_pure (a:=some d) (wpAny_bind (wpAny_pure (wpAny_bind ?_)))
 refine wpAny_nsSet1 (s:={ s with toks:=s.toks+1 }) hns fun h' hn2 hs2=>?_
 have hw:Within mA (fs.map (·.1)):=fun g hg=>by
  have:=r g
  cases hg2:fs.lookup g with
  | none=>rw [hg2] at this;cases hm:mA g with
   | none=>exact absurd hm hg
   | some u=>rw [hm] at this;exact this.elim
  | some v=>exact List.mem_map.mpr ⟨(g,v),PySem.mem_of_lookup hg2,rfl⟩
 obtain ⟨oD,esD,epD,hoD,hdD,hcD⟩:=hn2.count (PySem.Within.cons f u hw)
 refine wpAny_bind (wpAny_lookBehind hoD (by rw [hdD];exact pastItsLine_dict (yAH hcD (by rw [yAN,yAP,sizeLine_eq];omega))) ?_)
 refine wpAny_pure (h _ ?_)
 exact I.write (x:=d) (e:=d) (o:=xdM d (putF f y fs)) (t':=s.toks+1+1) (h':=h') (by rw [ed];exact True.intro) (.inl rfl) (fun b ob hb q=>(hs2.2 b hb).trans q) ⟨oD,hoD⟩ (xdM_ok hn2 fun g=>by
  rw [ZAU]
  by_cases q:g=f
  .rw [if_pos q,if_pos q];exact ry
  .rw [if_neg q,if_neg q];exact r g)
end
def ZC7 (K:Frag) (ta tv:TE) (f:Str):TS:=fun D σ H=>tv σ H fun y H1=>ta σ H1 fun x H2=>∃ a C dd,x=.ref a /\ H2 a=some (excM a (.ref C) dd) /\ XCls K C /\ NoAttr K C f /\
 ((dd=none /\ ∀ d,H2 d=none->d≠a->D.nx σ (upd (upd H2 d (xdM d [(f,y)])) a (excM a (.ref C) (some d))))∨∃ d fs,dd=some d /\ d≠a /\ H2 d=some (xdM d fs) /\ fs.length < 1000 /\ D.nx σ (upd H2 d (xdM d (putF f y fs))))
theorem ps_xfld {X:Cx} {o value:Expr} {f:Str} {pos pos':Pos} {ta tv:TE} (ha:PE X o ta) (hv:PE X value tv) (hs:swapsWith value (some (.Attribute o f pos')) pos.line X.env=pure false):PS X (.Assign [.Attribute o f pos'] value pos) (ZC7 X.K ta tv f):=by
 intro pins s σ H D I h
 refine plainObj_wpAny_Assign_Attribute (thn (hv pins s σ H _ I h) fun u s1 ⟨y,H1,I1,ry,q⟩=>thn (ha pins s1 σ H1 _ I1 q) fun ov s2 ⟨x,H2,I2,rx,a,C,dd,ex,ea,c,n,q2⟩=>?_) hs
 subst ex
 obtain rfl:ov=Value.ref a:=rx
 rcases q2 with ⟨rfl,q2⟩ | ⟨d,fs,rfl,hda,ed,hl,q2⟩
 .exact excset0 I2 ea c n ry fun d s3 hd hda I3=>⟨σ,_,I3,q2 d hd hda⟩
 .exact excset1 I2 ea hda ed hl c n ry fun s3 I3=>⟨σ,_,I3,q2⟩
structure XMk (K:Frag) (C f:Addr):Prop where
 ii:ZBh K C f bmV "ValueError.__new__"=true
 fn:isFn K (.ref f)=true
 kp:keepIn K (.ref C)=true
section
variable {X:Cx} {CX:CXT} {k:Nat} {f C:Addr} {fd:FuncData} {ps:List Str} {sp:Sp} {x:Str} {p pos:Pos} {e:Expr} {es:List Expr} {t:TA} {E:XK}
theorem run_xmake {pins:List (Addr×Obj)} {σ:St} {H:Hp} {s:Shared} {Q:VK} {R:Value->Shared->Prop} {us:List Value} {vs:List V} (M:XMk X.K C f) (F:FnOk X.prog X.w X.K X.mg X.base CX k f fd ps sp) (hr:Room (k+1) X.A) (hb:Binds X.K fd ps [])
  (hx:ZAu CX X E) (I:Inv X pins σ H s) (r:Vals vs us) (hz:us.length <= sizeLine)
  (h:∀ x,H x=none->sp (.ref x::vs) (upd H x (excM x (.ref C) none)) (fun v H2=>v=.non /\ Q (.ref x) H2) E)
  (fin:∀ a H2 s2,s.heap.get? a=none->H a=none->Un (frs X.stack) [] H H2 s.heap s2.heap->HOk X.prog X.w H2 s2.heap->s2.os=s.os->AllBare s2.gens->Q (.ref a) H2->R (.ref a) s2) :
  wpAny (model X.prog X.w) X.A (call (.ref C) us) R X.xe s:=by
 obtain ⟨bm,N',nm,qn,bs,hdct,sn,sub,ab,col,d0,k0,k1,k2,k3,k5,mN,hC,hN,hni,T,hKC⟩:=ZCJ I.kIn M.ii
 obtain ⟨oI,hoI,hcI⟩:∃ oI,s.heap.get? f=some oI /\ oI.cls=.type "function":=by
  have ht:=beq_iff_eq.mp M.fn
  unfold typeIn at ht
  obtain ⟨o,h1,h2⟩:=Option.map_eq_some_iff.mp ht
  exact ⟨o,I.kIn _ _ h1,h2⟩
 obtain ⟨h0,g,d,tk,os⟩:=s
 refine call_exc_initU (hrest:=hz) PySem.F.excBase_ValueError PySem.F.excBase_ValueError.hasB PySem.F.excBase_ValueError T hC hN hni hoI hcI fun h' a hm ha=>?_
 obtain ⟨t0,ht0,_⟩:=hm.there
 have hge:h0.objs.size <= a:=by rw [ha];exact yAM _
 have hfr:H a=none:=I.hok.fresh hge
 have I2:=I.laid (a:=a) (o:=excM a (.ref C) none) (h':=h') (t':=tk) hm.keeps hge (ZCZ ht0 rfl rfl rfl rfl rfl)
 have hq:=h a hfr
 have r2:Vals (V.ref a::vs) (Value.ref a::us):=.cons rfl r
 have hl:(Value.ref a::us).length=ps.length:=by rw [<- r2.length];exact F.len _ _ _ _ hq
 have hb2:=hb ⟨h',g,d,tk,os⟩ (Value.ref a::us) I2.kIn (by rw [yAW];exact hl)
 rw [yAW] at hb2
 refine wpAny_call (codeAny_mono (F.run _ X.stack ⟨h',g,d,tk,os⟩ _ ⟨Value.ref a::us,[]⟩ (Value.ref a::us) _ _ E (hr.make C us []) (I2.env0.make C us []) hb2 r2 hq) fun r s' hq'=>?_)
 cases r with
 | error e=>exact hx pins σ _ _ e s' I2 hq'
 | ok fl=>
  cases fl with
  | ret u=>
   obtain ⟨v,H2,ho,hba,un,hok,rv,ev,q3⟩:=hq'
   subst ev
   exact ⟨rv,fin a H2 s' hm.new hfr (Un.trans (Un.laid hm.keeps hge hfr) un) hok ho hba q3⟩
  | next=>exact False.elim hq'
  | brk=>exact False.elim hq'
  | cont=>exact False.elim hq'
def tXMk (C:Addr) (sp:Sp) (E:XK) (t:TA):TE:=fun σ H Q=>t σ H fun vs H1=>vs.length <= 1000 /\ ∀ x,H1 x=none->sp (.ref x::vs) (upd H1 x (excM x (.ref C) none)) (fun v H2=>v=.non /\ Q (.ref x) H2) E
end
def forget (H:Hp) (a:Addr):Hp:=fun b=>if b=a then none else H b
theorem ZAr {H:Hp} {a b:Addr} (h:b≠a):forget H a b=H b:=if_neg h
theorem forget_same {H:Hp} {a:Addr}:forget H a a=none:=if_pos rfl
theorem Un.forget {fs:List Addr} {H H2:Hp} {h h2:Heap} {a:Addr} (u:Un fs [] H H2 h h2) (hn:h.get? a=none) (hH:H a=none):Un fs [] H (L2.forget H2 a) h h2 where
 keep:=u.keep
 slot:=u.slot
 free:=fun b o q n hx=>by
  rw [ZAr (fun z=>by rw [z,hn] at q;cases q)]
  exact u.free b o q n hx
 there:=u.there
 tups:=fun b xs q=>by rw [ZAr (ZAF q hH)];exact u.tups b xs q
 frzs:=fun b o xs q=>by rw [ZAr (ZAF q hH)];exact u.frzs b o xs q
 tbls:=fun b ps q=>by
  obtain ⟨m,hm⟩:=u.tbls b ps q
  exact ⟨m,by rw [ZAr (ZAF q hH)];exact hm⟩
theorem HOk.forget {P:Program} {w:World} {H:Hp} {h:Heap} {a:Addr} {φ:Heap->Prop} (x:HOk P w H h) (ha:H a=some (.ext φ)):HOk P w (L2.forget H a) h:=fun b o q=>by
 by_cases z:b=a
 .rw [z,forget_same] at q;cases q
 .rw [ZAr z] at q
  refine (x b o q).stay (fun _ _ _ y=>y) (fun c y=>?_) fun c xs y=>?_
  .rw [ZAr (fun z=>by rw [z,ha] at y;cases y)];exact y
  .rw [ZAr (fun z=>by rw [z,ha] at y;cases y)];exact y
def ZB9 (E:XK) (C:Addr) (sp:Sp) (t:TA):TS:=fun _ σ H=>t σ H fun vs H1=>vs.length <= 1000 /\ ∀ x,H1 x=none->sp (.ref x::vs) (upd H1 x (excM x (.ref C) none)) (fun v H2=>v=.non /\ ∃ dd,H2 x=some (excM x (.ref C) dd) /\ E (.ref C) dd (forget H2 x)) E0
section
variable {P:Program} {w:World} {K:W.Frag} {mg:Str->Option Value} {base:Heap} {N:List Str} {qual:Str} {scope:Scope} {f:Addr} {cd:Value} {A:Around} {outer:List Env} {s:Shared} {H:Hp} {E:XK}
variable {CX:CXT} {k:Nat} {fI C:Addr} {fd:FuncData} {ps:List Str} {sp:Sp} {x:Str} {np cpos pos:Pos} {e:Expr} {es:List Expr} {t:TA}
theorem ps_raiseX (M:XMk K C fI) (F:FnOk P w K mg base CX k fI fd ps sp) (hr:Room (k+1) (cxOf (CXE P w) P w K mg base N qual scope f cd A outer s H E).A) (hg:Gl (cxOf (CXE P w) P w K mg base N qual scope f cd A outer s H E) x) (hm:mg x=some (.ref C)) (hb:Binds K fd ps []) (hx:ZAu CX (cxOf (CXE P w) P w K mg base N qual scope f cd A outer s H E) E0)
  (ha:PA (cxOf (CXE P w) P w K mg base N qual scope f cd A outer s H E) (e::es) t) (hdb:(x == ("__debug__":Str))=false:=by decide) (he:starEach (e::es) (cxOf (CXE P w) P w K mg base N qual scope f cd A outer s H E).env=(false,eval e (cxOf (CXE P w) P w K mg base N qual scope f cd A outer s H E).env)::starEach es (cxOf (CXE P w) P w K mg base N qual scope f cd A outer s H E).env:=by rfl) (hpl:(backTo cpos (starEach es (cxOf (CXE P w) P w K mg base N qual scope f cd A outer s H E).env)).any (·.1)=false:=by rfl) :
  PS (cxOf (CXE P w) P w K mg base N qual scope f cd A outer s H E) (.Raise (some (.Call (.Name x np) (e::es) [] cpos)) none pos) (ZB9 E C sp t):=by
 intro pins s1 σ H1 D I h
 obtain ⟨bm,N',nm,qn,bs,hdct,sn,sub,ab,col,d0,k0,k1,k2,k3,k5,mN,hC,hN,hni,T,hKC⟩:=ZCJ I.kIn M.ii
 rw [arm_exec_Raise]
 simp only [evalOpt,Option.map]
 refine wpAny_bind (wpAny_standAt (raiseStmt_madeD (C:=C) (nm:=nm) (q:=qn) (N:=N') (bs:=bs) (bm:=bm) (hdct:=hdct) (sn:=sn) (sub:=sub) (ab:=ab) (col:=col) (dd:=d0) (k0:=k0) (k1:=k1) (k2:=k2) (k3:=k3) (k5:=k5) (newId:="ValueError.__new__") (T.hasType PySem.F.excBase_ValueError.hasBase) (I.ok.hd rfl) ?_))
 refine wpAny_bind (wpAny_Call_Name_kw (ZBW I hg hm ?_ hdb))
 refine PySem.W.callWith_K (h₀:=base) I.ok.mod.kin M.kp (thn (ha cpos pins s1 σ H1 _ I h) fun us s2 ⟨vs,H2,I2,r,hl,q⟩=>⟨I2.kIn,?_⟩) he hpl
 refine run_xmake (us:=us) (Q:=fun v H3=>match v with | .ref x=>∃ dd,H3 x=some (excM x (.ref C) dd) /\ E (.ref C) dd (forget H3 x) | _=>False) M F hr hb hx I2 r (by rw [<- r.length,sizeLine_eq];omega) q fun a H3 s3 hn hH un hok ho hba q2=>?_
 obtain ⟨dd,hxM,hE⟩:=q2
 obtain ⟨o,vs',a0,z1,z2,z3,z4,z5,z6⟩:=ZBb hok hxM
 have I3:=I2.call' (s':=s3) ho un hok hba fun b z=>nomatch z
 refine wpAny_bind (wpAny_standAt (wpAny_pure ?_))
 refine ⟨a,o,vs',rfl,I3.kIn _ _ hKC,z1,z2,z4,z5,?_⟩
 exact raisedD (s2:=s3) I2 (un.forget hn hH) (hok.forget hxM) ho hba hn forget_same z1 z2 z3 z4 z5 z6 hE
end
open PySem PySem.Spec PySem.W PySem.Calls PyProof.Rows Builtin.Getset_descriptor Builtin.ObjectAttr
structure XKl (P:Program) (w:World) (K:W.Frag) (mg:Str->Option Value) (base:Heap) (CX:CXT) (x:Str) (C:Addr) (k:Nat) (ps:List Str) (sp:Sp):Prop where
 mgC:mg x=some (.ref C)
 ex:∃ f fd,FnOk P w K mg base CX k f fd ps sp /\ Binds K fd ps [] /\ XMk K C f
structure XBase (K:W.Frag) (C:Addr):Prop where
 gs:specialIn K (.ref C) "__getattribute__"=some (some (.builtin "type.__getattribute__"))
 rd:readsIn K C (.type "type")=true
 fc:findCls K (.ref C) (.type "type") "__init__"=some (.val (.builtin "ValueError.__init__"))
section
variable {X:Cx} {CX:CXT} {k:Nat} {ps:List Str} {sp:Sp} {E:XK} {x m:Str} {C:Addr} {p np pos apos:Pos} {e o:Expr} {es:List Expr} {ta:TE} {t:TA}
theorem call_verrK:ZBi X (.builtin "ValueError.__init__") (fun xs H Q=>∃ e C dd v,xs=[.ref e,v] /\ H e=some (excM e (.ref C) dd) /\ (∃ fI,ZBh X.K C fI bmV "ValueError.__new__"=true) /\ Q .non H):=by
 intro pins s σ H xs us Q I r h
 obtain ⟨e,C,dd,v,h1,h2,⟨fI,h3⟩,q⟩:=h
 exact call_verr fI pins s σ H xs us Q I r ⟨e,C,dd,v,h1,h2,h3,q⟩
theorem pe_clsV {pl:Sem Bool} (B:XBase X.K C) (hm:X.mg x=some (.ref C)) (hg:Gl X x) (ha:PA X (e::es) t) (hdb:(x == ("__debug__":Str))=false:=by decide)
  (he:starEach (e::es) X.env=(false,eval e X.env)::starEach es X.env:=by rfl) (hpl:(backTo pos (starEach es X.env)).any (·.1)=false:=by rfl)
  (ht:eval (.Call (.Attribute (.Name x np) "__init__" apos) (e::es) [] pos) X.env=(do
   let ov <- eval (.Name x np) X.env
   standAt apos.atName
   let (f,first) <- holding [ov] (getMethod ov "__init__" pl)
   callWith pos f first (backTo pos (starEach (e::es) X.env)) (backToKw pos (keywordEach [] X.env))):=by rfl) :
  PE X (.Call (.Attribute (.Name x np) "__init__" apos) (e::es) [] pos) (tCB (fun xs H Q=>∃ e C dd v,xs=[.ref e,v] /\ H e=some (excM e (.ref C) dd) /\ (∃ fI,ZBh X.K C fI bmV "ValueError.__new__"=true) /\ Q .non H) t) :=
 pe_clsB (pl:=pl) call_verrK hg hm B.gs B.rd B.fc (by decide +kernel) ha hdb he hpl ht
end
section
variable {P:Program} {w:World} {K:W.Frag} {mg:Str->Option Value} {base:Heap} {N:List Str} {qual:Str} {scope:Scope} {f:Addr} {cd:Value} {A:Around} {outer:List Env} {s:Shared} {H:Hp} {E:XK}
variable {CX:CXT} {k:Nat} {C:Addr} {ps:List Str} {sp:Sp} {x:Str} {np cpos pos:Pos} {e:Expr} {es:List Expr} {t:TA}
theorem ps_raiseK (F:XKl P w K mg base CX x C k ps sp) (hr:Room (k+1) (cxOf (CXE P w) P w K mg base N qual scope f cd A outer s H E).A) (hg:Gl (cxOf (CXE P w) P w K mg base N qual scope f cd A outer s H E) x) (hx:ZAu CX (cxOf (CXE P w) P w K mg base N qual scope f cd A outer s H E) E0)
  (ha:PA (cxOf (CXE P w) P w K mg base N qual scope f cd A outer s H E) (e::es) t) (hdb:(x == ("__debug__":Str))=false:=by decide) (he:starEach (e::es) (cxOf (CXE P w) P w K mg base N qual scope f cd A outer s H E).env=(false,eval e (cxOf (CXE P w) P w K mg base N qual scope f cd A outer s H E).env)::starEach es (cxOf (CXE P w) P w K mg base N qual scope f cd A outer s H E).env:=by rfl) (hpl:(backTo cpos (starEach es (cxOf (CXE P w) P w K mg base N qual scope f cd A outer s H E).env)).any (·.1)=false:=by rfl) :
  PS (cxOf (CXE P w) P w K mg base N qual scope f cd A outer s H E) (.Raise (some (.Call (.Name x np) (e::es) [] cpos)) none pos) (ZB9 E C sp t):=by
 obtain ⟨fI,fd,h1,h2,h3⟩:=F.ex
 exact ps_raiseX h3 h1 hr hg F.mgC h2 hx ha hdb he hpl
end
def ZCm (C:Addr) (m:Str) (sp:Sp) (E:St->XK) (ta:TE) (t:TA):TE:=fun σ H Q=>ta σ H fun x H1=>∃ a dx fs,x=.ref a /\ H1 a=some (.ins C dx fs) /\ fs.lookup m=none /\ t σ H1 fun vs H2=>sp (x::vs) H2 Q (E σ)
section
variable {X:Cx} {CX:CXT} {k:Nat} {ps:List Str} {sp:Sp} {E:St->XK} {x m:Str} {C:Addr} {p pos apos:Pos} {e o:Expr} {es:List Expr} {ta:TE} {t:TA}
theorem pe_mtS {pl:Sem Bool} (F:Mt X.prog X.w X.K X.mg X.base CX C m k ps sp) (hr:Room k X.A) (hx:PassesS CX X E) (he:PE X o ta) (ha:PA X (e::es) t)
  (hst:starEach (e::es) X.env=(false,eval e X.env)::starEach es X.env:=by rfl) (hpl:(backTo pos (starEach es X.env)).any (·.1)=false:=by rfl)
  (ht:eval (.Call (.Attribute o m apos) (e::es) [] pos) X.env=(do
   let ov <- eval o X.env
   standAt apos.atName
   let (f,first) <- holding [ov] (getMethod ov m pl)
   callWith pos f first (backTo pos (starEach (e::es) X.env)) (backToKw pos (keywordEach [] X.env))):=by rfl) :
  PE X (.Call (.Attribute o m apos) (e::es) [] pos) (ZCm C m sp E ta t):=by
 obtain ⟨f,fd,h1,h2,h3⟩:=F.ex
 intro pins s σ H Q I h
 refine PySem.W.methodCall_KW (pl:=pl) (thn (he pins s σ H _ I h) fun u s1 ⟨x,H1,I1,rx,a,dx,fs,ex,ea,l,q⟩=>?_) ht
 subst ex
 obtain rfl:u=Value.ref a:=rx
 refine ZBf I1 ea F.cl h3 l ?_
 refine PySem.W.callWith_K (first:=[.ref a]) (h₀:=X.base) I1.ok.mod.kin h3.kp (thn (ha pos pins s1 σ H1 _ I1 q) fun us s2 ⟨vs,H2,I2,r,q2⟩=>⟨I2.kIn,?_⟩) hst hpl
 have:=run_fnS (us:=.ref a::us) (vs:=.ref a::vs) (dvs:=[]) (ds:=[]) h1 hr h2 .nil (fun e s' z=>hx pins σ H2 s2 e s' I2 z) I2 (.cons rfl r) (by rw [yAW];exact q2)
 exact this
end
structure RoomH (k:Nat) (A:Around):Prop where
 dp:A.depth+3 * k+5 < recursionLimit
theorem Room.h {k:Nat} {A:Around} {h:Option Value} (r:Room k A):RoomH k (A.mark h):=⟨r.dp⟩
structure FnOkH (P:Program) (w:World) (K:W.Frag) (mg:Str->Option Value) (base:Heap) (k:Nat) (f:Addr) (fd:FuncData) (ps:List Str) (sp:Sp):Prop where
 len:∀ vs H Q E,sp vs H Q E->vs.length=ps.length
 run:∀ (A:Around) (outer:List Env) (s:Shared) (H:Hp) (args:Args) (us:List Value) (vs:List V) (Q:VK) (E:XK),RoomH k A->Env0 P w K mg base A outer s H->BindsTo s fd args (ps.zip us)->Vals vs us->sp vs H Q E ->
  codeAny (model P w) A (.call (.ref f) args) (CR CX0 outer P w H s Q E) s
structure FnH (P:Program) (w:World) (K:W.Frag) (mg:Str->Option Value) (base:Heap) (x:Str) (k:Nat) (ps:List Str) (sp:Sp):Prop where
 ex:∃ f fd,FnOkH P w K mg base k f fd ps sp /\ Binds K fd ps [] /\ W.keepIn K (.ref f)=true /\ mg x=some (.ref f)
def ZC0 (P:Program) (w:World) (K:W.Frag) (mg:Str->Option Value) (base:Heap) (N:List Str) (qual:Str) (scope:Scope) (f:Addr) (cd:Value) (A:Around) (outer:List Env) (s:Shared) (H:Hp) (E:XK):Cx :=
 { cxOf CX0 P w K mg base N qual scope f cd { A with handled:=none } outer s H E with A:=A.deeper (envOfC qual scope s.heap.objs.size f cd),calm:=false,xe:=fun _ _=>False }
section
variable {P:Program} {w:World} {K:W.Frag} {mg:Str->Option Value} {base:Heap} {N ps:List Str} {qual:Str} {scope:Scope} {f:Addr} {cd:Value} {A:Around} {outer:List Env} {s s1:Shared} {H:Hp} {E:XK} {us:List Value} {vs:List V}
theorem inv_startH (S:FnScope N ps scope) (e0:Env0 P w K mg base A outer s H) (hl:vs.length=ps.length) (r:Vals vs us)
  (x:InCallC s s.heap.objs.size (bindL (envOfC qual scope s.heap.objs.size f cd).kindOf (ps.zip us) fun _=>none) (cellsFrom (s.heap.objs.size+1) scope.names []) (bindC (envOfC qual scope s.heap.objs.size f cd).kindOf (ps.zip us) fun _=>none) s1) :
  Inv (ZC0 P w K mg base N qual scope f cd A outer s H E) [] (start N vs) H s1:=by
 have I:=ZBu (CX:=CX0) (A:={ A with handled:=none }) (E:=E) S rfl ⟨e0.frames,e0.mod,e0.bs,e0.bsz,e0.funs,e0.frf,e0.hok,e0.bare⟩ hl r x
 exact ⟨⟨I.ok.mod,I.ok.kind,I.ok.glob,I.ok.blt,I.ok.above,I.ok.inj,I.ok.has,I.ok.cab,(fun z=>nomatch z),Around.frames_deeper e0.frames,I.ok.stk,I.ok.exf,I.ok.bs,I.ok.bsz,I.ok.noex,I.ok.exfs,I.ok.funs,I.ok.frf⟩,I.os,I.bare,I.base,I.loc,I.cell,I.free,I.freeC,I.pin,I.hok,I.len⟩
theorem Fun.okH {x:Str} {st:Stmt} {fd:FuncData} {k:Nat} {sp:Sp} (F:Fun K x qual st f fd) (S:FnScope N ps (ZAB st)) (len:∀ vs H Q E,sp vs H Q E->vs.length=ps.length)
  (hbody:∀ (cdv:Value) (A:Around) (outer:List Env) (s:Shared) (H:Hp) (vs:List V) (Q:VK) (E:XK),sp vs H Q E ->
   ∃ t,PSs (ZC0 P w K mg base N qual (ZAB st) f cdv A outer s H E) (ZAK st) t /\ t { nx:=fun _ H'=>Q .non H',rt:=Q } (start N vs) H):FnOkH P w K mg base (k+1) f fd ps sp:=by
 obtain ⟨oc,od,kV,doc,pm,an,cdv,ct,osl,rfl,lk,hcd⟩:=F.ex
 refine ⟨len,fun A outer s H args us vs Q E hr e0 hb r hsp=>?_⟩
 have hl:=len _ _ _ _ hsp
 have KX:K.In s.heap:=e0.mod.kin.keeps fun b o e=>(e0.bs b o e).1
 have lim:s.heap.NoLimit:=e0.mod.nolimit.keeps fun b o e=>(e0.bs b o e).1
 have hkind:∀ y∈ps.zip us,(ZAB st).names.lookup y.1=some .local∨((ZAB st).names.lookup y.1=some .cell /\ ((cellsFrom (s.heap.objs.size+1) (ZAB st).names []).lookup y.1).isSome=true):=fun ⟨n,v⟩ hy=>by
  rcases S.par n (yBE hy).1 with q | q
  .exact .inl q
  .exact .inr ⟨q,PySem.W.cellsFrom_some _ _ _ (.inl q)⟩
 refine codeAny_call_function (by have:=hr.dp;omega) (KX _ _ lk) rfl S.co S.gen rfl (PySem.W.codeRec_of KX hcd) (hb _ _ _ _ ?_)
 refine wpAny_newFunctionEnv_cells S.kind hkind fun env he s1 x=>?_
 subst he
 refine ⟨lim.keeps x.toInCall.keep,codeAny_func ?_⟩
 obtain ⟨t,ht,hq⟩:=hbody cdv A outer s H vs Q E hsp
 have I:Inv (ZC0 P w K mg base N qual (ZAB st) f cdv A outer s H E) [] (start N vs) H s1:=inv_startH S e0 hl r x
 refine wpAny_mono (ht [] s1 (start N vs) H _ I hq) (fun fl s' hs=>?_) fun e s' hs=>False.elim hs
 have fin:∀ {σ':St} {H':Hp} {v:V} {u:Value},Inv (ZC0 P w K mg base N qual (ZAB st) f cdv A outer s H E) [] σ' H' s'->RelV v u->Q v H'->CE outer P w H s Q u s' :=
  fun {σ' H' v u} J rv q=>⟨v,H',J.os,J.bare,J.base,J.hok,rv,q⟩
 cases fl with
 | ret u=>
  obtain ⟨v,σ',H',J,rv,q⟩:=hs
  exact fin J rv q
 | next=>
  obtain ⟨σ',H',J,q⟩:=hs
  exact fin (v:=V.non) (u:=Value.none) J rfl q
 | brk=>
  obtain ⟨_,_,_,q⟩:=hs
  exact False.elim q
 | cont=>
  obtain ⟨_,_,_,q⟩:=hs
  exact False.elim q
end
section
variable {X:Cx} {k:Nat} {ps:List Str} {sp:Sp} {x:Str} {p pos:Pos} {e:Expr} {es:List Expr} {t:TA}
theorem pe_fnH (F:FnH X.prog X.w X.K X.mg X.base x k ps sp) (hr:RoomH k X.A) (hg:Gl X x) (ha:PA X (e::es) t) (hdb:(x == ("__debug__":Str))=false:=by decide) (he:starEach (e::es) X.env=(false,eval e X.env)::starEach es X.env:=by rfl) (hpl:(backTo pos (starEach es X.env)).any (·.1)=false:=by rfl) :
  PE X (.Call (.Name x p) (e::es) [] pos) (ZCp sp [] E0 t):=by
 obtain ⟨f,fd,h1,h2,h3,h4⟩:=F.ex
 intro pins s σ H Q I h
 refine wpAny_Call_Name_kw (ZBW I hg h4 ?_ hdb)
 refine PySem.W.callWith_K (h₀:=X.base) I.ok.mod.kin h3 (thn (ha pos pins s σ H _ I h) fun us s1 ⟨vs,H1,I1,r,q⟩=>⟨I1.kIn,?_⟩) he hpl
 have q':sp vs H1 Q E0:=by rw [<- yAW vs];exact q
 have hl:us.length=ps.length:=by rw [<- r.length];exact h1.len _ _ _ _ q'
 have hb:=h2 s1 us I1.kIn (by rw [yAW];exact hl)
 rw [yAW] at hb
 refine wpAny_call (codeAny_mono (h1.run X.A X.stack s1 H1 ⟨us,[]⟩ us vs Q E0 hr I1.env0 hb r q') fun r s' hq=>?_)
 cases r with
 | error e=>exact False.elim hq
 | ok fl=>
  cases fl with
  | ret u=>exact I1.after hq
  | next=>exact False.elim hq
  | brk=>exact False.elim hq
  | cont=>exact False.elim hq
end
def ZCb (K:W.Frag) (ta:TE) (f:Str):TE:=fun σ H Q=>ta σ H fun x H1=>∃ a C d fs v,x=.ref a /\ (H1 a=some (excO a (.ref C) (some d))∨H1 a=some (excM a (.ref C) (some d))) /\ H1 d=some (xdM d fs) /\ ExcC K C /\ PySem.W.hasDictIn K C=true /\ W.findIn K (.ref C) f=some none /\ fs.lookup f=some v /\ Q v H1
theorem pe_xfldM {X:Cx} {e:Expr} {f:Str} {pos:Pos} {ta:TE} (he:PE X e ta) (hb:attributeBase e f X.env (eval e X.env)=eval e X.env):PE X (.Attribute e f pos) (ZCb X.K ta f):=by
 intro pins s σ H Q I h
 refine attr_of hb (thn (he pins s σ H _ I h) fun u s1 ⟨x,H1,I1,rx,a,C,d,fs,v,ex,ea,ed,F,hd,hn,l,q⟩=>?_)
 subst ex
 obtain rfl:u=Value.ref a:=rx
 obtain ⟨o,z1,z2,z3,vs,z4⟩:∃ o,s1.heap.get? a=some o /\ o.cls=.ref C /\ o.dict=some d /\ ∃ vs,o.data=.fields vs:=by
  rcases ea with ea | ea
  .obtain ⟨⟨o,z1,z2,z3,vs,z4⟩,_,_⟩:=(show ObjOk X.prog X.w H1 s1.heap a (excO a (.ref C) (some d)) from I1.hok a _ ea)
   exact ⟨o,z1,z2,z3,vs,z4⟩
  .obtain ⟨o,vs,a0,z1,z2,z3,z4,_⟩:=ZBb I1.hok ea
   exact ⟨o,z1,z2,z3,vs,z4⟩
 obtain ⟨⟨mA,hns,r⟩,_,_⟩:=(show ObjOk X.prog X.w H1 s1.heap d (xdM d fs) from I1.hok d _ ed)
 obtain ⟨od,hod,hl⟩:=ZBs hns
 obtain ⟨u',hu,ru⟩:=RelO.some_of (v:=v) (o:=mA f) (by rw [<- l];exact r f)
 have J:PySem.W.InstAt s1.heap a o C (some od):=⟨z1,z2,by unfold notCls;rw [z4],by rw [z3];exact hod⟩
 obtain ⟨hh,g,dd,t,os⟩:=s1
 exact exc_value I1.kIn F J (PySem.W.findObj_own hd hn rfl (by rw [hl,hu])) (handed_of ru) ⟨v,H1,I1.tok _,ru,q⟩
theorem pe_xfldMK {X:Cx} {e:Expr} {f:Str} {pos:Pos} {ta:TE} (K:W.Frag) (he:PE X e ta) (hb:attributeBase e f X.env (eval e X.env)=eval e X.env) (h:X.K=K:=by rfl):PE X (.Attribute e f pos) (ZCb K ta f):=h ▸ pe_xfldM he hb
theorem op_in_seqK {X:Cx} (K:W.Frag) (h:X.K=K:=by rfl):OpR X (compareOp .In) (rIn K false):=h ▸ op_in_seq
section
variable {X:Cx}
end
theorem us_len {us ds:List Value} {ps:List Str} {n:Nat} (h:(us++ds).length=ps.length) (e:n+ds.length=ps.length):us.length=n:=by
 rw [yAJ] at h;omega
def Fr (S:List Addr) (H H':Hp):Prop:=∀ b o,b∉S->H b=some o->H' b=some o
theorem Fr.trans {S:List Addr} {H H' H'':Hp} (e:Fr S H H') (f:Fr S H' H''):Fr S H H'':=fun b o n h=>f b o n (e b o n h)
theorem Same.fr {S:List Addr} {H H':Hp} (e:Same H H'):Fr S H H':=fun b o _ h=>e b o h
theorem Fr.upd {S:List Addr} {H:Hp} {l:Addr} {o:HO} (h:l∈S):Fr S H (upd H l o):=fun b o' n e=>by
 have z:b≠l:=fun z=>n (by rw [z];exact h)
 rw [ZAC z];exact e
end L2
namespace PySem
namespace F
end F
section
variable {prog:Program} {w:World} {A:Around} {s:Shared} {R:Result->Shared->Prop}
variable {I:Addr} {fp wr:List Addr} {G:Array GenState->Array GenState->Prop} {n:Nat} {P:Nat->Value->Prop} {St:Nat->Shared->Prop}
end
section
variable {prog:Program} {w:World} {A:Around} {E:Value->Shared->Prop} {s:Shared}
variable {I:Addr} {fp wr:List Addr} {G:Array GenState->Array GenState->Prop} {n:Nat} {P:Nat->Value->Prop} {St:Nat->Shared->Prop}
end
end PySem
namespace L2
open PySem PySem.Spec PyProof.Rows
def tRevL (K:W.Frag) (t:TA):TE:=fun σ H Q=>t σ H fun vs H1=>∃ (l:Addr) (ys:List V),vs=[.ref l] /\ SqL K H1 l ys /\ ∀ r,H1 r=none->Q (.ref r) (upd H1 r (.lst ys.reverse))
section
variable {X:Cx} {e:Expr} {ta:TA} {p p2 pos pos2:Pos}
end
theorem neD_refl {K:W.Frag} {H:Hp} {x y:V} {d:PyData} {Q:VK} (hx:Dp K H d x) (hy:Dp K H d y) (hc:d.canLay0=true) (hd:d.depth <= 64) (q:Q (.bl false) H):rNeD K x y H Q :=
 ⟨d,d,hx,hy,hc,hc,hd,by rw [PySem.SeqAt.eqv_refl d hc];exact q⟩
def compR2 (g:TG) (tt:TT) (te:TE) (σ0:St) (Q:VK) (x y:V) (H1:Hp):Prop:=∃ i j:Int,[x,y]=[.int i,.int j] /\ (-(2 ^ 62) <= i /\ i < 2 ^ 62 /\ -(2 ^ 62) <= j /\ j < 2 ^ 62) /\ compR i g tt te σ0 Q (j-i).toNat H1
theorem tCompR2_eq {k:Nat} {js:List Nat} {t u:TE} {g:TG} {tt:TT} {te:TE} {σ:St} {H:Hp} {Q:VK}:ZCj k js (iRng2 (ZBc t (ZBc u tNil))) g tt te σ H Q=t σ H (fun x H1=>u σ H1 fun y H2=>compR2 g tt te (up k js σ) Q x y H2):=rfl
section
variable {X:Cx}
end
def Itz (K:W.Frag) (a b:Addr):It :=
 ⟨fun i H=>∃ xs x ys y,SqL K H a xs /\ xs[i]?=some x /\ SqL K H b ys /\ ys[i]?=some y,fun i H v H'=>∃ p x y,H p=none /\ (∀ xs,SqL K H a xs->xs[i]?=some x) /\ (∀ ys,SqL K H b ys->ys[i]?=some y) /\ H'=upd H p (.tup [x,y]) /\ v=.ref p,fun i H=>∃ xs ys,SqL K H a xs /\ SqL K H b ys /\ (xs.length <= i∨ys.length <= i)⟩
section
variable {X:Cx}
def iZip (K:W.Frag) (ta:TA):TI:=fun σ H R=>ta σ H fun vs H1=>∃ a b,vs=[.ref a,.ref b] /\ (∃ xs,SqL K H1 a xs) /\ (∃ xs,SqL K H1 b xs) /\ R (Itz K a b) H1
end
section
variable {K:W.Frag} {a b:Addr} {xs ys:List V} {g:TG} {tb:TS} {D:Ends} {σ:St} {H:Hp}
def forZ (K:W.Frag) (g:TG) (tb:TS) (D:Ends) (σ:St) (x y:V) (H1:Hp):Prop:=∃ a b,[x,y]=[.ref a,.ref b] /\ (∃ xs,SqL K H1 a xs) /\ (∃ xs,SqL K H1 b xs) /\ ∃ W:Nat->Nat->St->Hp->Prop,(∃ m,W 0 m σ H1) /\ ∀ i m σ H,W i m σ H ->
 ((Itz K a b).stop i H /\ D.nx σ H)∨((Itz K a b).go i H /\ ∃ N:St->Hp->Prop,(∀ σ' H',N σ' H'->∃ m',m' < m /\ W (i+1) m' σ' H') /\ ∀ x H',(Itz K a b).yld i H x H'->g x σ H' fun σ2 H2=>tb { D with nx:=N,ct:=N,bk:=D.nx } σ2 H2)
theorem tForZ_eq {t u:TE}:tFor (iZip K (ZBc t (ZBc u tNil))) g tb D σ H=t σ H (fun x H1=>u σ H1 fun y H2=>forZ K g tb D σ x y H2):=rfl
end
section
open PySem.SeqAt
open PySem.AutoSeq1 (wpAny_loadPart')
open PySem.MeetsSeq PySem.MeetsSeq2 PySem.MeetsSeq3 HT
end
section
variable {prog:Program} {w:World} {A:Around} {E:Value->Shared->Prop} {s:Shared}
end
section
variable {X:Cx}
end
section
variable {κ:Type} [DecidableEq κ]
end
section
variable {P:Program} {w:World} {H:Hp} {h:Heap} {a:Addr}
end
section
variable {X:Cx} {pins:List (Addr×Obj)} {σ:St} {H:Hp} {s:Shared} {a:Addr} {y v:V} {u r:Value} {o:Option V} {A:Around} {E:Value->Shared->Prop}
end
section
variable {X:Cx} {pins:List (Addr×Obj)} {σ:St} {H:Hp} {s:Shared} {a:Addr} {kvs:List (Key×V)} {k:Key} {u:Value} {A:Around} {E:Value->Shared->Prop}
end
section
variable {X:Cx} {o i e value:Expr} {pos pos' tpos:Pos} {td ty tv:TE}
end
section
variable {X:Cx} {pos:Pos}
end
end L2
namespace PySem
open Sem (wp)
namespace F
end F
section
variable {α:Type} {prog:Program} {w:World} {A:Around} {E:Value->Shared->Prop} {s:Shared}
end
section
variable {prog:Program} {w:World} {A:Around} {E:Value->Shared->Prop} {h:Heap} {g:Array GenState} {d:Drawn} {t:Nat} {os:OsState} {a:Addr} {its:Array Value} {n:Nat}
end
end PySem
namespace PySem
namespace F
end F
end PySem
namespace L2
open PySem PySem.Spec PyProof.Rows
section
variable {X:Cx} {pins:List (Addr×Obj)} {σ:St} {H:Hp} {s1:Shared} {A:Around}
end
end L2
namespace PySem
section
variable {prog:Program} {w:World} {A:Around} {E:Value->Shared->Prop} {s:Shared} {zo ti to:Addr} {f0 f1:Value}
end
end PySem
namespace L2
open PySem PySem.Spec PyProof.Rows
section
variable {X:Cx}
end
section
variable {K:W.Frag} {a b:Addr} {xs ys:List V} {g:TG} {σ:St} {H:Hp} {tt:TT} {te:TE} {Q:VK} {σ0:St}
end
section
variable {X:Cx}
end
section
variable {X:Cx}
end
section
open PySem.SeqAt
open PySem.AutoSeq1 (wpAny_loadPart')
open PySem.MeetsSeq PySem.MeetsSeq2 PySem.MeetsSeq3 HT
end
section
variable {prog:Program} {w:World} {A:Around} {E:Value->Shared->Prop} {s:Shared}
end
section
variable {X:Cx}
end
open PySem
theorem tVar_1 {v:V} {a0:Option V} {σ:St} {H:Hp} {Q:VK}:tVar 1 (a0::some v::σ) H Q=Q v H:=by
 simp only [ZAV,ZAR]
theorem tVar_2 {v:V} {a0 a1:Option V} {σ:St} {H:Hp} {Q:VK}:tVar 2 (a0::a1::some v::σ) H Q=Q v H:=by
 simp only [ZAV,ZAR]
theorem tVar_3 {v:V} {a0 a1 a2:Option V} {σ:St} {H:Hp} {Q:VK}:tVar 3 (a0::a1::a2::some v::σ) H Q=Q v H:=by
 simp only [ZAV,ZAR]
theorem tVar_4 {v:V} {a0 a1 a2 a3:Option V} {σ:St} {H:Hp} {Q:VK}:tVar 4 (a0::a1::a2::a3::some v::σ) H Q=Q v H:=by
 simp only [ZAV,ZAR]
theorem tVar_5 {v:V} {a0 a1 a2 a3 a4:Option V} {σ:St} {H:Hp} {Q:VK}:tVar 5 (a0::a1::a2::a3::a4::some v::σ) H Q=Q v H:=by
 simp only [ZAV,ZAR]
theorem tVar_6 {v:V} {a0 a1 a2 a3 a4 a5:Option V} {σ:St} {H:Hp} {Q:VK}:tVar 6 (a0::a1::a2::a3::a4::a5::some v::σ) H Q=Q v H:=by
 simp only [ZAV,ZAR]
theorem tVar_7 {v:V} {a0 a1 a2 a3 a4 a5 a6:Option V} {σ:St} {H:Hp} {Q:VK}:tVar 7 (a0::a1::a2::a3::a4::a5::a6::some v::σ) H Q=Q v H:=by
 simp only [ZAV,ZAR]
theorem tVar_8 {v:V} {a0 a1 a2 a3 a4 a5 a6 a7:Option V} {σ:St} {H:Hp} {Q:VK}:tVar 8 (a0::a1::a2::a3::a4::a5::a6::a7::some v::σ) H Q=Q v H:=by
 simp only [ZAV,ZAR]
theorem tVar_9 {v:V} {a0 a1 a2 a3 a4 a5 a6 a7 a8:Option V} {σ:St} {H:Hp} {Q:VK}:tVar 9 (a0::a1::a2::a3::a4::a5::a6::a7::a8::some v::σ) H Q=Q v H:=by
 simp only [ZAV,ZAR]
theorem tVar_10 {v:V} {a0 a1 a2 a3 a4 a5 a6 a7 a8 a9:Option V} {σ:St} {H:Hp} {Q:VK}:tVar 10 (a0::a1::a2::a3::a4::a5::a6::a7::a8::a9::some v::σ) H Q=Q v H:=by
 simp only [ZAV,ZAR]
theorem tVar_11 {v:V} {a0 a1 a2 a3 a4 a5 a6 a7 a8 a9 a10:Option V} {σ:St} {H:Hp} {Q:VK}:tVar 11 (a0::a1::a2::a3::a4::a5::a6::a7::a8::a9::a10::some v::σ) H Q=Q v H:=by
 simp only [ZAV,ZAR]
theorem tVar_12 {v:V} {a0 a1 a2 a3 a4 a5 a6 a7 a8 a9 a10 a11:Option V} {σ:St} {H:Hp} {Q:VK}:tVar 12 (a0::a1::a2::a3::a4::a5::a6::a7::a8::a9::a10::a11::some v::σ) H Q=Q v H:=by
 simp only [ZAV,ZAR]
theorem tVar_13 {v:V} {a0 a1 a2 a3 a4 a5 a6 a7 a8 a9 a10 a11 a12:Option V} {σ:St} {H:Hp} {Q:VK}:tVar 13 (a0::a1::a2::a3::a4::a5::a6::a7::a8::a9::a10::a11::a12::some v::σ) H Q=Q v H:=by
 simp only [ZAV,ZAR]
theorem tVar_14 {v:V} {a0 a1 a2 a3 a4 a5 a6 a7 a8 a9 a10 a11 a12 a13:Option V} {σ:St} {H:Hp} {Q:VK}:tVar 14 (a0::a1::a2::a3::a4::a5::a6::a7::a8::a9::a10::a11::a12::a13::some v::σ) H Q=Q v H:=by
 simp only [ZAV,ZAR]
theorem tVar_15 {v:V} {a0 a1 a2 a3 a4 a5 a6 a7 a8 a9 a10 a11 a12 a13 a14:Option V} {σ:St} {H:Hp} {Q:VK}:tVar 15 (a0::a1::a2::a3::a4::a5::a6::a7::a8::a9::a10::a11::a12::a13::a14::some v::σ) H Q=Q v H:=by
 simp only [ZAV,ZAR]
theorem tVar_16 {v:V} {a0 a1 a2 a3 a4 a5 a6 a7 a8 a9 a10 a11 a12 a13 a14 a15:Option V} {σ:St} {H:Hp} {Q:VK}:tVar 16 (a0::a1::a2::a3::a4::a5::a6::a7::a8::a9::a10::a11::a12::a13::a14::a15::some v::σ) H Q=Q v H:=by
 simp only [ZAV,ZAR]
theorem tVar_17 {v:V} {a0 a1 a2 a3 a4 a5 a6 a7 a8 a9 a10 a11 a12 a13 a14 a15 a16:Option V} {σ:St} {H:Hp} {Q:VK}:tVar 17 (a0::a1::a2::a3::a4::a5::a6::a7::a8::a9::a10::a11::a12::a13::a14::a15::a16::some v::σ) H Q=Q v H:=by
 simp only [ZAV,ZAR]
theorem tVar_18 {v:V} {a0 a1 a2 a3 a4 a5 a6 a7 a8 a9 a10 a11 a12 a13 a14 a15 a16 a17:Option V} {σ:St} {H:Hp} {Q:VK}:tVar 18 (a0::a1::a2::a3::a4::a5::a6::a7::a8::a9::a10::a11::a12::a13::a14::a15::a16::a17::some v::σ) H Q=Q v H:=by
 simp only [ZAV,ZAR]
theorem tVar_19 {v:V} {a0 a1 a2 a3 a4 a5 a6 a7 a8 a9 a10 a11 a12 a13 a14 a15 a16 a17 a18:Option V} {σ:St} {H:Hp} {Q:VK}:tVar 19 (a0::a1::a2::a3::a4::a5::a6::a7::a8::a9::a10::a11::a12::a13::a14::a15::a16::a17::a18::some v::σ) H Q=Q v H:=by
 simp only [ZAV,ZAR]
theorem tVar_20 {v:V} {a0 a1 a2 a3 a4 a5 a6 a7 a8 a9 a10 a11 a12 a13 a14 a15 a16 a17 a18 a19:Option V} {σ:St} {H:Hp} {Q:VK}:tVar 20 (a0::a1::a2::a3::a4::a5::a6::a7::a8::a9::a10::a11::a12::a13::a14::a15::a16::a17::a18::a19::some v::σ) H Q=Q v H:=by
 simp only [ZAV,ZAR]
theorem tVar_21 {v:V} {a0 a1 a2 a3 a4 a5 a6 a7 a8 a9 a10 a11 a12 a13 a14 a15 a16 a17 a18 a19 a20:Option V} {σ:St} {H:Hp} {Q:VK}:tVar 21 (a0::a1::a2::a3::a4::a5::a6::a7::a8::a9::a10::a11::a12::a13::a14::a15::a16::a17::a18::a19::a20::some v::σ) H Q=Q v H:=by
 simp only [ZAV,ZAR]
theorem tVar_22 {v:V} {a0 a1 a2 a3 a4 a5 a6 a7 a8 a9 a10 a11 a12 a13 a14 a15 a16 a17 a18 a19 a20 a21:Option V} {σ:St} {H:Hp} {Q:VK}:tVar 22 (a0::a1::a2::a3::a4::a5::a6::a7::a8::a9::a10::a11::a12::a13::a14::a15::a16::a17::a18::a19::a20::a21::some v::σ) H Q=Q v H:=by
 simp only [ZAV,ZAR]
theorem tVar_23 {v:V} {a0 a1 a2 a3 a4 a5 a6 a7 a8 a9 a10 a11 a12 a13 a14 a15 a16 a17 a18 a19 a20 a21 a22:Option V} {σ:St} {H:Hp} {Q:VK}:tVar 23 (a0::a1::a2::a3::a4::a5::a6::a7::a8::a9::a10::a11::a12::a13::a14::a15::a16::a17::a18::a19::a20::a21::a22::some v::σ) H Q=Q v H:=by
 simp only [ZAV,ZAR]
theorem tVar_24 {v:V} {a0 a1 a2 a3 a4 a5 a6 a7 a8 a9 a10 a11 a12 a13 a14 a15 a16 a17 a18 a19 a20 a21 a22 a23:Option V} {σ:St} {H:Hp} {Q:VK}:tVar 24 (a0::a1::a2::a3::a4::a5::a6::a7::a8::a9::a10::a11::a12::a13::a14::a15::a16::a17::a18::a19::a20::a21::a22::a23::some v::σ) H Q=Q v H:=by
 simp only [ZAV,ZAR]
theorem tVar_25 {v:V} {a0 a1 a2 a3 a4 a5 a6 a7 a8 a9 a10 a11 a12 a13 a14 a15 a16 a17 a18 a19 a20 a21 a22 a23 a24:Option V} {σ:St} {H:Hp} {Q:VK}:tVar 25 (a0::a1::a2::a3::a4::a5::a6::a7::a8::a9::a10::a11::a12::a13::a14::a15::a16::a17::a18::a19::a20::a21::a22::a23::a24::some v::σ) H Q=Q v H:=by
 simp only [ZAV,ZAR]
theorem tVar_26 {v:V} {a0 a1 a2 a3 a4 a5 a6 a7 a8 a9 a10 a11 a12 a13 a14 a15 a16 a17 a18 a19 a20 a21 a22 a23 a24 a25:Option V} {σ:St} {H:Hp} {Q:VK}:tVar 26 (a0::a1::a2::a3::a4::a5::a6::a7::a8::a9::a10::a11::a12::a13::a14::a15::a16::a17::a18::a19::a20::a21::a22::a23::a24::a25::some v::σ) H Q=Q v H:=by
 simp only [ZAV,ZAR]
theorem tVar_27 {v:V} {a0 a1 a2 a3 a4 a5 a6 a7 a8 a9 a10 a11 a12 a13 a14 a15 a16 a17 a18 a19 a20 a21 a22 a23 a24 a25 a26:Option V} {σ:St} {H:Hp} {Q:VK}:tVar 27 (a0::a1::a2::a3::a4::a5::a6::a7::a8::a9::a10::a11::a12::a13::a14::a15::a16::a17::a18::a19::a20::a21::a22::a23::a24::a25::a26::some v::σ) H Q=Q v H:=by
 simp only [ZAV,ZAR]
theorem tVar_28 {v:V} {a0 a1 a2 a3 a4 a5 a6 a7 a8 a9 a10 a11 a12 a13 a14 a15 a16 a17 a18 a19 a20 a21 a22 a23 a24 a25 a26 a27:Option V} {σ:St} {H:Hp} {Q:VK}:tVar 28 (a0::a1::a2::a3::a4::a5::a6::a7::a8::a9::a10::a11::a12::a13::a14::a15::a16::a17::a18::a19::a20::a21::a22::a23::a24::a25::a26::a27::some v::σ) H Q=Q v H:=by
 simp only [ZAV,ZAR]
theorem tVar_29 {v:V} {a0 a1 a2 a3 a4 a5 a6 a7 a8 a9 a10 a11 a12 a13 a14 a15 a16 a17 a18 a19 a20 a21 a22 a23 a24 a25 a26 a27 a28:Option V} {σ:St} {H:Hp} {Q:VK}:tVar 29 (a0::a1::a2::a3::a4::a5::a6::a7::a8::a9::a10::a11::a12::a13::a14::a15::a16::a17::a18::a19::a20::a21::a22::a23::a24::a25::a26::a27::a28::some v::σ) H Q=Q v H:=by
 simp only [ZAV,ZAR]
theorem tVar_30 {v:V} {a0 a1 a2 a3 a4 a5 a6 a7 a8 a9 a10 a11 a12 a13 a14 a15 a16 a17 a18 a19 a20 a21 a22 a23 a24 a25 a26 a27 a28 a29:Option V} {σ:St} {H:Hp} {Q:VK}:tVar 30 (a0::a1::a2::a3::a4::a5::a6::a7::a8::a9::a10::a11::a12::a13::a14::a15::a16::a17::a18::a19::a20::a21::a22::a23::a24::a25::a26::a27::a28::a29::some v::σ) H Q=Q v H:=by
 simp only [ZAV,ZAR]
open PySem
def Cut (t:TS):TS:=t
theorem ZAP {X:Cx} {rest:List Stmt} {u:TS} (h:PSs X rest u):PSs X rest (Cut u):=h
theorem ZAc {u:TS} {D:Ends} {σ:St} {H:Hp} (h:u D σ H):Cut u D σ H:=h
theorem us0 {l:List Value} (h:l.length=0):l=[]:=List.length_eq_zero_iff.mp h
theorem us1 {l:List Value} (h:l.length=1):∃ a0,l=[a0]:=by
 cases l with
 | nil=>cases h
 | cons a l=>
  obtain rfl:=us0 (l:=l) (Nat.succ.inj h)
  exact ⟨a,rfl⟩
theorem us2 {l:List Value} (h:l.length=2):∃ a0 a1,l=[a0,a1]:=by
 cases l with
 | nil=>cases h
 | cons a l=>
  obtain ⟨b0,rfl⟩:=us1 (l:=l) (Nat.succ.inj h)
  exact ⟨a,b0,rfl⟩
theorem us3 {l:List Value} (h:l.length=3):∃ a0 a1 a2,l=[a0,a1,a2]:=by
 cases l with
 | nil=>cases h
 | cons a l=>
  obtain ⟨b0,b1,rfl⟩:=us2 (l:=l) (Nat.succ.inj h)
  exact ⟨a,b0,b1,rfl⟩
theorem us4 {l:List Value} (h:l.length=4):∃ a0 a1 a2 a3,l=[a0,a1,a2,a3]:=by
 cases l with
 | nil=>cases h
 | cons a l=>
  obtain ⟨b0,b1,b2,rfl⟩:=us3 (l:=l) (Nat.succ.inj h)
  exact ⟨a,b0,b1,b2,rfl⟩
theorem us5 {l:List Value} (h:l.length=5):∃ a0 a1 a2 a3 a4,l=[a0,a1,a2,a3,a4]:=by
 cases l with
 | nil=>cases h
 | cons a l=>
  obtain ⟨b0,b1,b2,b3,rfl⟩:=us4 (l:=l) (Nat.succ.inj h)
  exact ⟨a,b0,b1,b2,b3,rfl⟩
end L2
namespace Law
open PySem L2
local macro_rules | `(tactic| walk_at "o")=>`(tactic| first | exact Or.inl rfl | exact Or.inr rfl)
local macro_rules | `(tactic| walk_at "rd")=>`(tactic| ((try dsimp only [cx_K,tChain,tForZ_eq,tRevL,tCompR2_eq,sFldAug_eq,cx_cloK,ZCo,ZBY,tForE_eq,tCompE_eq,tMaxD,tAug_eq,ipI_int,gSub,gCons_eq,gNil_eq,tSeq,tIfS,ZC1,tB,tOr,tAnd,tNot,tOp,tUn,tC,ZAR,tTry,tCallS,tRaise,ZCm,ZB9,tXMk,tFS,ZC7,ZCb,tVar_1,tVar_2,tVar_3,tVar_4,tVar_5,tVar_6,tVar_7,tVar_8,tVar_9,tVar_10,tVar_11,tVar_12,tVar_13,tVar_14,tVar_15,tVar_16,tVar_17,tVar_18,tVar_19,tVar_20,tVar_21,tVar_22,tVar_23,tVar_24,tVar_25,tVar_26,tVar_27,tVar_28,tVar_29,tVar_30,rI0_int,rI_int,rU_int,rEq_int,rNe_int,rEq_bl,rNe_bl,rEq_str,rNe_str,ex_bl,ex_int,tAsg,ZCz,tRet,tRetN,ZC5,ZC4,tNever,ZC6,tOrV,ZC3,tIf,List.set_cons_zero,List.set_cons_succ,ZCp,ZCi,ZBc,tNil,List.cons_append,List.nil_append,yAW,tCB,tFld_eq,sFld_eq,tForL_eq,tForR1_eq,tForR2_eq,tCompL_eq,tCompR1_eq,tYes,tBM,tBM0,tLst,tTup,ZCn,true_and,tSl,ZC2,tNoPart,decide_eq_true_eq,Bool.not_eq_true',decide_eq_false_iff_not,L2.start,yAO,List.map_nil,yAN,yBA,Nat.reduceAdd,Nat.reduceSub,Nat.zero_add,Nat.sub_self,List.replicate_zero,List.replicate_succ,if_true,if_false,Bool.false_eq_true,Bool.true_eq_false,Bool.not_true,Bool.not_false]);(try simp only [cx_K,tChain,tForZ_eq,tRevL,tCompR2_eq,sFldAug_eq,cx_cloK,ZCo,ZBY,tForE_eq,tCompE_eq,tMaxD,tAug_eq,ipI_int,gSub,gCons_eq,gNil_eq,tSeq,tIfS,ZC1,tB,tOr,tAnd,tNot,tOp,tUn,tC,ZAR,tTry,tCallS,tRaise,ZCm,ZB9,tXMk,tFS,ZC7,ZCb,tVar_1,tVar_2,tVar_3,tVar_4,tVar_5,tVar_6,tVar_7,tVar_8,tVar_9,tVar_10,tVar_11,tVar_12,tVar_13,tVar_14,tVar_15,tVar_16,tVar_17,tVar_18,tVar_19,tVar_20,tVar_21,tVar_22,tVar_23,tVar_24,tVar_25,tVar_26,tVar_27,tVar_28,tVar_29,tVar_30,rI0_int,rI_int,rU_int,rEq_int,rNe_int,rEq_bl,rNe_bl,rEq_str,rNe_str,ex_bl,ex_int,tAsg,ZCz,tRet,tRetN,ZC5,ZC4,tNever,ZC6,tOrV,ZC3,tIf,List.set_cons_zero,List.set_cons_succ,ZCp,ZCi,ZBc,tNil,List.cons_append,List.nil_append,yAW,tCB,tFld_eq,sFld_eq,tForL_eq,tForR1_eq,tForR2_eq,tCompL_eq,tCompR1_eq,tYes,tBM,tBM0,tLst,tTup,ZCn,true_and,tSl,ZC2,tNoPart,decide_eq_true_eq,Bool.not_eq_true',decide_eq_false_iff_not,L2.start,yAO,List.map_nil,yAN,yBA,Nat.reduceAdd,Nat.reduceSub,Nat.zero_add,Nat.sub_self,List.replicate_zero,List.replicate_succ,if_true,if_false,Bool.false_eq_true,Bool.true_eq_false,Bool.not_true,Bool.not_false])))
local macro_rules | `(tactic| walk_at "up")=>`(tactic| first | assumption | (refine Same.get (by assumption) ?_;walk_at "up"))
local macro_rules | `(tactic| walk_at "lk")=>`(tactic| ((repeat (first | rw [lkc,if_pos rfl] | rw [lkc,if_neg (by decide +kernel)]));first | done | rfl))
def top (i:Nat):Stmt:=PySem.Challenge.pw_sorthall_k16_spent_and_given_more.main.body.getD i (.Pass ⟨0,0,0,0⟩)
abbrev ZAp:Stmt:=ZBX (top 10) 0
abbrev ZAq:Stmt:=ZBX (top 12) 0
abbrev ZAk:Stmt:=ZBX (top 12) 2
abbrev ZAZ:Stmt:=ZBX (top 12) 3
abbrev ZAj:Stmt:=ZBX (top 12) 4
abbrev ZAW:Stmt:=ZBX (top 15) 0
abbrev ZAQ:Stmt:=ZBX (top 15) 1
abbrev ZBB:Stmt:=top 17
abbrev ZBT:Stmt:=top 18
abbrev ZBE:Stmt:=top 19
abbrev ZBA:Stmt:=top 20
abbrev ZBN:Stmt:=top 21
abbrev ZA9:Stmt:=top 22
abbrev ZBz:Stmt:=top 23
abbrev ZCC:Stmt:=top 24
theorem sc_Spent_init:FnScope ["self","asked"] ["self","asked"] (ZAB ZAp):=⟨rfl,rfl,rfl,by decide +kernel,rfl,by decide +kernel,by decide +kernel⟩
theorem sc_Asker_init:FnScope ["self","row","rule","most"] ["self","row","rule","most"] (ZAB ZAq):=⟨rfl,rfl,rfl,by decide +kernel,rfl,by decide +kernel,by decide +kernel⟩
theorem sc_Asker_ahead:FnScope ["self","p","q","later","earlier","said"] ["self","p","q"] (ZAB ZAk):=⟨rfl,rfl,rfl,by decide +kernel,rfl,by decide +kernel,by decide +kernel⟩
theorem sc_Asker_answers:FnScope ["self"] ["self"] (ZAB ZAZ):=⟨rfl,rfl,rfl,by decide +kernel,rfl,by decide +kernel,by decide +kernel⟩
theorem sc_Asker_widen:FnScope ["self","more"] ["self","more"] (ZAB ZAj):=⟨rfl,rfl,rfl,by decide +kernel,rfl,by decide +kernel,by decide +kernel⟩
theorem sc_AskedRule_init:FnScope ["self","teller"] ["self","teller"] (ZAB ZAW):=⟨rfl,rfl,rfl,by decide +kernel,rfl,by decide +kernel,by decide +kernel⟩
theorem sc_AskedRule_before:FnScope ["self","x","y","teller"] ["self","x","y"] (ZAB ZAQ):=⟨rfl,rfl,rfl,by decide +kernel,rfl,by decide +kernel,by decide +kernel⟩
theorem sc_cell_at:FnScope ["_law_script","_law_k"] ["_law_script","_law_k"] (ZAB ZBB):=⟨rfl,rfl,rfl,by decide +kernel,rfl,by decide +kernel,by decide +kernel⟩
theorem sc_whole:FnScope ["_law_found"] ["_law_found"] (ZAB ZBT):=⟨rfl,rfl,rfl,by decide +kernel,rfl,by decide +kernel,by decide +kernel⟩
theorem sc_teller:FnScope ["_law_written","_law_ask"] ["_law_written"] (ZAB ZBE):=⟨rfl,rfl,rfl,by decide +kernel,rfl,by decide +kernel,by decide +kernel⟩
theorem sc_refused:FnScope ["_law_asker","_law_p","_law_q","_law_asked","e","_law_others"] ["_law_asker","_law_p","_law_q","_law_asked"] (ZAB ZBA):=⟨rfl,rfl,rfl,by decide +kernel,rfl,by decide +kernel,by decide +kernel⟩
theorem sc_stands:FnScope ["_law_asker","_law_state"] ["_law_asker","_law_state"] (ZAB ZBN):=⟨rfl,rfl,rfl,by decide +kernel,rfl,by decide +kernel,by decide +kernel⟩
theorem sc_widened:FnScope ["_law_asker","_law_number","_law_state","_law_more"] ["_law_asker","_law_number","_law_state"] (ZAB ZA9):=⟨rfl,rfl,rfl,by decide +kernel,rfl,by decide +kernel,by decide +kernel⟩
theorem sc_deed:FnScope ["_law_asker","_law_cell","_law_row","_law_state","_law_written","_law_p","_law_q","_law_many","_law_found","_law_later","_law_earlier"] ["_law_asker","_law_cell","_law_row","_law_state","_law_written"] (ZAB ZBz):=⟨rfl,rfl,rfl,by decide +kernel,rfl,by decide +kernel,by decide +kernel⟩
theorem sc_law:FnScope ["_law_script","_law_number","_law_row","_law_k","_law_written","_law_rule","_law_states","_law_askers","_law_held","_law_cell"] ["_law_script"] (ZAB ZCC):=⟨rfl,rfl,rfl,by decide +kernel,rfl,by decide +kernel,by decide +kernel⟩
abbrev ZAI:Stmt:=inBody ZBE 0
theorem csc_teller:CloScope ["_law_one","_law_other","_law_written"] ["_law_one","_law_other"] ["_law_written"] (ZAB ZAI):=⟨rfl,rfl,rfl,by decide +kernel,rfl,rfl,by decide,by decide +kernel,by decide +kernel,by decide +kernel,fun x h=>(show ∀ y∈(ZAB ZAI).names,y.2=.free->y.1∈(["_law_written"]:List Str) by decide +kernel) _ (PySem.mem_of_lookup h) rfl⟩
structure Bt (K:W.Frag) (mg:Str->Option Value) (C_Asker C_AskedRule C_HallError C_NoRule C_NoPaper C_NoPlace C_NoKey C_NoRow C_NoOrder C_TooFar C_Spent:Addr):Prop where
 b_len:mg "len"=none
 b_range:mg "range"=none
 b_list:mg "list"=none
 b_isinstance:mg "isinstance"=none
 b_bool:mg "bool"=none
 b_int:mg "int"=none
 b_max:mg "max"=none
 b_min:mg "min"=none
 b_ValueError:mg "ValueError"=none
 m_Asker:mg "Asker"=some (.ref C_Asker)
 cl_Asker:Cls K C_Asker
 n_Asker_row:NoAttr K C_Asker "row"
 n_Asker_rule:NoAttr K C_Asker "rule"
 n_Asker_most:NoAttr K C_Asker "most"
 n_Asker_asked:NoAttr K C_Asker "asked"
 n_Asker_told:NoAttr K C_Asker "told"
 m_AskedRule:mg "AskedRule"=some (.ref C_AskedRule)
 cl_AskedRule:Cls K C_AskedRule
 n_AskedRule_teller:NoAttr K C_AskedRule "teller"
 m_HallError:mg "HallError"=some (.ref C_HallError)
 m_NoRule:mg "NoRule"=some (.ref C_NoRule)
 m_NoPaper:mg "NoPaper"=some (.ref C_NoPaper)
 m_NoPlace:mg "NoPlace"=some (.ref C_NoPlace)
 m_NoKey:mg "NoKey"=some (.ref C_NoKey)
 m_NoRow:mg "NoRow"=some (.ref C_NoRow)
 m_NoOrder:mg "NoOrder"=some (.ref C_NoOrder)
 m_TooFar:mg "TooFar"=some (.ref C_TooFar)
 m_Spent:mg "Spent"=some (.ref C_Spent)
 xc_Spent:ExcC K C_Spent
 xk_Spent:XCls K C_Spent
 xi_Spent:∃ fI,ZBh K C_Spent fI bmV "ValueError.__new__"=true
 xm_Spent_HallError:PySem.W.exmOne K (.ref C_Spent) (.ref C_HallError)=some true
 n_Spent_asked:NoAttr K C_Spent "asked"
 xb_HallError:XBase K C_HallError
 kit_int_bool:PySem.W.kitOne K (.type "int") (.type "bool")=some false
 kit_Spent_ValueError:PySem.W.kitOne K (.ref C_Spent) (.type "ValueError")=some true
 kit_Spent_Spent:PySem.W.kitOne K (.ref C_Spent) (.ref C_Spent)=some true
 kit_Spent_NoRule:PySem.W.kitOne K (.ref C_Spent) (.ref C_NoRule)=some false
 kit_Spent_NoPlace:PySem.W.kitOne K (.ref C_Spent) (.ref C_NoPlace)=some false
 kit_Spent_NoKey:PySem.W.kitOne K (.ref C_Spent) (.ref C_NoKey)=some false
 kit_Spent_NoRow:PySem.W.kitOne K (.ref C_Spent) (.ref C_NoRow)=some false
 kit_Spent_NoOrder:PySem.W.kitOne K (.ref C_Spent) (.ref C_NoOrder)=some false
 kit_Spent_TooFar:PySem.W.kitOne K (.ref C_Spent) (.ref C_TooFar)=some false
 kit_Spent_NoPaper:PySem.W.kitOne K (.ref C_Spent) (.ref C_NoPaper)=some false
def cellOf (ns:List Int) (k:Int):Int:=if k < (ns.length:Int) then (ns[k.toNat]?).getD 0 else 0
def ZCr (K:W.Frag):Sp:=fun vs H Q _=>∃ (a:Addr) (ns:List Int) (k:Int),vs=[.ref a,.int k] /\ SqL K H a (ns.map V.int) /\ 0 <= k /\ Q (.int (cellOf ns k)) H
theorem once0 {M G:Prop} (h:M->G) (t:M):G:=h t
theorem ZBy {n:Nat} (h:n <= 90000):n < sizeLine:=Nat.lt_of_le_of_lt h (by decide)
abbrev fA (rl ru:Addr) (m:V) (n:Int) (tl:Addr):List (Str×V):=[("told",.ref tl),("asked",.int n),("most",m),("rule",.ref ru),("row",.ref rl)]
abbrev fR (g:Addr):List (Str×V):=[("teller",.ref g)]
theorem fA_canon {rl ru tl:Addr} {m:V} {n:Int}:∀ f,(putF "told" (.ref tl) (putF "asked" (.int n) (putF "most" m (putF "rule" (.ref ru) (putF "row" (.ref rl) []))))).lookup f=(fA rl ru m n tl).lookup f:=fun f=>by
 simp only [ZAU,lkc]
theorem fA_asked {rl ru tl:Addr} {m:V} {n k:Int}:∀ f,(putF "asked" (.int k) (fA rl ru m n tl)).lookup f=(fA rl ru m k tl).lookup f:=fun f=>by
 rw [ZAU]
 by_cases h:f=("asked":Str)
 .subst h
  rw [if_pos rfl]
  exact (show List.lookup _ (fA rl ru m k tl)=some (.int k) by walk_at "lk").symm
 .simp only [lkc,h,if_false]
theorem fA_most {rl ru tl:Addr} {m m':V} {n:Int}:∀ f,(putF "most" m' (fA rl ru m n tl)).lookup f=(fA rl ru m' n tl).lookup f:=fun f=>by
 rw [ZAU]
 by_cases h:f=("most":Str)
 .subst h
  rw [if_pos rfl]
  exact (show List.lookup _ (fA rl ru m' n tl)=some m' by walk_at "lk").symm
 .simp only [lkc,h,if_false]
theorem insAugV {K:W.Frag} {f:Str} {a C:Addr} {fl:List (Str×V)} {i j:Int} {H:Hp} {D:Ends} {σ:St} (h:Ins H a C fl) (cl:Cls K C) (n:NoAttr K C f) (l:fl.lookup f=some (.int i))
  {te:TE} (hte:∀ Q:VK,Q (.int j) H->te σ H Q)
  (q:∀ H',Ins H' a C (putF f (.int (i+j)) fl)->(∀ b,b≠a->H' b=H b)->D.nx σ H'):augA K te rAdd f D σ (.ref a) H:=by
 obtain ⟨dx,fs,h1,h2,h3⟩:=h.ex
 refine ⟨a,C,dx,fs,_,rfl,h1,cl,n,(h3 f).trans l,hte _ ⟨i,j,rfl,rfl,dx,fs,h1,by omega,q _ ⟨dx,_,ZAG,?_,fun g=>?_⟩ fun b hb=>ZAC hb⟩⟩
 .rw [ZA7 ((h3 f).trans l)];exact h2
 .rw [ZAU,ZAU,h3]
abbrev fS (n:Int):List (Str×V):=[("asked",.int n)]
def ZBS (C:Addr):Sp:=fun vs H Q _=>∃ (e:Addr) (n:Int),vs=[.ref e,.int n] /\ H e=some (excM e (.ref C) none) /\ n.natAbs.log2 < 1920 /\ ∀ d,H d=none->d≠e->Q .non (upd (upd H d (xdM d (fS n))) e (excM e (.ref C) (some d)))
def ZAs (CA:Addr):Sp:=fun vs H Q _=>∃ (x dx r:Addr) (ru:Addr) (m:V) (xs:List V),vs=[.ref x,.ref r,.ref ru,m] /\ H x=some (.ins CA dx []) /\ H r=some (.lst xs) /\
 ∀ rl tl H',(∀ b o,b≠x->H b=some o->H' b=some o)->H rl=none->H tl=none->rl≠tl->Ins H' x CA (fA rl ru m 0 tl)->H' rl=some (.lst xs)->H' tl=some (.lst [])->Q .non H'
def ZBZ (CA:Addr):Sp:=fun vs H Q _=>∃ (a rl ru tl:Addr) (m:V) (n:Int) (ts:List V),vs=[.ref a] /\ Ins H a CA (fA rl ru m n tl) /\ H tl=some (.lst ts) /\ ∀ l H',Same H H'->H l=none->H' l=some (.lst ts)->Q (.ref l) H'
def ZBe (CR:Addr):Sp:=fun vs H Q _=>∃ (x dx g:Addr),vs=[.ref x,.ref g] /\ H x=some (.ins CR dx []) /\ ∀ H',(∀ b o,b≠x->H b=some o->H' b=some o)->Ins H' x CR (fR g)->Q .non H'
def ZBk (CR:Addr) (r:V->List V->Hp->VK->Prop):Sp:=fun vs H Q _=>∃ (ru g:Addr) (x y:V),vs=[.ref ru,x,y] /\ Ins H ru CR (fR g) /\ (∃ o,H g=some (FZ o) /\ ∃ fd,o.data=.func fd) /\ r (.ref g) [x,y] H Q
def wdn (m:V) (i:Int):V:=match m with | .int k=>.int (k+i) | m=>m
def ZCT (CA:Addr):Sp:=fun vs H Q _=>∃ (a rl ru tl:Addr) (m:V) (n i:Int),vs=[.ref a,.int i] /\ Ins H a CA (fA rl ru m n tl) /\ (m=.non∨∃ k,m=.int k) /\ ∀ H',(∀ b,b≠a->H' b=H b)->Ins H' a CA (fA rl ru (wdn m i) n tl)->Q .non H'
def ZCB (CA CR CS:Addr) (r:V->List V->Hp->VK->Prop):Sp:=fun vs H Q E=>∃ (a rl ru tl:Addr) (m:V) (n p q:Int),vs=[.ref a,.int p,.int q] /\ Ins H a CA (fA rl ru m n tl) /\ n.natAbs.log2 < 1920 /\
 ((∃ k,m=.int k /\ k <= n /\ ∀ d H',Same H H'->H d=none->H' d=some (xdM d (fS n))->E (.ref CS) (some d) H') ∨
 ((m=.non∨∃ k,m=.int k /\ n < k) /\ ∃ (xs ts:List V) (x y:V),H rl=some (.lst xs) /\ p≠q /\ 0 <= p /\ 0 <= q /\ xs[(max p q).toNat]?=some x /\ xs[(min p q).toNat]?=some y /\ ZBk CR r [.ref ru,x,y] H (fun v H1=>∃ b,v=.bl b /\ Ins H1 a CA (fA rl ru m n tl) /\ H1 tl=some (.lst ts) /\ ts.length <= 90000 /\
  ∀ t H2,H1 t=none->Ins H2 a CA (fA rl ru m (n+1) tl)->H2 tl=some (.lst (ts++[.ref t]))->H2 t=some (.tup [.int (max p q),.int (min p q),.bl b])->(∀ c,c≠a->c≠tl->c≠t->H2 c=H1 c)->Q (.bl (if q < p then b else !b)) H2) E0))
def kat (ks:List Int) (p:Nat):Int:=(ks[p]?).getD 0
structure Told (H:Hp) (ks:List Int) (pr:List (Nat×Nat)) (ts:List V):Prop where
 len:ts.length=pr.length
 get:∀ (j p q:Nat),pr[j]?=some (p,q)->∃ t,ts[j]?=some (V.ref t) /\ H t=some (.tup [.int p,.int q,.bl (decide (kat ks p < kat ks q))])
theorem Told.keep {H H':Hp} {ks:List Int} {pr:List (Nat×Nat)} {ts:List V} (e:∀ t x,H t=some (.tup x)->H' t=some (.tup x)) (h:Told H ks pr ts):Told H' ks pr ts :=
 ⟨h.len,fun j p q hj=>let ⟨t,a,b⟩:=h.get j p q hj;⟨t,a,e _ _ b⟩⟩
theorem Told.snoc {H:Hp} {ks:List Int} {pr:List (Nat×Nat)} {ts:List V} {p q:Nat} {t:Addr} (h:Told H ks pr ts) (ht:H t=some (.tup [.int p,.int q,.bl (decide (kat ks p < kat ks q))])):Told H ks (pr++[(p,q)]) (ts++[.ref t]):=by
 refine ⟨by rw [yAJ,yAJ,h.len];rfl,fun j p' q' hj=>?_⟩
 by_cases hl:j < pr.length
 .rw [yAV hl] at hj
  obtain ⟨t',a,b⟩:=h.get j p' q' hj
  exact ⟨t',by rw [yAV (by rw [h.len];exact hl)];exact a,b⟩
 .have e:=(yAR.mp hj).1
  rw [yAJ] at e
  have hj':j=pr.length:=by have:([(p,q)]:List (Nat×Nat)).length=1:=rfl;omega
  subst hj'
  rw [yBB (yAB _),Nat.sub_self] at hj
  cases hj
  exact ⟨t,by rw [<- h.len,yBB (yAB _),Nat.sub_self];rfl,ht⟩
def tdD (ks:List Int) (c:Nat×Nat):PyData:=.tuple [.int c.1,.int c.2,.bool (decide (kat ks c.1 < kat ks c.2))]
theorem Told.dp {K:W.Frag} {H:Hp} {ks:List Int}:∀ {pr:List (Nat×Nat)} {ts:List V},Told H ks pr ts->DpAll K H (pr.map (tdD ks)) ts
 | [],ts,h=>by
  have:ts=[]:=List.length_eq_zero_iff.mp h.len
  subst this
  exact .nil
 | c::r,[],h=>by have:=h.len;cases this
 | (p,q)::r,v::ts,h=>by
  obtain ⟨t,a,b⟩:=h.get 0 p q rfl
  have ev:v=.ref t:=Option.some.inj a
  subst ev
  refine .cons (ZCQ (SqT.of b) (.cons (ZB7 _) (.two (ZB7 _) (dp_bl _)))) (Told.dp ⟨by have:=h.len;simpa using this,fun j p' q' hj=>?_⟩)
  obtain ⟨t',a',b'⟩:=h.get (j+1) p' q' (by simpa using hj)
  exact ⟨t',by simpa using a',b'⟩
theorem td_lay (ks:List Int):∀ pr:List (Nat×Nat),PyData.canLayAll0 (pr.map (tdD ks))=true
 | []=>by unfold PyData.canLayAll0 List.map;rfl
 | c::r=>by
  rw [yAO]
  unfold PyData.canLayAll0
  rw [td_lay ks r]
  unfold tdD PyData.canLay0 PyData.canLayAll0 PyData.canLayAll0 PyData.canLayAll0 PyData.canLayAll0 PyData.canLay0
  rfl
theorem td_dep (ks:List Int):∀ pr:List (Nat×Nat),PyData.depthAll (pr.map (tdD ks)) <= 1
 | []=>by unfold List.map PyData.depthAll;decide
 | c::r=>by
  rw [yAO]
  unfold PyData.depthAll
  have h1:=td_dep ks r
  have h2:(tdD ks c).depth <= 1:=by unfold tdD PyData.depth PyData.depthAll PyData.depthAll PyData.depthAll PyData.depthAll PyData.depth;decide
  omega
theorem told_ne {K:W.Frag} {H:Hp} {ks:List Int} {pr:List (Nat×Nat)} {ts ts':List V} {x y:Addr} {Q:VK} (hx:H x=some (.lst ts)) (hy:H y=some (.lst ts')) (h:Told H ks pr ts) (h':Told H ks pr ts') (q:Q (.bl false) H):rNeD K (.ref x) (.ref y) H Q :=
 neD_refl (d:=.list (pr.map (tdD ks))) (ZCx (SqL.of hx) h.dp) (ZCx (SqL.of hy) h'.dp) (by unfold PyData.canLay0;exact td_lay ks pr) (by unfold PyData.depth;have:=td_dep ks pr;omega) q
def rTL (iname iq:Str) (ip:Arguments) (ib:List Stmt) (isc:Scope):V->List V->Hp->VK->Prop:=fun f vs H Q=>∃ (g x y lg:Addr) (k k' i j:Int) (ws:List V),f=.ref g /\ vs=[.ref x,.ref y] /\ Clo H g iname iq ip ib isc ["_law_written"] [.ref lg] /\ H x=some (.tup [.int k,.int i]) /\ H y=some (.tup [.int k',.int j]) /\ H lg=some (.lst ws) /\ ws.length <= 90000 /\
 ∀ t,H t=none->Q (.bl (decide (k < k'))) (upd (upd H t (.tup [.ref x,.ref y])) lg (.lst (ws++[.ref t])))
theorem rT_mono {iname iq:Str} {ip:Arguments} {ib:List Stmt} {isc:Scope} {f:V} {vs:List V} {H:Hp} {Q Q':VK} (m:∀ v H,Q v H->Q' v H) (h:rTL iname iq ip ib isc f vs H Q):rTL iname iq ip ib isc f vs H Q':=by
 obtain ⟨g,x,y,lg,k,k',i,j,ws,e1,e2,h1,h2,h3,h4,h5,q⟩:=h
 exact ⟨g,x,y,lg,k,k',i,j,ws,e1,e2,h1,h2,h3,h4,h5,fun t ht=>m _ _ (q t ht)⟩
abbrev ZA4:V->List V->Hp->VK->Prop:=rTL "_law_ask" "_law_teller.<locals>._law_ask" (ZAN ZAI) (ZAK ZAI) (ZAB ZAI)
def ZA8:Sp:=fun vs H Q _=>∃ i:Int,vs=[.int i] /\ Q (.bl true) H
def ZBD (CA:Addr):Sp:=fun vs H Q _=>∃ (a rl ru tl:Addr) (k n p q:Int),vs=[.ref a,.int p,.int q,.int n] /\ Ins H a CA (fA rl ru (.int k) n tl) /\ n.natAbs.log2 < 1920 /\ k <= n /\ ∀ H',Same H H'->Q (.bl true) H'
def Mst (m:V):Prop:=m=.non∨∃ k,m=.int k
def ZBd (CA:Addr):Sp:=fun vs H Q _=>∃ (a rl ru tl s t:Addr) (m:V) (ts:List V),vs=[.ref a,.ref s] /\ Ins H a CA (fA rl ru m (ts.length:Nat) tl) /\ H s=some (.lst [m,.ref t]) /\ H t=some (.lst ts) /\ Mst m /\ ts.length <= 1000 /\ Q (.bl true) H
def ZBR (CA:Addr):Sp:=fun vs H Q _=>∃ (a rl ru tl s t:Addr) (m:V) (n i:Int),vs=[.ref a,.int i,.ref s] /\ Ins H a CA (fA rl ru m n tl) /\ H s=some (.lst [m,.ref t]) /\ Mst m /\ s≠a /\ ∀ H' m',Fr [a,s] H H'->Mst m'->Ins H' a CA (fA rl ru m' n tl)->H' s=some (.lst [m',.ref t])->Q (.bl true) H'
theorem ZAa {α:Type} {x:α} {r:List α}:atI (x::r) 0=some x:=ZAY (by decide) rfl
theorem isX {R:Bool->Prop} {K:W.Frag} {H:Hp} {ea C:Addr} {c:V} {b:Bool} {dd:Option Addr} (h:H ea=some (excO ea (.ref C) dd)) (x:ExcC K C) (hd:PySem.W.hasDictIn K C=true) (k:PySem.W.kitOne K (.ref C) (cval c)=some b) (hc:ZBx c=true) (q:R b) :
  ∃ a C' c' b' dd',[V.ref ea,c]=[.ref a,c'] /\ ZBx c'=true /\ H a=some (excO a (.ref C') dd') /\ ExcC K C' /\ PySem.W.hasDictIn K C'=true /\ PySem.W.kitOne K (.ref C') (cval c')=some b' /\ R b':=⟨ea,C,c,b,dd,rfl,hc,h,x,hd,k,q⟩
def lx (ks:List Int) (x y:Nat):Prop:=kat ks x < kat ks y∨(kat ks x=kat ks y /\ x < y)
instance {ks:List Int} {x y:Nat}:Decidable (lx ks x y):=by unfold lx;infer_instance
theorem lexLt_lx {ks:List Int} {x y:Nat}:HT.lexLt [kat ks x,(x:Int)] [kat ks y,(y:Int)]=decide (lx ks x y):=by
 unfold HT.lexLt
 by_cases e:kat ks x=kat ks y
 .rw [if_pos e]
  unfold HT.lexLt
  by_cases e2:(x:Int)=y
  .rw [if_pos e2]
   exact (decide_eq_false (by unfold lx;omega)).symm
  .rw [if_neg e2]
   by_cases z:(x:Int) < y
   .rw [decide_eq_true z];exact (decide_eq_true (by unfold lx;omega)).symm
   .rw [decide_eq_false z];exact (decide_eq_false (by unfold lx;omega)).symm
 .rw [if_neg e]
  by_cases z:kat ks x < kat ks y
  .rw [decide_eq_true z];exact (decide_eq_true (by unfold lx;omega)).symm
  .rw [decide_eq_false z];exact (decide_eq_false (by unfold lx;omega)).symm
theorem ahead_lx {ks:List Int} {o pl:Nat} (h:o≠pl):(if pl < o then decide (kat ks o < kat ks pl) else !decide (kat ks pl < kat ks o))=decide (lx ks o pl):=by
 by_cases z:pl < o
 .rw [if_pos z]
  by_cases e:kat ks o < kat ks pl
  .rw [decide_eq_true e];exact (decide_eq_true (by unfold lx;omega)).symm
  .rw [decide_eq_false e];exact (decide_eq_false (by unfold lx;omega)).symm
 .rw [if_neg z]
  by_cases e:kat ks pl < kat ks o
  .rw [decide_eq_true e];exact (decide_eq_false (by unfold lx;omega)).symm
  .rw [decide_eq_false e];exact (decide_eq_true (by unfold lx;omega)).symm
def ZCR (H:Hp) (ks:List Int) (xs:List V):Prop:=xs.length=ks.length /\ ∀ (i:Nat) k,ks[i]?=some k->∃ r,xs[i]?=some (V.ref r) /\ H r=some (.tup [.int k,.int i])
structure Side (CA:Addr) (H:Hp) (ks:List Int) (xs:List V) (ru a rl tl s t:Addr) (m:V) (pr:List (Nat×Nat)):Prop where
 ha:Ins H a CA (fA rl ru m (pr.length:Nat) tl)
 hrl:H rl=some (.lst xs)
 htl:∃ ts,H tl=some (.lst ts) /\ Told H ks pr ts
 hs:H s=some (.lst [m,.ref t])
 ht:∃ ts,H t=some (.lst ts) /\ Told H ks pr ts
 hm:Mst m
 ne:s≠t /\ s≠tl /\ t≠tl /\ rl∉[tl,s,t]
structure Base (CR:Addr) (H:Hp) (ks:List Int) (xs:List V) (ru g lg rw:Addr) (n:Nat):Prop where
 hru:Ins H ru CR (fR g)
 clo:Clo H g "_law_ask" "_law_teller.<locals>._law_ask" (ZAN ZAI) (ZAK ZAI) (ZAB ZAI) ["_law_written"] [.ref lg]
 hrw:H rw=some (.lst xs)
 th:ZCR H ks xs
 hlg:∃ ws,H lg=some (.lst ws) /\ ws.length=n
def ZBj (CA CR:Addr):Sp:=fun vs H Q _=>∃ (ks:List Int) (xs:List V) (ru g lg rw a rl tl s t:Addr) (m:V) (pr:List (Nat×Nat)) (n:Nat) (c:Int),vs=[.ref a,.int c,.ref rw,.ref s,.ref lg] /\ Base CR H ks xs ru g lg rw n /\ Side CA H ks xs ru a rl tl s t m pr /\ lg∉[tl,s,t,rl] /\ rw∉[tl,s,t,lg] /\ ru≠a /\ 2 <= ks.length /\ ks.length <= 9 /\ pr.length <= 500 /\ n <= 500 /\
 ∀ H' m' pr' n',Fr [a,tl,s,t,lg] H H'->Base CR H' ks xs ru g lg rw n'->Side CA H' ks xs ru a rl tl s t m' pr'->pr'.length <= pr.length+1->n' <= n+1->Q (.bl true) H'
theorem Base.fr {CR:Addr} {H H':Hp} {ks:List Int} {xs:List V} {ru g lg rw:Addr} {n n':Nat} {S:List Addr} (b:Base CR H ks xs ru g lg rw n) (f:Fr S H H') (hS:∀ c∈S,(∃ l,H c=some (.lst l))∨∃ C d fs,H c=some (.ins C d fs)) (h1:ru∉S) (h2:rw∉S) (h3:∃ ws,H' lg=some (.lst ws) /\ ws.length=n'):Base CR H' ks xs ru g lg rw n':=by
 have k:∀ {c:Addr} {o:HO},H c=some o->(∀ l,o≠.lst l)->(∀ C d f,o≠.ins C d f)->H' c=some o:=fun {c o} hc z1 z2=>f _ _ (fun m=>by
  rcases hS c m with ⟨l,hl⟩ | ⟨C,d,fs,hl⟩
  .rw [hl] at hc;exact z1 _ (Option.some.inj hc).symm
  .rw [hl] at hc;exact z2 _ _ _ (Option.some.inj hc).symm) hc
 refine ⟨let ⟨d1,f1,e1,e2,e3⟩:=b.hru.ex;⟨d1,f1,f _ _ h1 e1,e2,e3⟩,b.clo.mono fun c o hc=>k hc (fun _ z=>by cases z) (fun _ _ _ z=>by cases z),f _ _ h2 b.hrw,⟨b.th.1,fun i kk hk=>?_⟩,h3⟩
 obtain ⟨r,a1,a2⟩:=b.th.2 i kk hk
 exact ⟨r,a1,k a2 (fun _ z=>by cases z) (fun _ _ _ z=>by cases z)⟩
theorem Side.fr {CA:Addr} {H H':Hp} {ks:List Int} {xs:List V} {ru a rl tl s t:Addr} {m:V} {pr:List (Nat×Nat)} {S:List Addr} (d:Side CA H ks xs ru a rl tl s t m pr) (f:Fr S H H') (hS:∀ c∈S,(∃ l,H c=some (.lst l))∨∃ C d fs,H c=some (.ins C d fs)) (h1:a∉S /\ rl∉S /\ tl∉S /\ s∉S /\ t∉S):Side CA H' ks xs ru a rl tl s t m pr:=by
 have kt:∀ c x,H c=some (.tup x)->H' c=some (.tup x):=fun c x hc=>f _ _ (fun mm=>by
  rcases hS c mm with ⟨l,hl⟩ | ⟨C,d,fs,hl⟩ <;> · rw [hl] at hc;cases hc) hc
 obtain ⟨ts,e1,e2⟩:=d.htl
 obtain ⟨us,e3,e4⟩:=d.ht
 exact ⟨let ⟨d1,f1,e1,e2,e3⟩:=d.ha.ex;⟨d1,f1,f _ _ h1.1 e1,e2,e3⟩,f _ _ h1.2.1 d.hrl,⟨ts,f _ _ h1.2.2.1 e1,e2.keep kt⟩,f _ _ h1.2.2.2.1 d.hs,⟨us,f _ _ h1.2.2.2.2 e3,e4.keep kt⟩,d.hm,d.ne⟩
theorem Base.mono {CR:Addr} {H H':Hp} {ks:List Int} {xs:List V} {ru g lg rw:Addr} {n:Nat} (b:Base CR H ks xs ru g lg rw n) (f:Same H H'):Base CR H' ks xs ru g lg rw n:=b.fr (S:=[]) f.fr (fun _ h=>by cases h) yAE yAE (let ⟨ws,e1,e2⟩:=b.hlg;⟨ws,f _ _ e1,e2⟩)
theorem Side.mono {CA:Addr} {H H':Hp} {ks:List Int} {xs:List V} {ru a rl tl s t:Addr} {m:V} {pr:List (Nat×Nat)} (d:Side CA H ks xs ru a rl tl s t m pr) (f:Same H H'):Side CA H' ks xs ru a rl tl s t m pr:=d.fr (S:=[]) f.fr (fun _ h=>by cases h) ⟨yAE,yAE,yAE,yAE,yAE⟩
theorem small_log {n:Nat} (h:n <= 1000):((n:Int)).natAbs.log2 < 1920:=by
 rw [Int.natAbs_natCast]
 exact Nat.lt_of_le_of_lt (Nat.log2_le_self n) (by omega)
theorem ZCI {α:Type} (X:List α) (x:α) (Y:List α):(X++x::Y)[X.length]?=some x:=by rw [yBB (yAB _),Nat.sub_self];rfl
theorem onceP {M G:Prop} (P:Prop) (h:(P->M)->G) (t:P->M):G:=h t
theorem once1 {γ:Type} {M:γ->Prop} (P:γ->Prop) {G:Prop} (h:(∀ z,P z->M z)->G) (t:∀ z,P z->M z):G:=h t
theorem once4 {α β γ δ:Type} {M:α->β->γ->δ->Prop} (P:α->β->γ->δ->Prop) {G:Prop} (h:(∀ x y z u,P x y z u->M x y z u)->G) (t:∀ x y z u,P x y z u->M x y z u):G:=h t
theorem nd {L:List Addr} (h:L.Nodup) {i j:Nat} {a b:Addr} (hi:L[i]?=some a) (hj:L[j]?=some b) (hij:i≠j):a≠b:=fun z=>hij (by
 obtain ⟨h1,e1⟩:=yAR.mp hi
 obtain ⟨h2,e2⟩:=yAR.mp hj
 exact (List.getElem_inj h).mp (e1.trans (z.trans e2.symm)))
def Ol (H:Hp) (L:List Addr):Prop:=L.Nodup /\ ∀ b∈L,∃ o,H b=some o
theorem Ol.new {H H':Hp} {L:List Addr} {x:Addr} (h:Ol H L) (hx:H x=none) (k:∀ b∈L,∃ o,H' b=some o) (hx':∃ o,H' x=some o):Ol H' (x::L) :=
 ⟨yAQ.mpr ⟨(fun z=>by obtain ⟨o,ho⟩:=h.2 x z;rw [hx] at ho;cases ho),h.1⟩,fun b hb=>by
  rcases yAA.mp hb with z | z
  .rw [z];exact hx'
  .exact k b z⟩
theorem sqL_fr {K:W.Frag} {H H':Hp} {S:List Addr} {a:Addr} {xs:List V} (e:Fr S H H') (n:∀ o,(∀ t,o≠.tbl t)->H a=some o->a∉S) (h:SqL K H a xs):SqL K H' a xs:=by
 rcases h with (h | ⟨o,h⟩) | h
 .exact .inl (.inl (e _ _ (n _ (fun _ z=>by cases z) h) h))
 .exact .inl (.inr ⟨o,e _ _ (n _ (fun _ z=>by cases z) h) h⟩)
 .exact .inr h
def Hel (X:Hp) (ks:List Int) (L:List Addr) (hs:List V):Prop:=∀ (j:Nat) v,hs[j]?=some v->∃ u la lb us vs pr,v=.ref u /\ X u=some (.tup [.ref la,.ref lb]) /\ X la=some (.lst us) /\ X lb=some (.lst vs) /\ Told X ks pr us /\ Told X ks pr vs /\ pr.length <= 500 /\ la∉L /\ lb∉L
abbrev LL (ru lg rw a0 rl0 tl0 s0 t0 a1 rl1 tl1 s1 t1 sl al hd:Addr):List Addr:=[hd,al,tl1,rl1,a1,tl0,rl0,a0,sl,s1,t1,s0,t0,ru,lg,rw]
structure W16 (CA CR:Addr) (X:Hp) (ks:List Int) (xs:List V) (ru g lg rw a0 rl0 tl0 s0 t0 a1 rl1 tl1 s1 t1 sl al hd:Addr) (m0 m1:V) (pr0 pr1:List (Nat×Nat)) (n:Nat) (hs:List V) (L:List Addr):Prop where
 bs:Base CR X ks xs ru g lg rw n
 d0:Side CA X ks xs ru a0 rl0 tl0 s0 t0 m0 pr0
 d1:Side CA X ks xs ru a1 rl1 tl1 s1 t1 m1 pr1
 hsl:X sl=some (.lst [.ref s0,.ref s1])
 hal:X al=some (.lst [.ref a0,.ref a1])
 hhd:X hd=some (.lst hs)
 hel:Hel X ks L hs
 nd:(LL ru lg rw a0 rl0 tl0 s0 t0 a1 rl1 tl1 s1 t1 sl al hd).Nodup
section
variable {CA CR:Addr} {X Y:Hp} {ks:List Int} {xs:List V} {ru g lg rw a0 rl0 tl0 s0 t0 a1 rl1 tl1 s1 t1 sl al hd:Addr} {m0 m1 m':V} {pr0 pr1 pr':List (Nat×Nat)} {n n':Nat} {hs:List V}
theorem Hel.fr {L S:List Addr} (h:Hel X ks L hs) (f:Fr S X Y) (hS:∀ c∈S,(∃ l,X c=some (.lst l))∨∃ C d fs,X c=some (.ins C d fs)) (sub:∀ c∈S,c∈L):Hel Y ks L hs:=fun j v hj=>by
 obtain ⟨u,la,lb,us,vs,pr,e1,e2,e3,e4,e5,e6,e9,e7,e8⟩:=h j v hj
 have kt:∀ c x,X c=some (.tup x)->Y c=some (.tup x):=fun c x hc=>f _ _ (fun mm=>by
  rcases hS c mm with ⟨l,hl⟩ | ⟨C,d,fs,hl⟩ <;> · rw [hl] at hc;cases hc) hc
 exact ⟨u,la,lb,us,vs,pr,e1,kt _ _ e2,f _ _ (fun z=>e7 (sub _ z)) e3,f _ _ (fun z=>e8 (sub _ z)) e4,e5.keep kt,e6.keep kt,e9,e7,e8⟩
theorem W16.mono {L:List Addr} (w:W16 CA CR X ks xs ru g lg rw a0 rl0 tl0 s0 t0 a1 rl1 tl1 s1 t1 sl al hd m0 m1 pr0 pr1 n hs L) (f:Same X Y):W16 CA CR Y ks xs ru g lg rw a0 rl0 tl0 s0 t0 a1 rl1 tl1 s1 t1 sl al hd m0 m1 pr0 pr1 n hs L :=
 ⟨w.bs.mono f,w.d0.mono f,w.d1.mono f,f _ _ w.hsl,f _ _ w.hal,f _ _ w.hhd,w.hel.fr (S:=[]) f.fr (fun _ h=>by cases h) (fun _ h=>by cases h),w.nd⟩
theorem Side.kinds {CA:Addr} {H:Hp} {rl tl s t a lg:Addr} {m:V} {pr:List (Nat×Nat)} {ws:List V} (d:Side CA H ks xs ru a rl tl s t m pr) (h:H lg=some (.lst ws)):∀ c∈[a,tl,s,t,lg],(∃ l,H c=some (.lst l))∨∃ C d fs,H c=some (.ins C d fs):=fun c hc=>by
 obtain ⟨ts,e1,_⟩:=d.htl
 obtain ⟨us,e3,_⟩:=d.ht
 rcases yAA.mp hc with z | z
 .obtain ⟨d',f,e,_⟩:=d.ha.ex
  exact .inr ⟨_,_,_,by rw [z];exact e⟩
 rcases yAA.mp z with z | z
 .rw [z];exact .inl ⟨_,e1⟩
 rcases yAA.mp z with z | z
 .rw [z];exact .inl ⟨_,d.hs⟩
 rcases yAA.mp z with z | z
 .rw [z];exact .inl ⟨_,e3⟩
 .rw [yAF.mp z];exact .inl ⟨_,h⟩
theorem W16.deed0 (w:W16 CA CR X ks xs ru g lg rw a0 rl0 tl0 s0 t0 a1 rl1 tl1 s1 t1 sl al hd m0 m1 pr0 pr1 n hs (LL ru lg rw a0 rl0 tl0 s0 t0 a1 rl1 tl1 s1 t1 sl al hd)) (f:Fr [a0,tl0,s0,t0,lg] X Y) (b:Base CR Y ks xs ru g lg rw n') (d:Side CA Y ks xs ru a0 rl0 tl0 s0 t0 m' pr'):W16 CA CR Y ks xs ru g lg rw a0 rl0 tl0 s0 t0 a1 rl1 tl1 s1 t1 sl al hd m' m1 pr' pr1 n' hs (LL ru lg rw a0 rl0 tl0 s0 t0 a1 rl1 tl1 s1 t1 sl al hd):=by
 obtain ⟨ws,hw,_⟩:=w.bs.hlg
 have hS:=w.d0.kinds hw
 have h:=w.nd
 simp only [LL,yAQ,yAA,yAE,or_false,not_or,yBG,and_true,not_false_eq_true] at h
 refine ⟨b,d,w.d1.fr f hS ⟨?_,?_,?_,?_,?_⟩,f _ _ ?_ w.hsl,f _ _ ?_ w.hal,f _ _ ?_ w.hhd,w.hel.fr f hS fun c hc=>?_,w.nd⟩
 all_goals simp only [LL,yAA,yAE,or_false,not_or] at *
 all_goals grind
theorem W16.deed1 (w:W16 CA CR X ks xs ru g lg rw a0 rl0 tl0 s0 t0 a1 rl1 tl1 s1 t1 sl al hd m0 m1 pr0 pr1 n hs (LL ru lg rw a0 rl0 tl0 s0 t0 a1 rl1 tl1 s1 t1 sl al hd)) (f:Fr [a1,tl1,s1,t1,lg] X Y) (b:Base CR Y ks xs ru g lg rw n') (d:Side CA Y ks xs ru a1 rl1 tl1 s1 t1 m' pr'):W16 CA CR Y ks xs ru g lg rw a0 rl0 tl0 s0 t0 a1 rl1 tl1 s1 t1 sl al hd m0 m' pr0 pr' n' hs (LL ru lg rw a0 rl0 tl0 s0 t0 a1 rl1 tl1 s1 t1 sl al hd):=by
 obtain ⟨ws,hw,_⟩:=w.bs.hlg
 have hS:=w.d1.kinds hw
 have h:=w.nd
 simp only [LL,yAQ,yAA,yAE,or_false,not_or,yBG,and_true,not_false_eq_true] at h
 refine ⟨b,w.d0.fr f hS ⟨?_,?_,?_,?_,?_⟩,d,f _ _ ?_ w.hsl,f _ _ ?_ w.hal,f _ _ ?_ w.hhd,w.hel.fr f hS fun c hc=>?_,w.nd⟩
 all_goals simp only [LL,yAA,yAE,or_false,not_or] at *
 all_goals grind
theorem W16.hold {L:List Addr} {u la lb:Addr} {us vs:List V} {pr:List (Nat×Nat)} (w:W16 CA CR X ks xs ru g lg rw a0 rl0 tl0 s0 t0 a1 rl1 tl1 s1 t1 sl al hd m0 m1 pr0 pr1 n hs L) (hL:hd∈L) (h1:X u=some (.tup [.ref la,.ref lb])) (h2:X la=some (.lst us)) (h3:X lb=some (.lst vs)) (h4:Told X ks pr us) (h5:Told X ks pr vs) (h9:pr.length <= 500) (n1:la∉L) (n2:lb∉L) :
  W16 CA CR (upd X hd (.lst (hs++[.ref u]))) ks xs ru g lg rw a0 rl0 tl0 s0 t0 a1 rl1 tl1 s1 t1 sl al hd m0 m1 pr0 pr1 n (hs++[.ref u]) L:=by
 have f:Fr [hd] X (upd X hd (.lst (hs++[.ref u]))):=Fr.upd yAC
 have hS:∀ c∈[hd],(∃ l,X c=some (.lst l))∨∃ C d fs,X c=some (.ins C d fs):=fun c hc=>by rw [yAF.mp hc];exact .inl ⟨_,w.hhd⟩
 have kt:∀ c x,X c=some (.tup x)->upd X hd (.lst (hs++[.ref u])) c=some (.tup x):=fun c x hc=>f _ _ (fun mm=>by
  rcases hS c mm with ⟨l,hl⟩ | ⟨C,d,fs,hl⟩ <;> · rw [hl] at hc;cases hc) hc
 have h:=w.nd
 simp only [LL,yAQ,yAA,yAE,or_false,not_or,yBG,and_true,not_false_eq_true] at h
 obtain ⟨ws,hw,hwn⟩:=w.bs.hlg
 refine ⟨w.bs.fr f hS ?_ ?_ ⟨ws,f _ _ ?_ hw,hwn⟩,w.d0.fr f hS ⟨?_,?_,?_,?_,?_⟩,w.d1.fr f hS ⟨?_,?_,?_,?_,?_⟩,f _ _ ?_ w.hsl,f _ _ ?_ w.hal,ZAG,fun j v hj=>?_,w.nd⟩
 rotate_right
 .by_cases hl:j < hs.length
  .rw [yAV hl] at hj
   exact (w.hel.fr f hS fun c hc=>by rw [yAF.mp hc];exact hL) j v hj
  .have e:=(yAR.mp hj).1
   rw [yAJ] at e
   have hj':j=hs.length:=by have:([V.ref u]:List V).length=1:=rfl;omega
   subst hj'
   rw [ZCI] at hj
   cases hj
   exact ⟨u,la,lb,us,vs,pr,rfl,kt _ _ h1,f _ _ (fun z=>n1 (by rw [yAF.mp z];exact hL)) h2,f _ _ (fun z=>n2 (by rw [yAF.mp z];exact hL)) h3,h4.keep kt,h5.keep kt,h9,n1,n2⟩
 all_goals simp only [yAA,yAE,or_false]
 all_goals grind
end
section
variable {P:Program} {w:World} {K:W.Frag} {mg:Str->Option Value} {base:Heap} {C_Asker C_AskedRule C_HallError C_NoRule C_NoPaper C_NoPlace C_NoKey C_NoRow C_NoOrder C_TooFar C_Spent:Addr} {cc_teller Pt_teller:Addr}
theorem ok_teller {f:Addr} {fd:FuncData} (F:Fun K "_law_teller" "_law_teller" ZBE f fd) (hcd:fd.code=.ref cc_teller) (C:PySem.W.CodeHd base cc_teller Pt_teller) (B:ZCS mg base):FnOk P w K mg base CX0 1 f fd ["_law_written"] (ZCc Pt_teller (ZCy ZAI) "_law_ask" "_law_teller.<locals>._law_ask" (ZAN ZAI) (ZAK ZAI) (ZAB ZAI) ["_law_written"] [0] 1) :=
 teller_ok F sc_teller hcd C B rfl (fun _ _=>rfl) rfl rfl (fun _ _=>rfl) rfl (by decide) (by decide) (by decide +kernel) (by decide +kernel) (by decide +kernel) (hix_of rfl) rfl
theorem clo_teller (T:Bt K mg C_Asker C_AskedRule C_HallError C_NoRule C_NoPaper C_NoPlace C_NoKey C_NoRow C_NoOrder C_TooFar C_Spent):CloOk P w K mg base 1 (ZA4):=by
 refine clo_of (k:=0) (iname:="_law_ask") (iq:="_law_teller.<locals>._law_ask") (ip:=ZAN ZAI) (ib:=ZAK ZAI) (isc:=ZAB ZAI) csc_teller (fun f vs H Q h=>?_) (fun f vs H Q h=>?_) (fun cl doc pm ctv c' us hl=>match us,hl with | [_,_],_=>rfl) (fun g cs cl cd A outer s H vs Q hr C h=>?_)
 .obtain ⟨g,x,y,lg,k,k2,i,j,ws,rfl,rfl,hclo,hx,hy,hlg,hws,q⟩:=h
  exact ⟨_,_,rfl,hclo⟩
 .obtain ⟨g,x,y,lg,k,k2,i,j,ws,rfl,rfl,hclo,hx,hy,hlg,hws,q⟩:=h
  rfl
 obtain ⟨g,x,y,lg,k,k2,i,j,ws,eg,rfl,hclo,hx,hy,hlg,hws,q⟩:=h
 cases eg
 obtain ⟨cl2,C2⟩:=hclo
 obtain rfl:=C.inj' C2
 refine ⟨_,(ZAE (ZBF (ZCV PySem.F.plainAttrs_list PySem.F.slot_list_append PySem.F.type_list_append ZAw (pv 2) (ZAA (ZBg (ZAA (pv 0) (ZAA (pv 1) ZAD))) ZAD)))
  (ZAM (ZAh (ZA5 ZDA (ZAX ZCO (pv 0) ZAH (fun _ _=>rfl)) (ZAX ZCO (pv 1) ZAH (fun _ _=>rfl)) (ZAb _))))),?_⟩
 walk_at "rd"
 have cells:=C.cells
 have hx':hid cl H x=some (.tup [.int k,.int i]):=ZBH cells hx (by intro ob z;cases z)
 have hy':hid cl H y=some (.tup [.int k2,.int j]):=ZBH cells hy (by intro ob z;cases z)
 have hlg':hid cl H lg=some (.lst ws):=ZBH cells hlg (by intro ob z;cases z)
 refine ⟨.inl ⟨rfl,_,SqL.of hlg'⟩,ZAi (by decide),fun t ht=>?_⟩
 have ntl:t≠lg:=fun z=>by rw [z,hlg'] at ht;cases ht
 refine ⟨lg,ws,_,rfl,rfl,ZAz ht _ _ _ hlg',ZBy (by omega),?_⟩
 have hx2:upd (upd (hid cl H) t (.tup [.ref x,.ref y])) lg (.lst (ws++[.ref t])) x=some (.tup [.int k,.int i]):=by
  rw [ZAC (fun z=>by rw [z,hlg'] at hx';cases hx'),ZAC (ZAF hx' ht)];exact hx'
 have hy2:upd (upd (hid cl H) t (.tup [.ref x,.ref y])) lg (.lst (ws++[.ref t])) y=some (.tup [.int k2,.int j]):=by
  rw [ZAC (fun z=>by rw [z,hlg'] at hy';cases hy'),ZAC (ZAF hy' ht)];exact hy'
 refine ZB5 (SqT.of hx2) (ZAY (by decide) rfl) (ZB5 (SqT.of hy2) (ZAY (by decide) rfl) ⟨_,_,rfl,rfl,fun hn=>?_⟩)
 have nt:=hn.ne (b:=t) (by rw [ZAC ntl,ZAG])
 have nl:=hn.ne (b:=lg) ZAG
 rw [back_upd nl,back_upd nt,back_hid]
 exact q t (hid_none cells ht nt)
theorem ok_Spent_init {f:Addr} {fd:FuncData} (F:Fun K "__init__" "Spent.__init__" ZAp f fd) (T:Bt K mg C_Asker C_AskedRule C_HallError C_NoRule C_NoPaper C_NoPlace C_NoKey C_NoRow C_NoOrder C_TooFar C_Spent)
 :FnOk P w K mg base CX0 1 f fd ["self","asked"] (ZBS C_Spent):=by
 refine F.ok sc_Spent_init (fun vs H Q E h=>?_) (fun cdv A outer s H vs Q E hr h=>?_)
 .obtain ⟨e,n,rfl,he,hn,q⟩:=h
  rfl
 obtain ⟨e,n,rfl,he,hn,q⟩:=h
 refine ⟨_,(ZAE (ZBF (pe_clsV T.xb_HallError T.m_HallError rfl (ZAA (pv 0) (ZAA (pe_fs1 pe_str (pv 1)) ZAD))))
  (ZAM (ps_xfld (pv 0) (pv 1) rfl))),?_⟩
 walk_at "rd"
 exact ⟨hn,fun y=>⟨e,_,none,_,rfl,he,T.xi_Spent,e,_,none,rfl,he,T.xk_Spent,T.n_Spent_asked,.inl ⟨rfl,fun d hd hde=>q d hd hde⟩⟩⟩
theorem ok_Asker_init {f:Addr} {fd:FuncData} {dv:List Value} (F:FunD K "__init__" "Asker.__init__" ZAq f fd dv) (T:Bt K mg C_Asker C_AskedRule C_HallError C_NoRule C_NoPaper C_NoPlace C_NoKey C_NoRow C_NoOrder C_TooFar C_Spent)
 :FnOk P w K mg base CX0 1 f fd ["self","row","rule","most"] (ZAs C_Asker):=by
 refine F.ok sc_Asker_init (fun vs H Q E h=>?_) (fun cdv A outer s H vs Q E hr h=>?_)
 .obtain ⟨x,dx,r,ru,m,xs,rfl,hx,hr',q⟩:=h
  rfl
 obtain ⟨x,dx,r,ru,m,xs,rfl,hx,hr',q⟩:=h
 refine ⟨_,(ZAE (ZB0 (pv 0) (ZBq ZBM rfl T.b_list PyProof.Rows.boot_list (ZAA (pv 1) ZAD)) rfl)
  (ZAE (ZB0 (pv 0) (pv 2) rfl)
  (ZAE (ZB0 (pv 0) (pv 3) rfl)
  (ZAE (ZB0 (pv 0) ZAH rfl)
  (ZAM (ZB0 (pv 0) (ZA0 ZAD) rfl)))))),?_⟩
 walk_at "rd"
 refine ⟨r,xs,rfl,.inl (SqL.of hr'),fun rl hrl=>?_⟩
 have hxr:x≠rl:=ZAF hx hrl
 obtain ⟨H1,e1,s1,h1⟩:=newH hrl (.lst xs)
 rw [e1];clear e1
 refine setX (s1 _ _ hx) T.cl_Asker T.n_Asker_row (by decide) fun H2 x2 k2=>?_
 walk_at "rd"
 refine setX x2 T.cl_Asker T.n_Asker_rule putL1 fun H3 x3 k3=>?_
 walk_at "rd"
 refine setX x3 T.cl_Asker T.n_Asker_most putL2 fun H4 x4 k4=>?_
 walk_at "rd"
 refine setX x4 T.cl_Asker T.n_Asker_asked putL3 fun H5 x5 k5=>?_
 walk_at "rd"
 refine ⟨ZAi (by decide),fun tl htl=>?_⟩
 obtain ⟨H6,e6,s6,h6⟩:=newH htl (.lst [])
 rw [e6];clear e6
 have hxt:x≠tl:=ZAF x5 htl
 refine setX (s6 _ _ x5) T.cl_Asker T.n_Asker_told putL4 fun H7 x7 k7=>?_
 have up:∀ b o,b≠x->H b=some o->H5 b=some o:=fun b o n e=>by rw [k5 b n,k4 b n,k3 b n,k2 b n];exact s1 b o e
 have h5:H5 rl=some (.lst xs):=by rw [k5 rl (Ne.symm hxr),k4 rl (Ne.symm hxr),k3 rl (Ne.symm hxr),k2 rl (Ne.symm hxr)];exact h1
 refine q rl tl H7 (fun b o n e=>by rw [k7 b n];exact s6 _ _ (up b o n e)) hrl ?_ (ZAF h5 htl) ((Ins.of x7 (yAH putL5 (by decide))).congr fA_canon) (by rw [k7 rl (Ne.symm hxr)];exact s6 _ _ h5) (by rw [k7 tl (Ne.symm hxt)];exact h6)
 cases e:H tl with
 | none=>rfl
 | some o=>rw [up tl o (Ne.symm hxt) e] at htl;cases htl
theorem ok_Asker_answers {f:Addr} {fd:FuncData} (F:Fun K "answers" "Asker.answers" ZAZ f fd) (T:Bt K mg C_Asker C_AskedRule C_HallError C_NoRule C_NoPaper C_NoPlace C_NoKey C_NoRow C_NoOrder C_TooFar C_Spent)
 :FnOk P w K mg base CX0 1 f fd ["self"] (ZBZ C_Asker):=by
 refine F.ok sc_Asker_answers (fun vs H Q E h=>?_) (fun cdv A outer s H vs Q E hr h=>?_)
 .obtain ⟨a,rl,ru,tl,m,n,ts,rfl,ha,htl,q⟩:=h
  rfl
 obtain ⟨a,rl,ru,tl,m,n,ts,rfl,ha,htl,q⟩:=h
 refine ⟨_,(ZAM (ZAh (ZBq ZBM rfl T.b_list PyProof.Rows.boot_list (ZAA (ZAt (pv 0) rfl) ZAD)))),?_⟩
 walk_at "rd"
 refine ha.get T.cl_Asker T.n_Asker_told (by walk_at "lk") ⟨tl,ts,rfl,.inl (SqL.of htl),fun l hl=>?_⟩
 exact q l _ (ZAz hl _) hl ZAG
theorem ok_Asker_widen {f:Addr} {fd:FuncData} (F:Fun K "widen" "Asker.widen" ZAj f fd) (T:Bt K mg C_Asker C_AskedRule C_HallError C_NoRule C_NoPaper C_NoPlace C_NoKey C_NoRow C_NoOrder C_TooFar C_Spent)
 :FnOk P w K mg base CX0 1 f fd ["self","more"] (ZCT C_Asker):=by
 refine F.ok sc_Asker_widen (fun vs H Q E h=>?_) (fun cdv A outer s H vs Q E hr h=>?_)
 .obtain ⟨a,rl,ru,tl,m,n,i,rfl,ha,hm,q⟩:=h
  rfl
 obtain ⟨a,rl,ru,tl,m,n,i,rfl,ha,hm,q⟩:=h
 refine ⟨_,(ZAM (ZBU (ZAg ZBr (ZAt (pv 0) rfl) ZBa (ZAb _))
  (ZAM (ps_fldaug (pv 0) (pv 1) in_add)) ZAo)),?_⟩
 walk_at "rd"
 refine ha.get T.cl_Asker T.n_Asker_most (by walk_at "lk") ?_
 rcases hm with rfl | ⟨k,rfl⟩
 .rw [if_neg (by simp)]
  exact q H (fun _ _=>rfl) ha
 .rw [if_pos (by simp)]
  refine insAugV ha (j:=i) T.cl_Asker T.n_Asker_most (by walk_at "lk") (fun Q h=>by walk_at "rd";exact h) fun H2 ha2 k2=>?_
  walk_at "rd"
  exact q H2 k2 (ha2.congr fA_most)
theorem ok_AskedRule_init {f:Addr} {fd:FuncData} (F:Fun K "__init__" "AskedRule.__init__" ZAW f fd) (T:Bt K mg C_Asker C_AskedRule C_HallError C_NoRule C_NoPaper C_NoPlace C_NoKey C_NoRow C_NoOrder C_TooFar C_Spent)
 :FnOk P w K mg base CX0 1 f fd ["self","teller"] (ZBe C_AskedRule):=by
 refine F.ok sc_AskedRule_init (fun vs H Q E h=>?_) (fun cdv A outer s H vs Q E hr h=>?_)
 .obtain ⟨x,dx,g,rfl,hx,q⟩:=h
  rfl
 obtain ⟨x,dx,g,rfl,hx,q⟩:=h
 refine ⟨_,(ZAM (ZB0 (pv 0) (pv 1) rfl)),?_⟩
 walk_at "rd"
 refine setX hx T.cl_AskedRule T.n_AskedRule_teller (by decide) fun H2 x2 k2=>?_
 exact q H2 (fun b o n e=>by rw [k2 b n];exact e) ((Ins.of x2 (yAH putL1 (by decide))).congr fun f=>by simp only [ZAU,lkc])
theorem ok_AskedRule_before {f:Addr} {fd:FuncData} (F:Fun K "before" "AskedRule.before" ZAQ f fd) (T:Bt K mg C_Asker C_AskedRule C_HallError C_NoRule C_NoPaper C_NoPlace C_NoKey C_NoRow C_NoOrder C_TooFar C_Spent)
  (clo_teller:CloOk P w K mg base 1 (ZA4))
 :FnOk P w K mg base CX0 2 f fd ["self","x","y"] (ZBk C_AskedRule ZA4):=by
 refine F.ok sc_AskedRule_before (fun vs H Q E h=>?_) (fun cdv A outer s H vs Q E hr h=>?_)
 .obtain ⟨ru,g,x,y,rfl,hru,⟨o,ho,hfd⟩,q⟩:=h
  rfl
 obtain ⟨ru,g,x,y,rfl,hru,⟨o,ho,hfd⟩,q⟩:=h
 refine ⟨_,(ZAE (ZAn (i:=3) sc_AskedRule_before.nd rfl (by walk_at "o") (ZAt (pv 0) rfl))
  (ZAM (ZAh (pe_callV (clo_teller.at (hr.mono (by decide))) (pv 3) (ZAA (pv 1) (ZAA (pv 2) ZAD)))))),?_⟩
 walk_at "rd"
 refine hru.get T.cl_AskedRule T.n_AskedRule_teller (by walk_at "lk") ⟨⟨g,o,rfl,ho,hfd⟩,?_⟩
 exact q
theorem ok_Asker_ahead {f:Addr} {fd:FuncData} (F:Fun K "ahead" "Asker.ahead" ZAk f fd) (T:Bt K mg C_Asker C_AskedRule C_HallError C_NoRule C_NoPaper C_NoPlace C_NoKey C_NoRow C_NoOrder C_TooFar C_Spent)
  (t_AskedRule_before:Mt P w K mg base CX0 C_AskedRule "before" 2 ["self","x","y"] (ZBk C_AskedRule ZA4))
  (kx_Spent:XKl P w K mg base CX0 "Spent" C_Spent 1 ["self","asked"] (ZBS C_Spent))
 :FnOk P w K mg base (CXE P w) 3 f fd ["self","p","q"] (ZCB C_Asker C_AskedRule C_Spent ZA4):=by
 refine F.okX sc_Asker_ahead (fun vs H Q E h=>?_) (fun cdv A outer s H vs Q E hr h=>?_)
 .obtain ⟨a,rl,ru,tl,m,n,p,q,rfl,ha,hn,hc⟩:=h
  rfl
 obtain ⟨a,rl,ru,tl,m,n,p,q,rfl,ha,hn,hc⟩:=h
 refine ⟨_,(ZAE (ZBU (PW.pt (pw_and (ZAg ZBr (ZAt (pv 0) rfl) ZBa (ZAb _)) (pw_and1 (ZAg op_ge (ZAt (pv 0) rfl) (ZAt (pv 0) rfl) (ZAb _)))))
  (ZAM (ps_raiseK kx_Spent (hr.mono (by decide)) rfl ZA6 (ZAA (ZAt (pv 0) rfl) ZAD))) ZAo)
  (ZAP
  (ZAE (PS.nox (ZAn (i:=3) sc_Asker_ahead.nd rfl (by walk_at "o") (ZAL (call_max2 rfl) rfl T.b_max PyProof.Rows.boot_max (ZAA (pv 1) (ZAA (pv 2) ZAD)))))
  (ZAE (PS.nox (ZAn (i:=4) sc_Asker_ahead.nd rfl (by walk_at "o") (ZAL (call_min2 rfl) rfl T.b_min PyProof.Rows.boot_min (ZAA (pv 1) (ZAA (pv 2) ZAD)))))
  (ZAE (PS.nox (ZAn (i:=5) sc_Asker_ahead.nd rfl (by walk_at "o") (ZC8 t_AskedRule_before (hr.mono (by decide)) ZA6 (ZAt (pv 0) rfl) (ZAA (ZAX ZAJ (ZAt (pv 0) rfl) (pv 3) (fun _ _=>rfl)) (ZAA (ZAX ZAJ (ZAt (pv 0) rfl) (pv 4) (fun _ _=>rfl)) ZAD)))))
  (ZAP
  (ZAE (PS.nox (ps_fldaug (pv 0) ZAH in_add))
  (ZAE (PS.nox (ZBF (ZCV PySem.F.plainAttrs_list PySem.F.slot_list_append PySem.F.type_list_append ZAw (ZAt (pv 0) rfl) (ZAA (ZBg (ZAA (pv 3) (ZAA (pv 4) (ZAA (pv 5) ZAD)))) ZAD))))
  (ZAM (PS.nox (ZAh (pe_ifExp (ZAg ZCN (pv 1) (pv 3) (ZAb _)) (pv 5) (ZCu (pv 5)))))))))))))),?_⟩
 walk_at "rd"
 rcases hc with ⟨k,hk0,hk,hE⟩ | ⟨hm,hc⟩
 .refine ha.get T.cl_Asker T.n_Asker_most (by walk_at "lk") ?_
  rw [if_pos (by rw [hk0];simp)]
  refine ha.get T.cl_Asker T.n_Asker_asked (by walk_at "lk") (ha.get T.cl_Asker T.n_Asker_most (by walk_at "lk") ⟨_,_,rfl,hk0,_,rfl,?_⟩)
  rw [if_pos (by simpa using hk)]
  refine ha.get T.cl_Asker T.n_Asker_asked (by walk_at "lk") ⟨by decide,fun e he=>⟨e,n,rfl,ZAG,hn,fun d hd hde=>⟨rfl,some d,ZAG,?_⟩⟩⟩
  have hdH:H d=none:=by rw [ZAC hde] at hd;exact hd
  refine hE d _ (fun b o hb=>?_) hdH ?_
  .rw [ZAr (ZAF hb he),ZAC (ZAF hb he),ZAC (ZAF hb hdH),ZAC (ZAF hb he)];exact hb
  .rw [ZAr hde,ZAC hde,ZAG]
 apply once0
 .intro tailp
  refine ha.get T.cl_Asker T.n_Asker_most (by walk_at "lk") ?_
  rcases hm with hm | ⟨k,hm,hk⟩
  .rw [if_neg (by rw [hm];simp)]
   exact tailp
  .rw [if_pos (by rw [hm];simp)]
   refine ha.get T.cl_Asker T.n_Asker_asked (by walk_at "lk") (ha.get T.cl_Asker T.n_Asker_most (by walk_at "lk") ⟨_,_,rfl,hm,_,rfl,?_⟩)
   rw [if_neg (by simp;omega)]
   exact tailp
 obtain ⟨xs,ts,x,y,hrl,hpq,hp0,hq0,hx,hy,hb⟩:=hc
 obtain ⟨ru',g,x',y',e,hru,ho,hrT⟩:=hb
 cases e
 refine ZAc ?_
 walk_at "rd"
 refine ⟨p,q,rfl,p,q,rfl,ha.get T.cl_Asker T.n_Asker_rule (by walk_at "lk") (hru.meth (by walk_at "lk") ?_)⟩
 rw [mx_eq,mn_eq]
 refine ha.get T.cl_Asker T.n_Asker_row (by walk_at "lk") (ZAO (SqL.of hrl) (ZAY (by omega) hx) ?_)
 refine ha.get T.cl_Asker T.n_Asker_row (by walk_at "lk") (ZAO (SqL.of hrl) (ZAY (by omega) hy) ?_)
 refine ⟨ru,g,x,y,rfl,hru,ho,rT_mono (fun v H1 h=>?_) hrT⟩
 obtain ⟨b,rfl,ha1,htl1,hts,hq⟩:=h
 have nta:tl≠a:=ha1.ne htl1 fun _ _ _ z=>by cases z
 refine ZAc ?_
 walk_at "rd"
 refine ha1.aug T.cl_Asker T.n_Asker_asked (by walk_at "lk") fun H2 ha2 k2=>?_
 have ha2':=ha2.congr fA_asked
 have htl2:H2 tl=some (.lst ts):=by rw [k2 tl nta];exact htl1
 walk_at "rd"
 refine ha2'.get T.cl_Asker T.n_Asker_told (by walk_at "lk") ?_
 walk_at "rd"
 refine ⟨.inl ⟨rfl,_,SqL.of htl2⟩,ZAi (by decide),fun t ht=>?_⟩
 have ntt:t≠tl:=fun z=>by rw [z,htl2] at ht;cases ht
 have nat':t≠a:=ha2'.neN ht
 refine ⟨tl,ts,_,rfl,rfl,ZAz ht _ _ _ htl2,ZBy (by omega),?_⟩
 have fin:=hq t (upd (upd H2 t (.tup [.int (max p q),.int (min p q),.bl b])) tl (.lst (ts++[.ref t]))) (by rw [<- k2 t nat'];exact ht) (ha2'.keep (by rw [ZAC (Ne.symm nta),ZAC (Ne.symm nat')])) ZAG (by rw [ZAC ntt,ZAG]) (fun c h1 h2 h3=>by rw [ZAC h2,ZAC h3,k2 c h1])
 by_cases hlt:q < p
 .rw [if_pos hlt] at fin
  show (if _ then _ else _)
  rw [if_pos (by omega)]
  exact fin
 .rw [if_neg hlt] at fin
  show (if _ then _ else _)
  rw [if_neg (by omega)]
  exact fin
theorem ok_cell_at {f:Addr} {fd:FuncData} (F:Fun K "_law_cell_at" "_law_cell_at" ZBB f fd) (T:Bt K mg C_Asker C_AskedRule C_HallError C_NoRule C_NoPaper C_NoPlace C_NoKey C_NoRow C_NoOrder C_TooFar C_Spent)
 :FnOk P w K mg base CX0 1 f fd ["_law_script","_law_k"] (ZCr K):=by
 refine F.ok sc_cell_at (fun vs H Q E h=>?_) (fun cdv A outer s H vs Q E hr h=>?_)
 .obtain ⟨a,ns,k,rfl,hS,h0,q⟩:=h
  rfl
 obtain ⟨a,ns,k,rfl,hS,h0,q⟩:=h
 refine ⟨_,(ZAE (ZBU (ZAg ZDA (pv 1) (ZAL ZAT rfl T.b_len PySem.boot_len (ZAA (pv 0) ZAD)) (ZAb _))
  (ZAM (ZAh (ZAX ZAJ (pv 0) (pv 1) (fun _ _=>rfl)))) ZAo)
  (ZAM (ZAh ZAH))),?_⟩
 walk_at "rd"
 refine ⟨a,_,rfl,.inl hS,?_⟩
 walk_at "rd"
 rw [yAP]
 unfold cellOf at q
 split
 .rename_i hk
  rw [if_pos hk] at q
  have hk':k.toNat < ns.length:=by omega
  refine ZAO hS (atI_ints h0 (yAT hk')) ?_
  rw [yAT hk'] at q
  exact q
 .rename_i hk
  rw [if_neg hk] at q
  exact q
theorem ok_whole {f:Addr} {fd:FuncData} (F:Fun K "_law_whole" "_law_whole" ZBT f fd) (T:Bt K mg C_Asker C_AskedRule C_HallError C_NoRule C_NoPaper C_NoPlace C_NoKey C_NoRow C_NoOrder C_TooFar C_Spent)
 :FnOk P w K mg base CX0 1 f fd ["_law_found"] (ZA8):=by
 refine F.ok sc_whole (fun vs H Q E h=>?_) (fun cdv A outer s H vs Q E hr h=>?_)
 .obtain ⟨i,rfl,q⟩:=h
  rfl
 obtain ⟨i,rfl,q⟩:=h
 refine ⟨_,(ZAM (ZAh (ZB3 (ZAL ZAy rfl T.b_isinstance PyProof.Rows.boot_isinstance (ZAA (pv 0) (ZAA (ZB2 rfl T.b_int PyProof.Rows.boot_int) ZAD))) (ZB1 (ZCu (ZAL ZAy rfl T.b_isinstance PyProof.Rows.boot_isinstance (ZAA (pv 0) (ZAA (ZB2 rfl T.b_bool PyProof.Rows.boot_bool) ZAD)))))))),?_⟩
 walk_at "rd"
 refine inst_int ?_
 walk_at "rd"
 refine inst_int_bl T.kit_int_bool ?_
 walk_at "rd"
 exact q
theorem okh_whole {f:Addr} {fd:FuncData} (F:Fun K "_law_whole" "_law_whole" ZBT f fd) (T:Bt K mg C_Asker C_AskedRule C_HallError C_NoRule C_NoPaper C_NoPlace C_NoKey C_NoRow C_NoOrder C_TooFar C_Spent)
 :FnOkH P w K mg base 1 f fd ["_law_found"] (ZA8):=by
 refine F.okH sc_whole (fun vs H Q E h=>?_) (fun cdv A outer s H vs Q E h=>?_)
 .obtain ⟨i,rfl,q⟩:=h
  rfl
 obtain ⟨i,rfl,q⟩:=h
 refine ⟨_,(ZAM (ZAh (ZB3 (ZAL ZAy rfl T.b_isinstance PyProof.Rows.boot_isinstance (ZAA (pv 0) (ZAA (ZB2 rfl T.b_int PyProof.Rows.boot_int) ZAD))) (ZB1 (ZCu (ZAL ZAy rfl T.b_isinstance PyProof.Rows.boot_isinstance (ZAA (pv 0) (ZAA (ZB2 rfl T.b_bool PyProof.Rows.boot_bool) ZAD)))))))),?_⟩
 walk_at "rd"
 refine inst_int ?_
 walk_at "rd"
 refine inst_int_bl T.kit_int_bool ?_
 walk_at "rd"
 exact q
theorem ok_refused {f:Addr} {fd:FuncData} (F:Fun K "_law_refused" "_law_refused" ZBA f fd) (T:Bt K mg C_Asker C_AskedRule C_HallError C_NoRule C_NoPaper C_NoPlace C_NoKey C_NoRow C_NoOrder C_TooFar C_Spent)
  (t_Asker_ahead:Mt P w K mg base (CXE P w) C_Asker "ahead" 3 ["self","p","q"] (ZCB C_Asker C_AskedRule C_Spent ZA4))
  (h_whole:FnH P w K mg base "_law_whole" 1 ["_law_found"] (ZA8))
 :FnOk P w K mg base CX0 4 f fd ["_law_asker","_law_p","_law_q","_law_asked"] (ZBD C_Asker):=by
 refine F.ok sc_refused (fun vs H Q E h=>?_) (fun cdv A outer s H vs Q E hr h=>?_)
 .obtain ⟨a,rl,ru,tl,k,n,p,q0,rfl,ha,hn,hk,q⟩:=h
  rfl
 obtain ⟨a,rl,ru,tl,k,n,p,q0,rfl,ha,hn,hk,q⟩:=h
 refine ⟨_,(ZAE (ps_try (i:=4) ⟨rfl,rfl⟩ rfl rfl T.m_HallError sc_refused.nd rfl rfl (fun pn xe E hp=>
  (ZAM (ZBF (pe_mtS t_Asker_ahead (hr.mono (by decide)) hp (pv 0) (ZAA (pv 1) (ZAA (pv 2) ZAD)))))) (fun e=>
  (ZAE (ZAn (i:=5) sc_refused.nd rfl (by walk_at "o") (ZA0 (ZAA (ZAL (ZAf K) rfl T.b_isinstance PyProof.Rows.boot_isinstance (ZAA (pv 4) (ZAA (ZBK rfl T.m_NoPaper) ZAD))) (ZAA (ZAL (ZAf K) rfl T.b_isinstance PyProof.Rows.boot_isinstance (ZAA (pv 4) (ZAA (ZBK rfl T.m_NoRule) ZAD))) (ZAA (ZAL (ZAf K) rfl T.b_isinstance PyProof.Rows.boot_isinstance (ZAA (pv 4) (ZAA (ZBK rfl T.m_NoKey) ZAD))) (ZAA (ZAL (ZAf K) rfl T.b_isinstance PyProof.Rows.boot_isinstance (ZAA (pv 4) (ZAA (ZBK rfl T.m_NoPlace) ZAD))) ZAD))))))
  (ZAE (ZAn (i:=5) sc_refused.nd rfl (by walk_at "o") (ZAm op_cat (pv 5) (ZA0 (ZAA (ZAL (ZAf K) rfl T.b_isinstance PyProof.Rows.boot_isinstance (ZAA (pv 4) (ZAA (ZBK rfl T.m_NoRow) ZAD))) (ZAA (ZAL (ZAf K) rfl T.b_isinstance PyProof.Rows.boot_isinstance (ZAA (pv 4) (ZAA (ZBK rfl T.m_NoOrder) ZAD))) (ZAA (ZAL (ZAf K) rfl T.b_isinstance PyProof.Rows.boot_isinstance (ZAA (pv 4) (ZAA (ZBK rfl T.m_TooFar) ZAD))) ZAD))))))
  (ZAE (ZBU (PW.pt (ZCt (ZAg (op_in_seqK K) ZCD (pv 5) rfl) (ZCt (ZBo (ZBn (ZAL (ZAf K) rfl T.b_isinstance PyProof.Rows.boot_isinstance (ZAA (pv 4) (ZAA (ZBK rfl T.m_Spent) ZAD))))) (ZCd (ZBo (ZBn (ZAL (ZAf K) rfl T.b_isinstance PyProof.Rows.boot_isinstance (ZAA (pv 4) (ZAA (ZB2 rfl T.b_ValueError L2.boot_ValueError) ZAD)))))))))
  (ZAM (ZAh ZCD)) ZAo)
  (ZAM (ZAh (ZB3 (pe_fnH h_whole ((hr.mono (by decide)).h) rfl (ZAA (pe_xfldMK K (pv 4) rfl) ZAD)) (ZB1 (ZA5 ZCN (pe_xfldMK K (pv 4) rfl) (pv 3) (ZAb _)))))))))))
  (ZAM (ZAh ZCD))),?_⟩
 walk_at "rd"
 refine ha.meth (by walk_at "lk") ⟨a,rl,ru,tl,.int k,n,p,q0,rfl,ha,hn,.inl ⟨k,rfl,hk,fun d H1 s1 hd h1=>⟨T.xm_Spent_HallError,fun ea hea=>?_⟩⟩⟩
 have ndea:d≠ea:=fun z=>by rw [<- z,h1] at hea;cases hea
 obtain ⟨H2,e2,s2,h2⟩:=newH hea (excO ea (.ref C_Spent) (some d))
 rw [e2];clear e2
 have h1':=s2 _ _ h1
 walk_at "rd"
 refine isX h2 T.xc_Spent T.xk_Spent.hd T.kit_Spent_NoPaper rfl (isX h2 T.xc_Spent T.xk_Spent.hd T.kit_Spent_NoRule rfl (isX h2 T.xc_Spent T.xk_Spent.hd T.kit_Spent_NoKey rfl (isX h2 T.xc_Spent T.xk_Spent.hd T.kit_Spent_NoPlace rfl ⟨ZAi (by decide),fun l1 hl1=>?_⟩)))
 obtain ⟨H3,e3,s3,h3⟩:=newH hl1 (.lst [.bl false,.bl false,.bl false,.bl false])
 rw [e3];clear e3
 have h2:=s3 _ _ h2
 refine isX h2 T.xc_Spent T.xk_Spent.hd T.kit_Spent_NoRow rfl (isX h2 T.xc_Spent T.xk_Spent.hd T.kit_Spent_NoOrder rfl (isX h2 T.xc_Spent T.xk_Spent.hd T.kit_Spent_TooFar rfl ⟨ZAi (by decide),fun l2 hl2=>?_⟩))
 obtain ⟨H4,e4,s4,h4⟩:=newH hl2 (.lst [.bl false,.bl false,.bl false])
 rw [e4];clear e4
 refine ⟨l1,l2,_,_,rfl,rfl,s4 _ _ h3,h4,ZAi (by decide),fun l3 hl3=>?_⟩
 obtain ⟨H5,e5,s5,h5⟩:=newH hl3 (.lst ([.bl false,.bl false,.bl false,.bl false]++[.bl false,.bl false,.bl false]))
 rw [e5];clear e5
 have h2:=s5 _ _ (s4 _ _ h2)
 have h1':=s5 _ _ (s4 _ _ (s3 _ _ h1'))
 refine ⟨l3,_,rfl,.inl (SqL.of h5),rfl,rfl,false,rfl,?_⟩
 rw [if_neg (by decide)]
 refine isX h2 T.xc_Spent T.xk_Spent.hd T.kit_Spent_Spent rfl ?_
 rw [if_neg (by decide)]
 refine isX h2 T.xc_Spent T.xk_Spent.hd T.kit_Spent_ValueError rfl ?_
 rw [if_neg (by decide)]
 have S5:Same H H5:=s1.trans (s2.trans (s3.trans (s4.trans s5)))
 refine ⟨ea,_,d,_,_,rfl,.inl h2,h1',T.xc_Spent,T.xk_Spent.hd,T.n_Spent_asked,by walk_at "lk",n,rfl,true,rfl,?_⟩
 rw [if_pos rfl]
 refine ⟨ea,_,d,_,_,rfl,.inl h2,h1',T.xc_Spent,T.xk_Spent.hd,T.n_Spent_asked,by walk_at "lk",?_⟩
 walk_at "rd"
 rw [decide_eq_true trivial]
 exact q H5 S5
theorem ok_stands {f:Addr} {fd:FuncData} (F:Fun K "_law_stands" "_law_stands" ZBN f fd) (T:Bt K mg C_Asker C_AskedRule C_HallError C_NoRule C_NoPaper C_NoPlace C_NoKey C_NoRow C_NoOrder C_TooFar C_Spent)
  (f_whole:Fn P w K mg base CX0 "_law_whole" 1 ["_law_found"] (ZA8))
 :FnOk P w K mg base CX0 2 f fd ["_law_asker","_law_state"] (ZBd C_Asker):=by
 refine F.ok sc_stands (fun vs H Q E h=>?_) (fun cdv A outer s H vs Q E hr h=>?_)
 .obtain ⟨a,rl,ru,tl,s,t,m,ts,rfl,ha,hs,ht,hm,hz,q⟩:=h
  rfl
 obtain ⟨a,rl,ru,tl,s,t,m,ts,rfl,ha,hs,ht,hm,hz,q⟩:=h
 refine ⟨_,(ZAE (ZBU (PW.pt (ZCt (ZBo (ZBn (ZBp f_whole (hr.mono (by decide)) rfl ZA6 (ZAA (ZAt (pv 0) rfl) ZAD)))) (ZCd (ZAg op_ne (ZAt (pv 0) rfl) (ZAL ZAT rfl T.b_len PySem.boot_len (ZAA (ZAX ZAJ (pv 1) ZAH (fun _ _=>rfl)) ZAD)) (ZAb _)))))
  (ZAM (ZAh ZCD)) ZAo)
  (ZAE (ZBU (ZAg op_isN (ZAX ZAJ (pv 1) ZAH (fun _ _=>rfl)) ZBa (ZAb _))
  (ZAM (ZAh (ZA5 op_isN (ZAt (pv 0) rfl) ZBa (ZAb _)))) ZAo)
  (ZAM (ZAh (ZB3 (ZBp f_whole (hr.mono (by decide)) rfl ZA6 (ZAA (ZAt (pv 0) rfl) ZAD)) (ZB1 (ZA5 ZCN (ZAt (pv 0) rfl) (ZAX ZAJ (pv 1) ZAH (fun _ _=>rfl)) (ZAb _)))))))),?_⟩
 walk_at "rd"
 refine ha.get T.cl_Asker T.n_Asker_asked (by walk_at "lk") ⟨_,rfl,true,rfl,?_⟩
 rw [if_neg (by decide)]
 refine ha.get T.cl_Asker T.n_Asker_asked (by walk_at "lk") (ZAO (SqL.of hs) (ZAY (by decide) rfl) ⟨t,ts,rfl,.inl (SqL.of ht),?_⟩)
 walk_at "rd"
 rw [if_neg (by simp)]
 refine ZAO (SqL.of hs) ZAa ?_
 rcases hm with rfl | ⟨k,rfl⟩
 .rw [if_pos rfl]
  refine ha.get T.cl_Asker T.n_Asker_most (by walk_at "lk") ?_
  rw [decide_eq_true rfl]
  exact q
 .rw [if_neg (by simp)]
  refine ha.get T.cl_Asker T.n_Asker_most (by walk_at "lk") ⟨k,rfl,true,rfl,?_⟩
  rw [if_pos rfl]
  refine ha.get T.cl_Asker T.n_Asker_most (by walk_at "lk") (ZAO (SqL.of hs) ZAa ?_)
  walk_at "rd"
  rw [decide_eq_true trivial]
  exact q
theorem ok_widened {f:Addr} {fd:FuncData} (F:Fun K "_law_widened" "_law_widened" ZA9 f fd) (T:Bt K mg C_Asker C_AskedRule C_HallError C_NoRule C_NoPaper C_NoPlace C_NoKey C_NoRow C_NoOrder C_TooFar C_Spent)
  (t_Asker_widen:Mt P w K mg base CX0 C_Asker "widen" 1 ["self","more"] (ZCT C_Asker))
 :FnOk P w K mg base CX0 2 f fd ["_law_asker","_law_number","_law_state"] (ZBR C_Asker):=by
 refine F.ok sc_widened (fun vs H Q E h=>?_) (fun cdv A outer s H vs Q E hr h=>?_)
 .obtain ⟨a,rl,ru,tl,s,t,m,n,i,rfl,ha,hs,hm,nas,q⟩:=h
  rfl
 obtain ⟨a,rl,ru,tl,s,t,m,n,i,rfl,ha,hs,hm,nas,q⟩:=h
 refine ⟨_,(ZAE (ZAn (i:=3) sc_widened.nd rfl (by walk_at "o") (ZAX ZAJ (ZA0 (ZAA (ZAm ZBC (ZAm ZBG (pv 1) ZAH) ZAH) (ZAA (ZAm ZBC (ZAm ZBG (pv 1) ZAH) (ZAm op_pow ZAH ZAH)) ZAD))) (ZAm ZBC (pv 1) ZAH) (fun _ _=>rfl)))
  (ZAE (ZBU (ZAg ZBr (ZC8 t_Asker_widen (hr.mono (by decide)) ZA6 (pv 0) (ZAA (pv 3) ZAD)) ZBa (ZAb _))
  (ZAM (ZAh ZCD)) ZAo)
  (ZAE (ZBU (ZAg ZBr (ZAX ZAJ (pv 2) ZAH (fun _ _=>rfl)) ZBa (ZAb _))
  (ZAM (ps_asg (ZAm ZB4 (ZAX ZAJ (pv 2) ZAH (fun _ _=>rfl)) (pv 3)) (pg_sub (pv 2) ZAH set_list))) ZAo)
  (ZAM (ZAh ZCD))))),?_⟩
 walk_at "rd"
 refine ⟨⟨by decide,by decide⟩,by decide,⟨by decide,by decide⟩,⟨by decide,by decide,by decide⟩,by decide,ZAi (by decide),fun p hp=>?_⟩
 obtain ⟨H1,e1,s1,h1⟩:=newH hp (.lst [.int (i / 2 % 4),.int (i / 2 % 10 ^ Int.toNat 60)])
 rw [e1];clear e1
 obtain ⟨j,hat⟩:∃ j,atI [V.int (i / 2 % 4),V.int (i / 2 % 10 ^ Int.toNat 60)] (i % 2)=some (.int j):=by
  have m0:i % 2=0∨i % 2=1:=by omega
  rcases m0 with e | e <;> rw [e]
  .exact ⟨_,ZAY (by decide) rfl⟩
  .exact ⟨_,ZAY (by decide) rfl⟩
 refine ⟨by decide,ZAO (SqL.of h1) hat ?_⟩
 have ha1:=ha.mono s1
 have hs1:=s1 _ _ hs
 refine ha1.meth (by walk_at "lk") ⟨a,rl,ru,tl,m,n,j,rfl,ha1,hm,fun H2 k2 ha2=>?_⟩
 walk_at "rd"
 rw [if_neg (by simp)]
 have hs2:H2 s=some (.lst [m,.ref t]):=by rw [k2 s nas];exact hs1
 refine ZAO (SqL.of hs2) ZAa ?_
 have F2:Fr [a,s] H H2:=fun b o nb hb=>by rw [k2 b (fun z=>nb (by rw [z];exact yAC))];exact s1 _ _ hb
 rcases hm with rfl | ⟨k,rfl⟩
 .rw [if_neg (by simp)]
  exact q H2 _ F2 (.inl rfl) ha2 hs2
 .rw [if_pos (by simp)]
  refine ZAO (SqL.of hs2) ZAa ⟨_,_,rfl,rfl,?_⟩
  refine ⟨s,_,_,_,rfl,rfl,hs2,ixN_of (by decide) (by simp),?_⟩
  exact q _ (.int (k+j)) (F2.trans (Fr.upd (yAL _ yAC))) (.inr ⟨_,rfl⟩) (ha2.keep (ZAC (Ne.symm nas))) ZAG
theorem ok_deed {f:Addr} {fd:FuncData} (F:Fun K "_law_deed" "_law_deed" ZBz f fd) (T:Bt K mg C_Asker C_AskedRule C_HallError C_NoRule C_NoPaper C_NoPlace C_NoKey C_NoRow C_NoOrder C_TooFar C_Spent)
  (f_widened:Fn P w K mg base CX0 "_law_widened" 2 ["_law_asker","_law_number","_law_state"] (ZBR C_Asker))
  (f_refused:Fn P w K mg base CX0 "_law_refused" 4 ["_law_asker","_law_p","_law_q","_law_asked"] (ZBD C_Asker))
  (t_Asker_ahead:Mt P w K mg base (CXE P w) C_Asker "ahead" 3 ["self","p","q"] (ZCB C_Asker C_AskedRule C_Spent ZA4))
 :FnOk P w K mg base CX0 5 f fd ["_law_asker","_law_cell","_law_row","_law_state","_law_written"] (ZBj C_Asker C_AskedRule):=by
 refine F.ok sc_deed (fun vs H Q E h=>?_) (fun cdv A outer s H vs Q E hr h=>?_)
 .obtain ⟨ks,xs,ru,g,lg,rw,a,rl,tl,s,t,m,pr,n,c,rfl,bs,sd,nlg,nrw,nru,hk2,hk9,hpr,hn,q⟩:=h
  rfl
 obtain ⟨ks,xs,ru,g,lg,rw,a,rl,tl,s,t,m,pr,n,c,rfl,bs,sd,nlg,nrw,nru,hk2,hk9,hpr,hn,q⟩:=h
 refine ⟨_,(ZAE (ZBU (ZAg ZCN (ZAm ZBC (pv 1) ZAH) ZAH (ZAb _))
  (ZAM (ZAh (ZBp f_widened (hr.mono (by decide)) rfl ZA6 (ZAA (pv 0) (ZAA (ZAm ZBG (pv 1) ZAH) (ZAA (pv 3) ZAD)))))) ZAo)
  (ZAP
  (ZAE (ZAn (i:=5) sc_deed.nd rfl (by walk_at "o") (ZAm ZBC (ZAm ZBG (pv 1) ZAH) (ZAL ZAT rfl T.b_len PySem.boot_len (ZAA (pv 2) ZAD))))
  (ZAP
  (ZAE (ZAn (i:=6) sc_deed.nd rfl (by walk_at "o") (ZAm ZBC (ZAm ZB4 (ZAm ZB4 (pv 5) ZAH) (ZAm ZBC (ZAm ZBG (pv 1) ZAH) (ZAm op_sub (ZAL ZAT rfl T.b_len PySem.boot_len (ZAA (pv 2) ZAD)) ZAH))) (ZAL ZAT rfl T.b_len PySem.boot_len (ZAA (pv 2) ZAD))))
  (ZAP
  (ZAE (ZAn (i:=7) sc_deed.nd rfl (by walk_at "o") (ZAL ZAT rfl T.b_len PySem.boot_len (ZAA (pv 4) ZAD)))
  (ZAP
  (ZAE (ZBU (PW.pt (pw_and (ZAg ZBr (ZAX ZAJ (pv 3) ZAH (fun _ _=>rfl)) ZBa (ZAb _)) (pw_and1 (ZAg op_ge (ZAL ZAT rfl T.b_len PySem.boot_len (ZAA (ZAX ZAJ (pv 3) ZAH (fun _ _=>rfl)) ZAD)) (ZAX ZAJ (pv 3) ZAH (fun _ _=>rfl)) (ZAb _)))))
  (ZAM (ZAh (ZB3 (ZBp f_refused (hr.mono (by decide)) rfl ZA6 (ZAA (pv 0) (ZAA (pv 5) (ZAA (pv 6) (ZAA (ZAL ZAT rfl T.b_len PySem.boot_len (ZAA (ZAX ZAJ (pv 3) ZAH (fun _ _=>rfl)) ZAD)) ZAD))))) (ZB1 (ZA5 ZCN (ZAL ZAT rfl T.b_len PySem.boot_len (ZAA (pv 4) ZAD)) (pv 7) (ZAb _)))))) ZAo)
  (ZAP
  (ZAE (ZAn (i:=8) sc_deed.nd rfl (by walk_at "o") (ZC8 t_Asker_ahead (hr.mono (by decide)) passE (pv 0) (ZAA (pv 5) (ZAA (pv 6) ZAD))))
  (ZAP
  (ZAE (ZBU (PW.pt (ZCt (ZBo (ZBn (ZAL ZAy rfl T.b_isinstance PyProof.Rows.boot_isinstance (ZAA (pv 8) (ZAA (ZB2 rfl T.b_bool PyProof.Rows.boot_bool) ZAD))))) (ZCd (ZAg op_ne (pv 8) (ZA5 (op_ltT hr.units0) (ZAX ZAJ (pv 2) (pv 5) (fun _ _=>rfl)) (ZAX ZAJ (pv 2) (pv 6) (fun _ _=>rfl)) (ZAb _)) (ZAb _)))))
  (ZAM (ZAh ZCD)) ZAo)
  (ZAP
  (ZAE (ZAn (i:=9) sc_deed.nd rfl (by walk_at "o") (ZAL (call_max2 rfl) rfl T.b_max PyProof.Rows.boot_max (ZAA (pv 5) (ZAA (pv 6) ZAD))))
  (ZAP
  (ZAE (ZAn (i:=10) sc_deed.nd rfl (by walk_at "o") (ZAL (call_min2 rfl) rfl T.b_min PyProof.Rows.boot_min (ZAA (pv 5) (ZAA (pv 6) ZAD))))
  (ZAP
  (ZAE (ZBF (ZCV PySem.F.plainAttrs_list PySem.F.slot_list_append PySem.F.type_list_append ZAw (ZAX ZAJ (pv 3) ZAH (fun _ _=>rfl)) (ZAA (ZBg (ZAA (pv 9) (ZAA (pv 10) (ZAA (ZA5 ZDA (ZAX ZCO (ZAX ZAJ (pv 2) (pv 9) (fun _ _=>rfl)) ZAH (fun _ _=>rfl)) (ZAX ZCO (ZAX ZAJ (pv 2) (pv 10) (fun _ _=>rfl)) ZAH (fun _ _=>rfl)) (ZAb _)) ZAD)))) ZAD)))
  (ZAP
  (ZAM (ZAh (ZB3 (ZA5 ZCN (ZAL ZAT rfl T.b_len PySem.boot_len (ZAA (pv 4) ZAD)) (ZAm ZB4 (pv 7) ZAH) (ZAb _)) (ZB1 (ZA5 (op_eqD hr.units) (ZAX ZAJ (pv 4) (pv 7) (fun _ _=>rfl)) (ZBg (ZAA (ZAX ZAJ (pv 2) (pv 9) (fun _ _=>rfl)) (ZAA (ZAX ZAJ (pv 2) (pv 10) (fun _ _=>rfl)) ZAD))) (ZAb _)))))))))))))))))))))))))),?_⟩
 walk_at "rd"
 have hxl:=bs.th.1
 obtain ⟨ws,hw1,hw2⟩:=bs.hlg
 have nsa:s≠a:=sd.ha.ne sd.hs fun _ _ _ z=>by cases z
 refine ⟨by decide,?_⟩
 by_cases hc:c % 7=6
 .rw [if_pos hc]
  refine ⟨⟨by decide,by decide⟩,a,rl,ru,tl,s,t,m,_,_,rfl,sd.ha,sd.hs,sd.hm,nsa,fun H1 m' f1 hm' ha1 hs1=>?_⟩
  have hS:∀ c∈[a,s],(∃ l,H c=some (.lst l))∨∃ C d fs,H c=some (.ins C d fs):=fun c hc=>by
   rcases yAA.mp hc with z | z
   .obtain ⟨d,f,e,_⟩:=sd.ha.ex
    exact .inr ⟨_,_,_,by rw [z];exact e⟩
   .rw [yAF.mp z];exact .inl ⟨_,sd.hs⟩
  have hl:∀ {c:Addr} {l:List V},H c=some (.lst l)->c≠s->c∉[a,s]:=fun {c l} h n z=>by
   rcases yAA.mp z with z | z
   .exact sd.ha.ne h (fun _ _ _ y=>by cases y) z
   .exact n (yAF.mp z)
  have kt:∀ c x,H c=some (.tup x)->H1 c=some (.tup x):=fun c x hc=>f1 _ _ (fun mm=>by
   rcases hS c mm with ⟨l,hl⟩ | ⟨C,d,fs,hl⟩ <;> · rw [hl] at hc;cases hc) hc
  obtain ⟨ts,e1,e2⟩:=sd.htl
  obtain ⟨us,e3,e4⟩:=sd.ht
  refine q H1 m' pr n (fun b o nb hb=>f1 b o (fun z=>nb ?_) hb) (bs.fr f1 hS (fun z=>?_) (hl bs.hrw fun z=>nrw (by rw [z];simp)) ⟨ws,f1 _ _ (hl hw1 fun z=>nlg (by rw [z];simp)) hw1,hw2⟩) ⟨ha1,f1 _ _ (hl sd.hrl fun z=>sd.ne.2.2.2 (by rw [z];simp)) sd.hrl,⟨ts,f1 _ _ (hl e1 (Ne.symm sd.ne.2.1)) e1,e2.keep kt⟩,hs1,⟨us,f1 _ _ (hl e3 (Ne.symm sd.ne.1)) e3,e4.keep kt⟩,hm',sd.ne⟩ (yAM _) (yAM _)
  .rcases yAA.mp z with z | z
   .rw [z];exact yAC
   .rw [yAF.mp z];simp
  .rcases yAA.mp z with z | z
   .exact nru z
   .obtain ⟨d,f,e,_⟩:=bs.hru.ex
    rw [yAF.mp z,sd.hs] at e;cases e
 rw [if_neg hc]
 refine ZAc ?_
 walk_at "rd"
 refine ⟨⟨by decide,by decide⟩,rw,_,rfl,.inl (SqL.of bs.hrw),?_⟩
 rw [hxl]
 have hk0:(0:Int) < ks.length:=by omega
 have p0:=Int.emod_nonneg (c / 7) (show (ks.length:Int)≠0 by omega)
 have p1:=Int.emod_lt_of_pos (c / 7) hk0
 refine ⟨hk0,?_⟩
 obtain ⟨P,eP⟩:∃ P:Nat,c / 7 % (ks.length:Int)=P:=⟨(c / 7 % (ks.length:Int)).toNat,by omega⟩
 rw [eP] at p0 p1 ⊢
 refine ZAc ?_
 walk_at "rd"
 refine ⟨⟨by decide,by decide⟩,rw,_,rfl,.inl (SqL.of bs.hrw),?_⟩
 rw [hxl]
 walk_at "rd"
 refine ⟨by omega,rw,_,rfl,.inl (SqL.of bs.hrw),?_⟩
 rw [hxl]
 refine ⟨hk0,?_⟩
 have r0:=Int.emod_nonneg (c / 63) (show (ks.length:Int)-1≠0 by omega)
 have r1:=Int.emod_lt_of_pos (c / 63) (show (0:Int) < (ks.length:Int)-1 by omega)
 obtain ⟨Q0,eQ,hPQ,hQ⟩:∃ Q0:Nat,((P:Int)+1+c / 63 % ((ks.length:Int)-1)) % (ks.length:Int)=Q0 /\ P≠Q0 /\ Q0 < ks.length:=by
  generalize c / 63 % ((ks.length:Int)-1)=r at r0 r1
  by_cases hz:(P:Int)+1+r < ks.length
  .exact ⟨((P:Int)+1+r).toNat,by rw [Int.emod_eq_of_lt (by omega) hz];omega,by omega,by omega⟩
  .refine ⟨((P:Int)+1+r-ks.length).toNat,?_,by omega,by omega⟩
   rw [<- Int.sub_emod_right,Int.emod_eq_of_lt (by omega) (by omega)]
   omega
 rw [eQ]
 clear eQ r0 r1 eP
 refine ZAc ?_
 walk_at "rd"
 refine ⟨lg,_,rfl,.inl (SqL.of hw1),?_⟩
 rw [hw2]
 refine ZAc ?_
 walk_at "rd"
 refine ZAO (SqL.of sd.hs) ZAa ?_
 obtain ⟨ts,e1,e2⟩:=sd.htl
 obtain ⟨us,e3,e4⟩:=sd.ht
 have hul:=e4.len
 have hP:P < ks.length:=by omega
 have refuse:∀ k,m=.int k->k <= (pr.length:Int)->ZBD C_Asker [.ref a,.int P,.int Q0,.int (us.length:Nat)] H (fun x H1=>∃ c,x=V.bl c /\ if c=true then ∃ p ys,[V.ref lg]=[V.ref p] /\ (SqL K H1 p ys∨SqT K H1 p ys) /\ Q (V.bl (decide ((ys.length:Int)=(n:Int)))) H1 else Q (V.bl false) H1) E0:=fun k ek hk=>by
  have ha':=sd.ha
  rw [ek] at ha'
  refine ⟨a,rl,ru,tl,k,(us.length:Nat),P,Q0,rfl,by rw [hul];exact ha',small_log (by omega),by rw [hul];exact hk,fun H1 s1=>⟨true,rfl,?_⟩⟩
  rw [if_pos rfl]
  refine ⟨lg,_,rfl,.inl (SqL.of (s1 _ _ hw1)),?_⟩
  rw [hw2,decide_eq_true rfl]
  exact q H1 m pr n s1.fr (bs.mono s1) (sd.mono s1) (yAM _) (yAM _)
 apply onceP (m=.non∨∃ k,m=.int k /\ (pr.length:Int) < k)
 .intro tailp
  rcases id sd.hm with hm | ⟨k,hm⟩
  .rw [if_neg (by rw [hm];simp)]
   exact tailp (.inl hm)
  .rw [if_pos (by rw [hm];simp)]
   refine ZAO (SqL.of sd.hs) (ZAY (by decide) rfl) ⟨t,us,rfl,.inl (SqL.of e3),ZAO (SqL.of sd.hs) ZAa ⟨_,_,rfl,hm,_,rfl,?_⟩⟩
   by_cases hk:k <= (us.length:Int)
   .rw [if_pos (decide_eq_true hk)]
    exact ZAO (SqL.of sd.hs) (ZAY (by decide) rfl) ⟨t,us,rfl,.inl (SqL.of e3),refuse k hm (by omega)⟩
   .rw [if_neg (by simp;omega)]
    exact tailp (.inr ⟨k,hm,by omega⟩)
 clear refuse
 intro hmost
 refine ZAc ?_
 walk_at "rd"
 have hmx:max P Q0 < ks.length:=by omega
 have hmn:min P Q0 < ks.length:=by omega
 obtain ⟨x,hx,tx⟩:=bs.th.2 (max P Q0) _ (yAT hmx)
 obtain ⟨y,hy,ty⟩:=bs.th.2 (min P Q0) _ (yAT hmn)
 have kx:ks[max P Q0]=kat ks (max P Q0):=by unfold kat;rw [yAT hmx];rfl
 have ky':ks[min P Q0]=kat ks (min P Q0):=by unfold kat;rw [yAT hmn];rfl
 rw [kx] at tx
 rw [ky'] at ty
 have emx:(max (P:Int) Q0).toNat=max P Q0:=by omega
 have emn:(min (P:Int) Q0).toNat=min P Q0:=by omega
 have nlga:lg≠a:=sd.ha.ne hw1 fun _ _ _ z=>by cases z
 have nlgtl:lg≠tl:=fun z=>nlg (by rw [z];simp)
 refine sd.ha.meth (by walk_at "lk") ⟨a,rl,ru,tl,m,_,P,Q0,rfl,sd.ha,small_log (by omega),.inr ⟨hmost,xs,ts,.ref x,.ref y,sd.hrl,by omega,by omega,by omega,by rw [emx];exact hx,by rw [emn];exact hy,?_⟩⟩
 obtain ⟨cl,C⟩:=id bs.clo
 obtain ⟨d1,d2,d3,d4,ho,_⟩:=C.obj
 refine ⟨ru,g,.ref x,.ref y,rfl,bs.hru,⟨_,ho,_,rfl⟩,g,x,y,lg,_,_,_,_,ws,rfl,rfl,bs.clo,tx,ty,hw1,by omega,fun t1 ht1=>⟨_,rfl,?_⟩⟩
 have nt1a:t1≠a:=sd.ha.neN ht1
 have nt1l:t1≠lg:=Ne.symm (ZAF hw1 ht1)
 have nt1t:t1≠tl:=Ne.symm (ZAF e1 ht1)
 obtain ⟨H1,eH1⟩:∃ H1,upd (upd H t1 (.tup [.ref x,.ref y])) lg (.lst (ws++[.ref t1]))=H1:=⟨_,rfl⟩
 have k1:∀ b,b≠t1->b≠lg->H1 b=H b:=fun b n1 n2=>by rw [<- eH1,ZAC n2,ZAC n1]
 have hlg1:H1 lg=some (.lst (ws++[.ref t1])):=by rw [<- eH1,ZAG]
 have ht1':H1 t1=some (.tup [.ref x,.ref y]):=by rw [<- eH1,ZAC nt1l,ZAG]
 rw [eH1]
 clear eH1
 refine ⟨sd.ha.keep (k1 a (Ne.symm nt1a) (Ne.symm nlga)),by rw [k1 tl (Ne.symm nt1t) (Ne.symm nlgtl)];exact e1,by rw [e2.len];omega,fun t2 H2 hn2 ha2 htl2 ht2 k2=>?_⟩
 have F2:Fr [a,tl,lg] H H2:=fun b o nb hb=>by
  have n1:b≠a:=fun z=>nb (by rw [z];exact yAC)
  have n2:b≠tl:=fun z=>nb (by rw [z];exact yAL _ yAC)
  have n3:b≠lg:=fun z=>nb (by rw [z];exact yAL _ (yAL _ yAC))
  have hb1:H1 b=some o:=by rw [k1 b (ZAF hb ht1) n3];exact hb
  rw [k2 b n1 n2 (ZAF hb1 hn2)];exact hb1
 have hS2:∀ c∈[a,tl,lg],(∃ l,H c=some (.lst l))∨∃ C d fs,H c=some (.ins C d fs):=fun c hc=>by
  rcases yAA.mp hc with z | z
  .obtain ⟨d,f,e,_⟩:=sd.ha.ex
   exact .inr ⟨_,_,_,by rw [z];exact e⟩
  rcases yAA.mp z with z | z
  .rw [z];exact .inl ⟨_,e1⟩
  .rw [yAF.mp z];exact .inl ⟨_,hw1⟩
 have nl3:∀ {c:Addr} {l:List V},H c=some (.lst l)->c≠tl->c≠lg->c∉[a,tl,lg]:=fun {c l} h n1 n2 z=>by
  rcases yAA.mp z with z | z
  .exact sd.ha.ne h (fun _ _ _ y=>by cases y) z
  rcases yAA.mp z with z | z
  .exact n1 z
  .exact n2 (yAF.mp z)
 have kt2:∀ c x,H c=some (.tup x)->H2 c=some (.tup x):=fun c x hc=>F2 _ _ (fun mm=>by
  rcases hS2 c mm with ⟨l,hl⟩ | ⟨C,d,fs,hl⟩ <;> · rw [hl] at hc;cases hc) hc
 have nt2l:t2≠lg:=fun z=>by rw [z,hlg1] at hn2;cases hn2
 have nt2t1:t2≠t1:=fun z=>by rw [z,ht1'] at hn2;cases hn2
 have hlg2:H2 lg=some (.lst (ws++[.ref t1])):=by rw [k2 lg nlga nlgtl (Ne.symm nt2l)];exact hlg1
 have ht12:H2 t1=some (.tup [.ref x,.ref y]):=by rw [k2 t1 nt1a nt1t (Ne.symm nt2t1)];exact ht1'
 have hrw2:H2 rw=some (.lst xs):=F2 _ _ (nl3 bs.hrw (fun z=>nrw (by rw [z];simp)) (fun z=>nrw (by rw [z];simp))) bs.hrw
 have hs2:H2 s=some (.lst [m,.ref t]):=F2 _ _ (nl3 sd.hs sd.ne.2.1 (fun z=>nlg (by rw [<- z];simp))) sd.hs
 have h3t:H2 t=some (.lst us):=F2 _ _ (nl3 e3 sd.ne.2.2.1 (fun z=>nlg (by rw [<- z];simp))) e3
 have th2:ZCR H2 ks xs:=⟨bs.th.1,fun i kk hk=>by obtain ⟨r,a1,a2⟩:=bs.th.2 i kk hk;exact ⟨r,a1,kt2 _ _ a2⟩⟩
 have at':∀ {i:Nat},i < ks.length->∃ r,atI xs (i:Int)=some (.ref r) /\ xs[i]?=some (.ref r) /\ H2 r=some (.tup [.int (kat ks i),.int i]):=fun {i} hi=>by
  obtain ⟨r,a1,a2⟩:=th2.2 i _ (yAT hi)
  exact ⟨r,ZAY (by omega) (by rw [Int.toNat_natCast];exact a1),a1,by unfold kat;rw [yAT hi];exact a2⟩
 walk_at "rd"
 refine ZAc ?_
 walk_at "rd"
 refine inst_bl ?_
 walk_at "rd"
 obtain ⟨rp,b1,_,b2⟩:=at' hP
 obtain ⟨rq,b3,_,b4⟩:=at' hQ
 refine ZAO (SqL.of hrw2) b1 (ZAO (SqL.of hrw2) b3 ⟨rp,rq,[kat ks P,(P:Int)],[kat ks Q0,(Q0:Int)],rfl,rfl,SqT.of b2,SqT.of b4,?_⟩)
 rw [lexLt_lx]
 have hsaid:(if (Q0:Int) < P then decide (kat ks (max P Q0) < kat ks (min P Q0)) else !decide (kat ks (max P Q0) < kat ks (min P Q0)))=decide (lx ks P Q0):=by
  rw [<- ahead_lx hPQ]
  by_cases z:Q0 < P
  .rw [if_pos (by omega),if_pos z,show max P Q0=P by omega,show min P Q0=Q0 by omega]
  .rw [if_neg (by omega),if_neg z,show max P Q0=Q0 by omega,show min P Q0=P by omega]
 rw [hsaid]
 walk_at "rd"
 rw [if_neg (by simp)]
 refine ZAc ?_
 walk_at "rd"
 refine ⟨_,_,rfl,?_⟩
 rw [mx_eq,show max (P:Int) Q0=((max P Q0:Nat):Int) by omega]
 refine ZAc ?_
 walk_at "rd"
 refine ⟨_,_,rfl,?_⟩
 rw [mn_eq,show min (P:Int) Q0=((min P Q0:Nat):Int) by omega]
 refine ZAc ?_
 walk_at "rd"
 refine ZAO (SqL.of hs2) (ZAY (by decide) rfl) ?_
 refine ⟨.inl ⟨rfl,_,SqL.of h3t⟩,?_⟩
 have bx:atI xs ((max P Q0:Nat):Int)=some (.ref x):=ZAY (by omega) (by rw [Int.toNat_natCast];exact hx)
 have by':atI xs ((min P Q0:Nat):Int)=some (.ref y):=ZAY (by omega) (by rw [Int.toNat_natCast];exact hy)
 refine ZAO (SqL.of hrw2) bx (ZB5 (SqT.of (kt2 _ _ tx)) ZAa (ZAO (SqL.of hrw2) by' (ZB5 (SqT.of (kt2 _ _ ty)) ZAa ⟨_,_,rfl,rfl,ZAi (by decide),fun t3 ht3=>?_⟩)))
 obtain ⟨H3,e5,s3,h3⟩:=newH ht3 (.tup [.int (max P Q0:Nat),.int (min P Q0:Nat),.bl (decide (kat ks (max P Q0) < kat ks (min P Q0)))])
 dsimp only
 rw [e5];clear e5
 refine ⟨t,us,_,rfl,rfl,s3 _ _ h3t,ZBy (by omega),?_⟩
 have n3t:t3≠t:=fun z=>by rw [z,h3t] at ht3;cases ht3
 have ntn:∀ {b:Addr} {u:List V},H3 b=some (.tup u)->b≠t:=fun {b u} h z=>by rw [z,s3 _ _ h3t] at h;cases h
 have F4:Fr [t] H3 (upd H3 t (.lst (us++[.ref t3]))):=Fr.upd yAC
 have ht4:upd H3 t (.lst (us++[.ref t3])) t=some (.lst (us++[.ref t3])):=ZAG
 generalize upd H3 t (.lst (us++[.ref t3]))=H4 at F4 ht4 ⊢
 have up:∀ {b:Addr} {o:HO},H2 b=some o->b≠t->H4 b=some o:=fun {b o} h n=>F4 _ _ (fun z=>n (yAF.mp z)) (s3 _ _ h)
 have kt4:∀ c x,H2 c=some (.tup x)->H4 c=some (.tup x):=fun c x hc=>up hc (ntn (s3 _ _ hc))
 have nlgt:lg≠t:=fun z=>nlg (by rw [z];simp)
 have hlg4:=up hlg2 nlgt
 have hrw4:=up hrw2 (fun z=>nrw (by rw [z];simp))
 refine ZAc ?_
 walk_at "rd"
 refine ⟨lg,_,rfl,.inl (SqL.of hlg4),?_⟩
 rw [yAJ,hw2]
 walk_at "rd"
 rw [if_pos (by simp)]
 refine ZAO (SqL.of hlg4) (ZAY (by omega) (by rw [Int.toNat_natCast,<- hw2];exact ZCI ws (.ref t1) [])) (ZAO (SqL.of hrw4) bx (ZAO (SqL.of hrw4) by' ⟨ZAi (by decide),fun t5 ht5=>?_⟩))
 obtain ⟨H5,e6,s5,h5⟩:=newH ht5 (.tup [.ref x,.ref y])
 rw [e6];clear e6
 have tx5:=s5 _ _ (kt4 _ _ (kt2 _ _ tx))
 have ty5:=s5 _ _ (kt4 _ _ (kt2 _ _ ty))
 have dx:Dp K H5 (.tuple [.int (kat ks (max P Q0)),.int (max P Q0:Nat)]) (.ref x):=ZCQ (SqT.of tx5) (.two (ZB7 _) (ZB7 _))
 have dy:Dp K H5 (.tuple [.int (kat ks (min P Q0)),.int (min P Q0:Nat)]) (.ref y):=ZCQ (SqT.of ty5) (.two (ZB7 _) (ZB7 _))
 refine eqD_of (Enc.two (Enc.two Enc.int Enc.int) (Enc.two Enc.int Enc.int)) (by decide) (a:=((kat ks (max P Q0),((max P Q0:Nat):Int)),(kat ks (min P Q0),((min P Q0:Nat):Int)))) (b:=((kat ks (max P Q0),((max P Q0:Nat):Int)),(kat ks (min P Q0),((min P Q0:Nat):Int)))) (ZCQ (SqT.of (s5 _ _ (kt4 _ _ ht12))) (.two dx dy)) (ZCQ (SqT.of h5) (.two dx dy)) ?_
 rw [decide_eq_true rfl]
 have up5:∀ {b:Addr} {o:HO},H2 b=some o->b≠t->H5 b=some o:=fun {b o} h n=>s5 _ _ (up h n)
 have FF:Fr [a,tl,s,t,lg] H H5:=fun b o nb hb=>up5 (F2 _ _ (fun z=>nb (by
  rcases yAA.mp z with z | z
  .rw [z];simp
  rcases yAA.mp z with z | z
  .rw [z];simp
  .rw [yAF.mp z];simp)) hb) (fun z=>nb (by rw [z];simp))
 have nat':a≠t:=Ne.symm (sd.ha.ne e3 fun _ _ _ z=>by cases z)
 have ht2':H2 t2=some (.tup [.int (max P Q0:Nat),.int (min P Q0:Nat),.bl (decide (kat ks (max P Q0) < kat ks (min P Q0)))]):=by
  rw [show ((max P Q0:Nat):Int)=max (P:Int) Q0 by omega,show ((min P Q0:Nat):Int)=min (P:Int) Q0 by omega];exact ht2
 refine q H5 m (pr++[(max P Q0,min P Q0)]) (n+1) FF ⟨?_,?_,s5 _ _ hrw4,⟨bs.th.1,fun i kk hk=>?_⟩,⟨_,s5 _ _ hlg4,by rw [yAJ,hw2];rfl⟩⟩ ⟨?_,?_,⟨_,up5 htl2 (Ne.symm sd.ne.2.2.1),?_⟩,up5 hs2 sd.ne.1,⟨_,s5 _ _ ht4,?_⟩,sd.hm,sd.ne⟩ (by rw [yAJ];exact yAB _) (yAB _)
 .obtain ⟨d,f,e,x1,x2⟩:=bs.hru.ex
  refine ⟨d,f,up5 (F2 _ _ (fun z=>?_) e) (fun z=>?_),x1,x2⟩
  .rcases yAA.mp z with z | z
   .exact nru z
   rcases yAA.mp z with z | z
   .rw [z,e1] at e;cases e
   .rw [yAF.mp z,hw1] at e;cases e
  .rw [z,e3] at e;cases e
 .refine bs.clo.mono fun c o hc=>up5 (F2 _ _ (fun mm=>?_) hc) (fun z=>by rw [z,e3] at hc;cases hc)
  rcases hS2 c mm with ⟨l,hl⟩ | ⟨C,d,fs,hl⟩ <;> · rw [hl] at hc;cases hc
 .obtain ⟨r,a1,a2⟩:=bs.th.2 i kk hk
  exact ⟨r,a1,s5 _ _ (kt4 _ _ (kt2 _ _ a2))⟩
 .obtain ⟨d,f,e,x1,x2⟩:=ha2.ex
  refine ⟨d,f,up5 e nat',x1,?_⟩
  rw [yAJ]
  exact x2
 .exact up5 (F2 _ _ (nl3 sd.hrl (fun z=>sd.ne.2.2.2 (by rw [z];simp)) (fun z=>nlg (by rw [<- z];simp))) sd.hrl) (fun z=>sd.ne.2.2.2 (by rw [z];simp))
 .exact ((e2.keep kt2).keep fun c x h=>s5 _ _ (kt4 _ _ h)).snoc (s5 _ _ (kt4 _ _ ht2'))
 .exact ((e4.keep kt2).keep fun c x h=>s5 _ _ (kt4 _ _ h)).snoc (s5 _ _ (F4 _ _ (fun z=>n3t (yAF.mp z)) h3))
theorem ok_law {f:Addr} {fd:FuncData} (F:Fun K "law" "law" ZCC f fd) (T:Bt K mg C_Asker C_AskedRule C_HallError C_NoRule C_NoPaper C_NoPlace C_NoKey C_NoRow C_NoOrder C_TooFar C_Spent)
  (f_cell_at:Fn P w K mg base CX0 "_law_cell_at" 1 ["_law_script","_law_k"] (ZCr K))
  (f_teller:Fn P w K mg base CX0 "_law_teller" 1 ["_law_written"] (ZCc Pt_teller (ZCy ZAI) "_law_ask" "_law_teller.<locals>._law_ask" (ZAN ZAI) (ZAK ZAI) (ZAB ZAI) ["_law_written"] [0] 1))
  (f_deed:Fn P w K mg base CX0 "_law_deed" 5 ["_law_asker","_law_cell","_law_row","_law_state","_law_written"] (ZBj C_Asker C_AskedRule))
  (f_stands:Fn P w K mg base CX0 "_law_stands" 2 ["_law_asker","_law_state"] (ZBd C_Asker))
  (t_Asker_answers:Mt P w K mg base CX0 C_Asker "answers" 1 ["self"] (ZBZ C_Asker))
  (k_AskedRule:Kl P w K mg base CX0 "AskedRule" C_AskedRule 1 ["self","teller"] (ZBe C_AskedRule))
  (k_Asker:Kl P w K mg base CX0 "Asker" C_Asker 1 ["self","row","rule","most"] (ZAs C_Asker))
  (k_Asker_3:KlD P w K mg base CX0 "Asker" C_Asker 1 ["self","row","rule","most"] (ZAs C_Asker) [.non])
 :FnOk P w K mg base CX0 6 f fd ["_law_script"] (ZCq K [(cc_teller,Pt_teller)]):=by
 refine F.ok sc_law (fun vs H Q E h=>?_) (fun cdv A outer s H vs Q E hr h=>?_)
 .obtain ⟨a,ns,rfl,hS,h63,hT,q⟩:=h
  rfl
 obtain ⟨a,ns,rfl,hS,h63,hT,q⟩:=h
 refine ⟨_,(ZAE (ZAn (i:=1) sc_law.nd rfl (by walk_at "o") (ZBp f_cell_at (hr.mono (by decide)) rfl ZA6 (ZAA (pv 0) (ZAA ZAH ZAD))))
  (ZAP
  (ZAE (ZAn (i:=2) sc_law.nd rfl (by walk_at "o") (ZA0 ZAD))
  (ZAE (ps_for PassesOwn.never rfl (pi_range1 rfl T.b_range (ZAA (ZAm ZB4 ZAH (ZAm ZBC (pv 1) ZAH)) ZAD)) (ZCU (i:=3) sc_law.nd rfl (by walk_at "o"))
  (ZAM (ZBF (ZCV PySem.F.plainAttrs_list PySem.F.slot_list_append PySem.F.type_list_append ZAw (pv 2) (ZAA (ZBg (ZAA (ZAm ZBC (ZAm op_fdivB (pv 1) (ZAm ZB4 (ZAm op_mul ZAH (pv 3)) ZAH)) ZAH) (ZAA (pv 3) ZAD))) ZAD)))))
  (ZAP
  (ZAE (ZAn (i:=4) sc_law.nd rfl (by walk_at "o") (ZA0 ZAD))
  (ZAP
  (ZAE (ZAn (i:=5) sc_law.nd rfl (by walk_at "o") (ZC9 k_AskedRule (hr.mono (by decide)) rfl ZA6 (ZAA (ZBp f_teller (hr.mono (by decide)) rfl ZA6 (ZAA (pv 4) ZAD)) ZAD)))
  (ZAP
  (ZAE (ZAn (i:=6) sc_law.nd rfl (by walk_at "o") (ZA0 (ZAA (ZA0 (ZAA (ZAm ZBC (ZBp f_cell_at (hr.mono (by decide)) rfl ZA6 (ZAA (pv 0) (ZAA ZAH ZAD))) ZAH) (ZAA (ZA0 ZAD) ZAD))) (ZAA (ZA0 (ZAA ZBa (ZAA (ZA0 ZAD) ZAD))) ZAD))))
  (ZAP
  (ZAE (ZAn (i:=7) sc_law.nd rfl (by walk_at "o") (ZA0 (ZAA (ZC9 k_Asker (hr.mono (by decide)) rfl ZA6 (ZAA (pv 2) (ZAA (pv 5) (ZAA (ZAX ZAJ (ZAX ZAJ (pv 6) ZAH (fun _ _=>rfl)) ZAH (fun _ _=>rfl)) ZAD)))) (ZAA (pe_mkD k_Asker_3 (hr.mono (by decide)) rfl ZA6 (ZAA (pv 2) (ZAA (pv 5) ZAD))) ZAD))))
  (ZAP
  (ZAE (ZBU (ZAg ZCN (ZAm ZBC (ZAm ZBG (ZBp f_cell_at (hr.mono (by decide)) rfl ZA6 (ZAA (pv 0) (ZAA ZAH ZAD))) ZAH) ZAH) ZAH (ZAb _))
  (ZAM (ps_asg (ZC9 k_Asker (hr.mono (by decide)) rfl ZA6 (ZAA (pv 2) (ZAA (pv 5) (ZAA ZBa ZAD)))) (pg_sub (pv 7) ZAH set_list))) ZAo)
  (ZAP
  (ZAE (ZAn (i:=8) sc_law.nd rfl (by walk_at "o") (ZA0 ZAD))
  (ZAP
  (ZAE (ps_for PassesOwn.never rfl (pi_list (pe_slice sl_list (pv 0) (po_some ZAH) (po_some ZAH))) (ZCU (i:=9) sc_law.nd rfl (by walk_at "o"))
  (ZAE (ZAn (i:=3) sc_law.nd rfl (by walk_at "o") (ZAm ZBG (ZAm ZBC (pv 9) ZAH) ZAH))
   (ZAP
  (ZAE (ZBU (ZBo (ZBn (ZBp f_deed (hr.mono (by decide)) rfl ZA6 (ZAA (ZAX ZAJ (pv 7) (pv 3) (fun _ _=>rfl)) (ZAA (ZAm ZBG (pv 9) ZAH) (ZAA (pv 2) (ZAA (ZAX ZAJ (pv 6) (pv 3) (fun _ _=>rfl)) (ZAA (pv 4) ZAD))))))))
  (ZAM (ZAh ZCD)) ZAo)
   (ZAP
  (ZAE (ZBU (ZAg ZCN (ZAm ZBC (ZAm ZBG (pv 9) ZAH) ZAH) ZAH (ZAb _))
  (ZAM (ZBF (ZCV PySem.F.plainAttrs_list PySem.F.slot_list_append PySem.F.type_list_append ZAw (pv 8) (ZAA (ZBg (ZAA (ZCv t_Asker_answers (hr.mono (by decide)) ZA6 (ZAX ZAJ (pv 7) (pv 3) (fun _ _=>rfl))) (ZAA (ZBq ZBM rfl T.b_list PyProof.Rows.boot_list (ZAA (ZAX ZAJ (ZAX ZAJ (pv 6) (pv 3) (fun _ _=>rfl)) ZAH (fun _ _=>rfl)) ZAD)) ZAD))) ZAD)))) ZAo)
   (ZAP
  (ZAM (ZBU (PW.pt (ZCt (ZBo (ZBn (ZBp f_stands (hr.mono (by decide)) rfl ZA6 (ZAA (ZAX ZAJ (pv 7) ZAH (fun _ _=>rfl)) (ZAA (ZAX ZAJ (pv 6) ZAH (fun _ _=>rfl)) ZAD))))) (ZCd (ZBo (ZBn (ZBp f_stands (hr.mono (by decide)) rfl ZA6 (ZAA (ZAX ZAJ (pv 7) ZAH (fun _ _=>rfl)) (ZAA (ZAX ZAJ (pv 6) ZAH (fun _ _=>rfl)) ZAD))))))))
  (ZAM (ZAh ZCD)) ZAo)))))))))
  (ZAP
  (ZAE (ZBF (ZCV PySem.F.plainAttrs_list PySem.F.slot_list_append PySem.F.type_list_append ZAw (pv 8) (ZAA (ZBg (ZAA (ZCv t_Asker_answers (hr.mono (by decide)) ZA6 (ZAX ZAJ (pv 7) ZAH (fun _ _=>rfl))) (ZAA (ZAX ZAJ (ZAX ZAJ (pv 6) ZAH (fun _ _=>rfl)) ZAH (fun _ _=>rfl)) ZAD))) ZAD)))
  (ZAP
  (ZAE (ZBF (ZCV PySem.F.plainAttrs_list PySem.F.slot_list_append PySem.F.type_list_append ZAw (pv 8) (ZAA (ZBg (ZAA (ZCv t_Asker_answers (hr.mono (by decide)) ZA6 (ZAX ZAJ (pv 7) ZAH (fun _ _=>rfl))) (ZAA (ZAX ZAJ (ZAX ZAJ (pv 6) ZAH (fun _ _=>rfl)) ZAH (fun _ _=>rfl)) ZAD))) ZAD)))
  (ZAP
  (ZAM (ZAh (ZA5 (op_eqD hr.units) (pe_comp rfl (k:=1) (js:=[]) (N':=["_law_pair"]) (by rfl) (pi_list (pv 8)) (fun _ _ _ _=>ZCU (i:=0) (show (["_law_pair"]:List Str).Nodup by decide +kernel) rfl (by walk_at "o")) (fun _ _ _ _=>(pifs_one (ZAg (op_neDK K hr.units) (ZAX (ix_tupK K) (pv 0) ZAH (fun _ _=>rfl)) (ZAX (ix_tupK K) (pv 0) ZAH (fun _ _=>rfl)) (ZAb _)))) (fun _ _ _ _=>(pv 0))) (ZA0 ZAD) (ZAb _))))))))))))))))))))))))))),?_⟩
 walk_at "rd"
 refine ⟨a,ns,0,rfl,hS,by decide,?_⟩
 generalize cellOf ns 0=c0
 walk_at "rd"
 refine ZAc ?_
 walk_at "rd"
 refine ⟨yAU _,fun rw hrw0=>?_⟩
 obtain ⟨H1,e1,s1,h1⟩:=newH hrw0 (.lst [])
 rw [e1];clear e1
 walk_at "rd"
 have r0:=Int.emod_nonneg c0 (show (8:Int)≠0 by decide)
 have r1:=Int.emod_lt_of_pos c0 (show (0:Int) < 8 by decide)
 obtain ⟨N,eN⟩:∃ N:Nat,2+c0 % 8=(N:Int):=⟨(2+c0 % 8).toNat,by omega⟩
 refine ⟨by decide,?_⟩
 rw [eN]
 have hN:2 <= N /\ N <= 9:=by omega
 refine forR1_of (by omega) (forR_of (fun i σ X=>∃ (v3:Option V) (ks:List Int) (xs:List V),σ=[some (.ref a),some (.int c0),some (.ref rw),v3,none,none,none,none,none,none] /\ Same H X /\ X rw=some (.lst xs) /\ ks.length=i /\ ZCR X ks xs) ⟨_,[],[],rfl,s1,h1,rfl,rfl,fun i k h=>by simp at h⟩ ?_ ?_)
 .rintro i σ X hi ⟨v3,ks,xs,rfl,sX,hX,hkl,hth⟩
  rw [show (0+(i:Int))=i by omega]
  walk_at "rd"
  refine ⟨.inl ⟨rfl,_,SqL.of hX⟩,.inl ⟨by decide,by decide⟩,⟨by omega,by omega⟩,by decide,ZAi (by decide),fun t ht=>?_⟩
  obtain ⟨X1,e1,s2,h2⟩:=newH ht (.tup [.int (c0 / (5 * i+8) % 4),.int i])
  rw [e1];clear e1
  refine ⟨rw,xs,_,rfl,rfl,s2 _ _ hX,ZBy (by rw [hth.1];omega),_,ks++[c0 / (5 * i+8) % 4],xs++[.ref t],rfl,fun b o hb=>?_,ZAG,by rw [yAJ,hkl];rfl,by rw [yAJ,yAJ,hth.1];rfl,fun j k hj=>?_⟩
  .rw [ZAC (ZAF hb hrw0)]
   exact s2 _ _ (sX _ _ hb)
  .have nt:∀ {b:Addr} {u:List V},X1 b=some (.tup u)->upd X1 rw (.lst (xs++[.ref t])) b=some (.tup u):=fun {b u} h=>by rw [ZAC (fun z=>by rw [z,s2 _ _ hX] at h;cases h)];exact h
   by_cases hl:j < ks.length
   .rw [yAV hl] at hj
    obtain ⟨r,a1,a2⟩:=hth.2 j k hj
    exact ⟨r,by rw [yAV (by rw [hth.1];exact hl)];exact a1,nt (s2 _ _ a2)⟩
   .have e:=(yAR.mp hj).1
    rw [yAJ] at e
    have hj':j=ks.length:=by have:([c0 / (5 * i+8) % 4]:List Int).length=1:=rfl;omega
    subst hj'
    rw [ZCI] at hj
    cases hj
    exact ⟨t,by rw [<- hth.1];exact ZCI _ _ _,nt (by rw [hkl];exact h2)⟩
 rintro σ H2 ⟨v3,ks,xs,rfl,s2,h2,hkl,hth⟩
 have hk:2 <= ks.length /\ ks.length <= 9:=by omega
 clear eN r0 r1 hN hkl s1 h1
 walk_at "rd"
 refine ZAc ?_
 walk_at "rd"
 refine ⟨yAU _,fun lg hlg=>?_⟩
 obtain ⟨H0,e0,s0,hlg0⟩:=newH hlg (.lst [])
 rw [e0];clear e0
 have S0:Same H H0:=s2.trans s0
 have hrwX:=s0 _ _ h2
 have hth0:ZCR H0 ks xs:=⟨hth.1,fun i k h=>by obtain ⟨r,a1,a2⟩:=hth.2 i k h;exact ⟨r,a1,s0 _ _ a2⟩⟩
 have nlgrw:rw≠lg:=ZAF h2 hlg
 refine ZAc ?_
 walk_at "rd"
 have hPt:H0 Pt_teller=some (.tbl #[]):=S0 _ _ (hT _ yAC)
 refine ⟨rfl,.inl hPt,fun g H5 md=>?_⟩
 have nP:∀ b o,H0 b=some o->(∀ t,o≠.tbl t)->b≠Pt_teller:=fun b o h n z=>by rw [z,hPt] at h;exact n _ (Option.some.inj h).symm
 intro ru dr hru hdr nrd
 have hru':upd H5 dr (.own ru) ru=none:=by rw [ZAC (Ne.symm nrd)];exact hru
 have s6:Same H5 (upd (upd H5 dr (.own ru)) ru (.ins C_AskedRule dr [])):=(ZAz hdr _).trans (ZAz hru' _)
 refine ⟨ru,dr,g,rfl,ZAG,fun H7 k7 ir=>⟨rfl,?_⟩⟩
 have k7':∀ b o,H5 b=some o->H7 b=some o:=fun b o h=>k7 b o (ZAF h hru) (s6 _ _ h)
 have u7:∀ b o,H0 b=some o->(∀ t,o≠.tbl t)->H7 b=some o:=fun b o h n=>k7' _ _ (md.same b o (nP b o h n) h)
 have hlg7:=u7 lg _ hlg0 fun _ z=>by cases z
 have hrw7:=u7 rw _ hrwX fun _ z=>by cases z
 have hth7:ZCR H7 ks xs:=⟨hth.1,fun i k h=>by obtain ⟨r,a1,a2⟩:=hth0.2 i k h;exact ⟨r,a1,u7 _ _ a2 fun _ z=>by cases z⟩⟩
 have bs7:Base C_AskedRule H7 ks xs ru g lg rw 0:=⟨ir,md.clo.mono fun b o h=>k7' _ _ h,hrw7,hth7,⟨[],hlg7,rfl⟩⟩
 have hS7:SqL K H7 a (ns.map V.int):=sqL_fr (S:=[Pt_teller]) (fun b o n h=>k7' _ _ (md.same b o (fun z=>n (by rw [z];exact yAC)) (S0 _ _ h))) (fun o ho h z=>by rw [yAF.mp z,hT _ yAC] at h;exact ho _ (Option.some.inj h).symm) hS
 have kH7:∀ b o,b≠Pt_teller->H b=some o->H7 b=some o:=fun b o n h=>k7' _ _ (md.same b o n (S0 _ _ h))
 have scr:∀ X:Hp,(∀ b o,b≠Pt_teller->H b=some o->X b=some o)->SqL K X a (ns.map V.int):=fun X k=>sqL_fr (S:=[Pt_teller]) (fun b o n h=>k b o (fun z=>n (by rw [z];exact yAC)) h) (fun o ho h z=>by rw [yAF.mp z,hT _ yAC] at h;exact ho _ (Option.some.inj h).symm) hS
 have ol7:Ol H7 [ru,lg,rw]:=by
  obtain ⟨d1,f1,e1,_⟩:=ir.ex
  have nlg5:=md.same lg _ (nP lg _ hlg0 fun _ z=>by cases z) hlg0
  have nrw5:=md.same rw _ (nP rw _ hrwX fun _ z=>by cases z) hrwX
  refine ⟨?_,fun b hb=>?_⟩
  .simp only [yAQ,yAA,yAE,or_false,not_or]
   exact ⟨⟨Ne.symm (ZAF nlg5 hru),Ne.symm (ZAF nrw5 hru)⟩,Ne.symm nlgrw,not_false,yBG⟩
  .rcases yAA.mp hb with z | z
   .rw [z];exact ⟨_,e1⟩
   rcases yAA.mp z with z | z
   .rw [z];exact ⟨_,hlg7⟩
   .rw [yAF.mp z];exact ⟨_,hrw7⟩
 clear md k7 s6 hru hru' hdr nrd u7 k7' nP hPt hth7 hrw7 hlg7 ir hth0 hrwX hlg0 s0 S0 hlg h2 hth s2 hS nlgrw hT
 refine ZAc ?_
 walk_at "rd"
 refine ⟨a,ns,1,rfl,hS7,by decide,?_⟩
 generalize cellOf ns 1=c1
 walk_at "rd"
 have hm0:=Int.emod_nonneg c1 (show (41:Int)≠0 by decide)
 refine ⟨by decide,yAU _,fun t0 ht0=>?_⟩
 obtain ⟨Y1,e1,s1,h1⟩:=newH ht0 (.lst [])
 rw [e1];clear e1
 refine ⟨ZAi (by decide),fun sd0 hs0=>?_⟩
 obtain ⟨Y2,e2,s2,h2⟩:=newH hs0 (.lst [.int (c1 % 41),.ref t0])
 rw [e2];clear e2
 refine ⟨yAU _,fun t1 ht1=>?_⟩
 obtain ⟨Y3,e3,s3,h3⟩:=newH ht1 (.lst [])
 rw [e3];clear e3
 refine ⟨ZAi (by decide),fun sd1 hs1=>?_⟩
 obtain ⟨Y4,e4,s4,h4⟩:=newH hs1 (.lst [.non,.ref t1])
 rw [e4];clear e4
 refine ⟨ZAi (by decide),fun sl hsl=>?_⟩
 obtain ⟨Y5,e5,s5,h5⟩:=newH hsl (.lst [.ref sd0,.ref sd1])
 rw [e5];clear e5
 have kO:∀ {X Y:Hp} {L:List Addr},Same X Y->Ol X L->∀ b∈L,∃ o,Y b=some o:=fun s o b hb=>let ⟨u,hu⟩:=o.2 b hb;⟨u,s _ _ hu⟩
 have ol5:Ol Y5 [sl,sd1,t1,sd0,t0,ru,lg,rw]:=by
  have o1:=ol7.new ht0 (kO s1 ol7) ⟨_,h1⟩
  have o2:=o1.new hs0 (kO s2 o1) ⟨_,h2⟩
  have o3:=o2.new ht1 (kO s3 o2) ⟨_,h3⟩
  have o4:=o3.new hs1 (kO s4 o3) ⟨_,h4⟩
  exact o4.new hsl (kO s5 o4) ⟨_,h5⟩
 have S5:Same H7 Y5:=s1.trans (s2.trans (s3.trans (s4.trans s5)))
 have bs5:=bs7.mono S5
 have kH5:∀ b o,b≠Pt_teller->H b=some o->Y5 b=some o:=fun b o n h=>S5 _ _ (kH7 b o n h)
 have hS5:=S5.seq hS7
 have f0:Y5 t0=some (.lst []):=s5 _ _ (s4 _ _ (s3 _ _ (s2 _ _ h1)))
 have f1:Y5 sd0=some (.lst [.int (c1 % 41),.ref t0]):=s5 _ _ (s4 _ _ (s3 _ _ h2))
 have f2:Y5 t1=some (.lst []):=s5 _ _ (s4 _ _ h3)
 have f3:Y5 sd1=some (.lst [.non,.ref t1]):=s5 _ _ h4
 clear s1 s2 s3 s4 s5 h1 h2 h3 h4 ht0 hs0 ht1 hs1 hsl S5 hS7 bs7 ol7 kH7
 have mkA:∀ {Y:Hp} {m:V} {L:List Addr} {Q':Addr->Hp->Prop},Ol Y L->Y rw=some (.lst xs)->(∀ ak rl tl HA,Same Y HA->Ol HA (tl::rl::ak::L)->Ins HA ak C_Asker (fA rl ru m 0 tl)->HA rl=some (.lst xs)->HA tl=some (.lst [])->Q' ak HA)->∀ x dx,Y x=none->Y dx=none->dx≠x->ZAs C_Asker [.ref x,.ref rw,.ref ru,m] (upd (upd Y dx (.own x)) x (.ins C_Asker dx [])) (fun v H2=>v=.non /\ Q' x H2) E0:=fun {Y m L Q'} ol hrw fin x dx hx hdx nxd=>by
  have hx':upd Y dx (.own x) x=none:=by rw [ZAC (Ne.symm nxd)];exact hx
  have sA:Same Y (upd (upd Y dx (.own x)) x (.ins C_Asker dx [])):=(ZAz hdx _).trans (ZAz hx' _)
  refine ⟨x,dx,rw,ru,m,xs,rfl,ZAG,sA _ _ hrw,fun rl tl HA kA nrl ntl nrt ia hrl htl=>⟨rfl,?_⟩⟩
  have S:Same Y HA:=fun b o h=>kA b o (ZAF h hx) (sA _ _ h)
  have hxx:upd (upd Y dx (.own x)) x (.ins C_Asker dx []) x=some (.ins C_Asker dx []):=ZAG
  obtain ⟨d,f,e,_⟩:=ia.ex
  refine fin x rl tl HA S ⟨?_,fun b hb=>?_⟩ ia hrl htl
  .refine yAQ.mpr ⟨fun z=>?_,yAQ.mpr ⟨fun z=>?_,yAQ.mpr ⟨fun z=>?_,ol.1⟩⟩⟩
   .rcases yAA.mp z with z | z
    .exact nrt z.symm
    rcases yAA.mp z with z | z
    .rw [z,hxx] at ntl;cases ntl
    .obtain ⟨u,hu⟩:=ol.2 _ z
     rw [sA _ _ hu] at ntl;cases ntl
   .rcases yAA.mp z with z | z
    .rw [z,hxx] at nrl;cases nrl
    .obtain ⟨u,hu⟩:=ol.2 _ z
     rw [sA _ _ hu] at nrl;cases nrl
   .obtain ⟨u,hu⟩:=ol.2 _ z
    rw [hx] at hu;cases hu
  .rcases yAA.mp hb with z | z
   .rw [z];exact ⟨_,htl⟩
   rcases yAA.mp z with z | z
   .rw [z];exact ⟨_,hrl⟩
   rcases yAA.mp z with z | z
   .rw [z];exact ⟨_,e⟩
   .obtain ⟨u,hu⟩:=ol.2 _ z
    exact ⟨u,S _ _ hu⟩
 refine ZAc ?_
 walk_at "rd"
 refine ZAO (SqL.of h5) ZAa (ZAO (SqL.of f1) ZAa ?_)
 refine mkA ol5 bs5.hrw fun a0 rl0 tl0 Z1 s1 ol1 ia0 hrl0 htl0=>?_
 have bs1:=bs5.mono s1
 refine mkA ol1 bs1.hrw fun a1 rl1 tl1 Z2 s2 ol2 ia1 hrl1 htl1=>⟨ZAi (by decide),fun al hal=>?_⟩
 obtain ⟨Z3,e3,s3,h3⟩:=newH hal (.lst [.ref a0,.ref a1])
 rw [e3];clear e3
 have ol3:=ol2.new hal (kO s3 ol2) ⟨_,h3⟩
 have S3:Same Y5 Z3:=s1.trans (s2.trans s3)
 have bs3:=bs5.mono S3
 have hS3:=S3.seq hS5
 have sl3:=S3 _ _ h5
 have sd03:Side C_Asker Z3 ks xs ru a0 rl0 tl0 sd0 t0 (.int (c1 % 41)) []:=⟨(ia0.mono s2).mono s3,s3 _ _ (s2 _ _ hrl0),⟨[],s3 _ _ (s2 _ _ htl0),rfl,fun j p q h=>by simp at h⟩,S3 _ _ f1,⟨[],S3 _ _ f0,rfl,fun j p q h=>by simp at h⟩,.inr ⟨_,rfl⟩,?_⟩
 rotate_left
 .refine ⟨nd ol5.1 (i:=3) (j:=4) rfl rfl (by decide),?_,?_,?_⟩
  .exact nd ol1.1 (i:=6) (j:=0) rfl rfl (by decide)
  .exact nd ol1.1 (i:=7) (j:=0) rfl rfl (by decide)
  .simp only [yAA,yAE,or_false,not_or]
   exact ⟨nd ol1.1 (i:=1) (j:=0) rfl rfl (by decide),nd ol1.1 (i:=1) (j:=6) rfl rfl (by decide),nd ol1.1 (i:=1) (j:=7) rfl rfl (by decide)⟩
 have sd13:Side C_Asker Z3 ks xs ru a1 rl1 tl1 sd1 t1 .non []:=⟨ia1.mono s3,s3 _ _ hrl1,⟨[],s3 _ _ htl1,rfl,fun j p q h=>by simp at h⟩,S3 _ _ f3,⟨[],S3 _ _ f2,rfl,fun j p q h=>by simp at h⟩,.inl rfl,?_⟩
 rotate_left
 .refine ⟨nd ol5.1 (i:=1) (j:=2) rfl rfl (by decide),?_,?_,?_⟩
  .exact nd ol2.1 (i:=7) (j:=0) rfl rfl (by decide)
  .exact nd ol2.1 (i:=8) (j:=0) rfl rfl (by decide)
  .simp only [yAA,yAE,or_false,not_or]
   exact ⟨nd ol2.1 (i:=1) (j:=0) rfl rfl (by decide),nd ol2.1 (i:=1) (j:=7) rfl rfl (by decide),nd ol2.1 (i:=1) (j:=8) rfl rfl (by decide)⟩
 refine ZAc ?_
 walk_at "rd"
 refine ⟨a,ns,1,rfl,hS3,by decide,?_⟩
 generalize cellOf ns 1=c2
 walk_at "rd"
 refine ⟨⟨by decide,by decide⟩,by decide,?_⟩
 apply once4 (fun (b1 rl2 tl2:Addr) (X:Hp)=>Base C_AskedRule X ks xs ru g lg rw 0 /\ Side C_Asker X ks xs ru a0 rl0 tl0 sd0 t0 (.int (c1 % 41)) [] /\ Side C_Asker X ks xs ru b1 rl2 tl2 sd1 t1 .non [] /\ X sl=some (.lst [.ref sd0,.ref sd1]) /\ X al=some (.lst [.ref a0,.ref b1]) /\ SqL K X a (ns.map V.int) /\ Ol X [al,tl2,rl2,b1,tl0,rl0,a0,sl,sd1,t1,sd0,t0,ru,lg,rw])
 .intro tailp
  by_cases hc:c2 / 41 % 2=1
  .rw [if_pos hc]
   refine mkA ol3 bs3.hrw fun b1 rl2 tl2 Z4 s4 ol4 ia4 hrl4 htl4=>?_
   refine ⟨al,_,_,_,rfl,rfl,s4 _ _ h3,ixN_of (by decide) (by simp),?_⟩
   have hol:Ol Z4 [al,tl2,rl2,b1,tl0,rl0,a0,sl,sd1,t1,sd0,t0,ru,lg,rw]:=by
    refine ⟨?_,fun b hb=>ol4.2 b (by simp only [yAA,yAE,or_false] at hb ⊢;grind)⟩
    have h:=ol4.1
    simp only [yAQ,yAA,yAE,or_false,not_or,yBG,and_true,not_false_eq_true] at h ⊢
    grind
   have S4:Same Y5 Z4:=S3.trans s4
   have F4:Fr [al] Z4 (upd Z4 al (.lst ([V.ref a0,V.ref a1].set (Int.toNat 1) (.ref b1)))):=Fr.upd yAC
   have h4:upd Z4 al (.lst ([V.ref a0,V.ref a1].set (Int.toNat 1) (.ref b1))) al=some (.lst [.ref a0,.ref b1]):=ZAG
   walk_at "rd"
   generalize upd Z4 al (.lst ([V.ref a0,V.ref a1].set (Int.toNat 1) (.ref b1)))=X at F4 h4 ⊢
   have hS4:∀ c∈[al],(∃ l,Z4 c=some (.lst l))∨∃ C d fs,Z4 c=some (.ins C d fs):=fun c hc=>by rw [yAF.mp hc];exact .inl ⟨_,s4 _ _ h3⟩
   have na:∀ {i:Nat} {b:Addr},[al,tl2,rl2,b1,tl0,rl0,a0,sl,sd1,t1,sd0,t0,ru,lg,rw][i+1]?=some b->b∉[al]:=fun {i b} h z=>nd hol.1 (i:=i+1) (j:=0) h rfl (by omega) (yAF.mp z)
   have bs4:=bs5.mono S4
   have olX:Ol X [al,tl2,rl2,b1,tl0,rl0,a0,sl,sd1,t1,sd0,t0,ru,lg,rw]:=⟨hol.1,fun b hb=>by
    by_cases z:b=al
    .rw [z];exact ⟨_,h4⟩
    .obtain ⟨o,ho⟩:=hol.2 b hb
     exact ⟨o,F4 _ _ (fun y=>z (yAF.mp y)) ho⟩⟩
   refine tailp b1 rl2 tl2 X ⟨bs4.fr F4 hS4 (na (i:=11) rfl) (na (i:=13) rfl) (let ⟨ws,e1,e2⟩:=bs4.hlg;⟨ws,F4 _ _ (na (i:=12) rfl) e1,e2⟩),(sd03.mono s4).fr F4 hS4 ⟨na (i:=5) rfl,na (i:=4) rfl,na (i:=3) rfl,na (i:=9) rfl,na (i:=10) rfl⟩,?_,F4 _ _ (na (i:=6) rfl) (s4 _ _ sl3),h4,?_,olX⟩
   .have sd4:Side C_Asker Z4 ks xs ru b1 rl2 tl2 sd1 t1 .non []:=⟨ia4,hrl4,⟨[],htl4,rfl,fun j p q h=>by simp at h⟩,S4 _ _ f3,⟨[],S4 _ _ f2,rfl,fun j p q h=>by simp at h⟩,.inl rfl,nd hol.1 (i:=8) (j:=9) rfl rfl (by decide),nd hol.1 (i:=8) (j:=1) rfl rfl (by decide),nd hol.1 (i:=9) (j:=1) rfl rfl (by decide),by
     simp only [yAA,yAE,or_false,not_or]
     exact ⟨nd hol.1 (i:=2) (j:=1) rfl rfl (by decide),nd hol.1 (i:=2) (j:=8) rfl rfl (by decide),nd hol.1 (i:=2) (j:=9) rfl rfl (by decide)⟩⟩
    exact sd4.fr F4 hS4 ⟨na (i:=2) rfl,na (i:=1) rfl,na (i:=0) rfl,na (i:=7) rfl,na (i:=8) rfl⟩
   .exact scr X fun b o n h=>F4 _ _ (fun z=>ZAF (s2 _ _ (s1 _ _ (kH5 b o n h))) hal (yAF.mp z)) (S4 _ _ (kH5 b o n h))
  .rw [if_neg hc]
   exact tailp a1 rl1 tl1 Z3 ⟨bs3,sd03,sd13,sl3,h3,hS3,ol3⟩
 clear ol3 sd03 sd13 h3 bs3 hS3 sl3 S3 ia0 ia1 hrl0 hrl1 htl0 htl1 hal ol2 ol1 bs1 s1 s2 s3 f0 f1 f2 f3 kH5 scr mkA bs5 hS5 ol5 h5
 rintro b1 rl2 tl2 X ⟨bsX,d0X,d1X,hslX,halX,hSX,olX⟩
 refine ZAc ?_
 walk_at "rd"
 refine ⟨yAU _,fun hd hhd=>?_⟩
 obtain ⟨X1,e1,s1,h1⟩:=newH hhd (.lst [])
 rw [e1];clear e1
 have ol1:=olX.new hhd (kO s1 olX) ⟨_,h1⟩
 have w1:W16 C_Asker C_AskedRule X1 ks xs ru g lg rw a0 rl0 tl0 sd0 t0 b1 rl2 tl2 sd1 t1 sl al hd (.int (c1 % 41)) .non [] [] 0 [] (LL ru lg rw a0 rl0 tl0 sd0 t0 b1 rl2 tl2 sd1 t1 sl al hd):=⟨bsX.mono s1,d0X.mono s1,d1X.mono s1,s1 _ _ hslX,s1 _ _ halX,h1,fun j v h=>by simp at h,ol1.1⟩
 have hS1:=s1.seq hSX
 clear bsX d0X d1X hslX halX hSX olX s1 h1 hhd
 refine ZAc ?_
 walk_at "rd"
 refine slL_of hS1 fun p hp=>?_
 obtain ⟨X2,e2,s2,h2⟩:=newH hp (.lst (cutV (ns.map V.int) (some 2) (some 202)))
 rw [e2];clear e2
 rw [cutV_ints] at h2
 generalize hcs:((ns.drop (HT.sIx ns.length 0 (some 2))).take (HT.sIx ns.length ns.length (some 202)-HT.sIx ns.length 0 (some 2)))=cs at h2
 have hcl:cs.length <= 63:=by rw [<- hcs,List.length_take,List.length_drop];omega
 clear hcs
 have np:p∉LL ru lg rw a0 rl0 tl0 sd0 t0 b1 rl2 tl2 sd1 t1 sl al hd:=fun z=>by obtain ⟨o,ho⟩:=ol1.2 p z;rw [hp] at ho;cases ho
 have hnd:=w1.nd
 simp only [LL,yAQ,yAA,yAE,or_false,not_or,yBG,and_true,not_false_eq_true] at hnd
 refine forL_of (SqL.of h2) (fun i σ Y=>∃ (vk vc:Option V) (m0 m1:V) (pr0 pr1:List (Nat×Nat)) (n:Nat) (hs:List V),σ=[some (.ref a),some (.int c0),some (.ref rw),vk,some (.ref lg),some (.ref ru),some (.ref sl),some (.ref al),some (.ref hd),vc] /\ W16 C_Asker C_AskedRule Y ks xs ru g lg rw a0 rl0 tl0 sd0 t0 b1 rl2 tl2 sd1 t1 sl al hd m0 m1 pr0 pr1 n hs (LL ru lg rw a0 rl0 tl0 sd0 t0 b1 rl2 tl2 sd1 t1 sl al hd) /\ Y p=some (.lst (cs.map V.int)) /\ pr0.length <= i /\ pr1.length <= i /\ n <= i /\ hs.length <= i) ⟨_,_,_,_,[],[],0,[],rfl,w1.mono s2,h2,yAB _,yAB _,yAB _,yAB _⟩ ?_ ?_ ?_
 .rintro i σ Y _ ⟨_,_,_,_,_,_,_,_,_,_,e1,_⟩
  exact SqL.of e1
 .rintro i y σ Y hy ⟨vk,vc,m0,m1,pr0,pr1,n,hs,rfl,w,hpY,l0,l1,ln,lh⟩
  have hi:i < cs.length:=by have:=(yAR.mp hy).1;rw [yAP] at this;exact this
  obtain ⟨c,rfl⟩:∃ c,y=.int c:=by
   rw [yAX,yAT hi] at hy
   exact ⟨_,(Option.some.inj hy).symm⟩
  walk_at "rd"
  refine ⟨by decide,⟨by decide,by decide⟩,?_⟩
  have hkk:c % 3 / 2=0∨c % 3 / 2=1:=by omega
  generalize c % 3 / 2=kk at hkk
  refine ZAc ?_
  walk_at "rd"
  obtain ⟨ak,rk,tk,sk,uk,hak,hsk,hside⟩:∃ ak rk tk sk uk,atI [V.ref a0,V.ref b1] kk=some (.ref ak) /\ atI [V.ref sd0,V.ref sd1] kk=some (.ref sk) /\ ((ak=a0 /\ rk=rl0 /\ tk=tl0 /\ sk=sd0 /\ uk=t0)∨(ak=b1 /\ rk=rl2 /\ tk=tl2 /\ sk=sd1 /\ uk=t1)):=by
   rcases hkk with e | e <;> rw [e]
   .exact ⟨a0,rl0,tl0,sd0,t0,ZAY (by decide) rfl,ZAY (by decide) rfl,.inl ⟨rfl,rfl,rfl,rfl,rfl⟩⟩
   .exact ⟨b1,rl2,tl2,sd1,t1,ZAY (by decide) rfl,ZAY (by decide) rfl,.inr ⟨rfl,rfl,rfl,rfl,rfl⟩⟩
  refine ZAO (SqL.of w.hal) hak ⟨⟨by decide,by decide⟩,ZAO (SqL.of w.hsl) hsk ?_⟩
  have dd:∀ {Q':VK},(∀ Z m0' m1' pr0' pr1' n',W16 C_Asker C_AskedRule Z ks xs ru g lg rw a0 rl0 tl0 sd0 t0 b1 rl2 tl2 sd1 t1 sl al hd m0' m1' pr0' pr1' n' hs (LL ru lg rw a0 rl0 tl0 sd0 t0 b1 rl2 tl2 sd1 t1 sl al hd)->Z p=some (.lst (cs.map V.int))->pr0'.length <= i+1->pr1'.length <= i+1->n' <= i+1->Q' (.bl true) Z)->ZBj C_Asker C_AskedRule [.ref ak,.int (c / 3),.ref rw,.ref sk,.ref lg] Y Q' E0:=fun {Q'} fin=>by
   rcases hside with ⟨rfl,rfl,rfl,rfl,rfl⟩ | ⟨rfl,rfl,rfl,rfl,rfl⟩
   .refine ⟨ks,xs,ru,g,lg,rw,_,_,_,_,_,m0,pr0,n,_,rfl,w.bs,w.d0,?_,?_,?_,hk.1,hk.2,by omega,by omega,fun Z m' pr' n' f b d h1 h2=>fin Z m' m1 pr' pr1 n' (w.deed0 f b d) (f _ _ (fun z=>np (by simp only [LL,yAA,yAE,or_false] at z ⊢;grind)) hpY) (by omega) (by omega) (by omega)⟩
    all_goals (try simp only [yAA,yAE,or_false,not_or])
    all_goals grind
   .refine ⟨ks,xs,ru,g,lg,rw,_,_,_,_,_,m1,pr1,n,_,rfl,w.bs,w.d1,?_,?_,?_,hk.1,hk.2,by omega,by omega,fun Z m' pr' n' f b d h1 h2=>fin Z m0 m' pr0 pr' n' (w.deed1 f b d) (f _ _ (fun z=>np (by simp only [LL,yAA,yAE,or_false] at z ⊢;grind)) hpY) (by omega) (by omega) (by omega)⟩
    all_goals (try simp only [yAA,yAE,or_false,not_or])
    all_goals grind
  refine dd fun Z m0' m1' pr0' pr1' n' wZ hpZ q0 q1 q2=>⟨true,rfl,?_⟩
  clear dd w hpY l0 l1 ln
  rw [if_neg (by decide)]
  refine ZAc ?_
  walk_at "rd"
  refine ⟨⟨by decide,by decide⟩,by decide,?_⟩
  apply once1 (fun (U:Hp)=>∃ hs',W16 C_Asker C_AskedRule U ks xs ru g lg rw a0 rl0 tl0 sd0 t0 b1 rl2 tl2 sd1 t1 sl al hd m0' m1' pr0' pr1' n' hs' (LL ru lg rw a0 rl0 tl0 sd0 t0 b1 rl2 tl2 sd1 t1 sl al hd) /\ U p=some (.lst (cs.map V.int)) /\ hs'.length <= i+1)
  .intro tailp
   by_cases hc:c / 3 % 5=1
   .rw [if_pos hc]
    refine ⟨.inl ⟨rfl,_,SqL.of wZ.hhd⟩,ZAO (SqL.of wZ.hal) hak ?_⟩
    have sideZ:∃ mk prk,Side C_Asker Z ks xs ru ak rk tk sk uk mk prk /\ prk.length <= i+1:=by
     rcases hside with ⟨rfl,rfl,rfl,rfl,rfl⟩ | ⟨rfl,rfl,rfl,rfl,rfl⟩
     .exact ⟨_,_,wZ.d0,q0⟩
     .exact ⟨_,_,wZ.d1,q1⟩
    obtain ⟨mk,prk,sdk,hprk⟩:=sideZ
    obtain ⟨ts,e1,e2⟩:=sdk.htl
    obtain ⟨us,e3,e4⟩:=sdk.ht
    refine sdk.ha.meth (by walk_at "lk") ⟨ak,rk,ru,tk,mk,_,ts,rfl,sdk.ha,e1,fun la Z1 s1 hla h1=>?_⟩
    have wZ1:=wZ.mono s1
    refine ZAO (SqL.of wZ1.hsl) hsk (ZAO (SqL.of (s1 _ _ sdk.hs)) (ZAY (by decide) rfl) ⟨uk,us,rfl,.inl (SqL.of (s1 _ _ e3)),fun lb hlb=>?_⟩)
    obtain ⟨Z2,e5,s2,h2⟩:=newH hlb (.lst us)
    rw [e5];clear e5
    refine ⟨ZAi (by decide),fun u hu=>?_⟩
    obtain ⟨Z3,e6,s3,h3⟩:=newH hu (.tup [.ref la,.ref lb])
    rw [e6];clear e6
    have S3:Same Z Z3:=s1.trans (s2.trans s3)
    have wZ3:=wZ.mono S3
    refine ⟨hd,hs,_,rfl,rfl,wZ3.hhd,ZBy (by omega),?_⟩
    have olZ:∀ b∈LL ru lg rw a0 rl0 tl0 sd0 t0 b1 rl2 tl2 sd1 t1 sl al hd,∃ o,Z b=some o:=fun b hb=>by
     obtain ⟨d1,g1,x1,_⟩:=wZ.bs.hru.ex
     obtain ⟨ws,x2,_⟩:=wZ.bs.hlg
     obtain ⟨d2,g2,x3,_⟩:=wZ.d0.ha.ex
     obtain ⟨y1,x4,_⟩:=wZ.d0.htl
     obtain ⟨y2,x5,_⟩:=wZ.d0.ht
     obtain ⟨d3,g3,x6,_⟩:=wZ.d1.ha.ex
     obtain ⟨y3,x7,_⟩:=wZ.d1.htl
     obtain ⟨y4,x8,_⟩:=wZ.d1.ht
     have x9:=wZ.bs.hrw
     have x10:=wZ.d0.hrl
     have x11:=wZ.d0.hs
     have x12:=wZ.d1.hrl
     have x13:=wZ.d1.hs
     have x14:=wZ.hsl
     have x15:=wZ.hal
     have x16:=wZ.hhd
     simp only [LL,yAA,yAE,or_false] at hb
     rcases hb with z | z | z | z | z | z | z | z | z | z | z | z | z | z | z | z <;> · rw [z];exact ⟨_,by assumption⟩
    have wU:=wZ3.hold (hL:=yAC) h3 (s3 _ _ (s2 _ _ h1)) (s3 _ _ h2) (e2.keep fun _ _ z=>S3 _ _ z) (e4.keep fun _ _ z=>S3 _ _ z) (by omega) (fun z=>by obtain ⟨o,ho⟩:=olZ _ z;rw [hla] at ho;cases ho) (fun z=>by obtain ⟨o,ho⟩:=olZ _ z;rw [s1 _ _ ho] at hlb;cases hlb)
    have hpU:upd Z3 hd (.lst (hs++[.ref u])) p=some (.lst (cs.map V.int)):=by rw [ZAC (fun z=>np (by rw [z];exact yAC))];exact S3 _ _ hpZ
    generalize upd Z3 hd (.lst (hs++[.ref u]))=U at wU hpU ⊢
    exact tailp U ⟨_,wU,hpU,by rw [yAJ];show hs.length+1 <= _;omega⟩
   .rw [if_neg hc]
    exact tailp Z ⟨hs,wZ,hpZ,by omega⟩
  rintro U ⟨hs',wU,hpU,lh'⟩
  refine ZAc ?_
  walk_at "rd"
  obtain ⟨us0,e3,e4⟩:=wU.d0.ht
  obtain ⟨us1,e5,e6⟩:=wU.d1.ht
  refine ZAO (SqL.of wU.hal) ZAa (ZAO (SqL.of wU.hsl) ZAa ⟨a0,rl0,ru,tl0,sd0,t0,m0',us0,rfl,by rw [e4.len];exact wU.d0.ha,wU.d0.hs,e3,wU.d0.hm,by rw [e4.len];omega,true,rfl,?_⟩)
  rw [if_neg (by decide)]
  refine ZAO (SqL.of wU.hal) (ZAY (by decide) rfl) (ZAO (SqL.of wU.hsl) (ZAY (by decide) rfl) ⟨b1,rl2,ru,tl2,sd1,t1,m1',us1,rfl,by rw [e6.len];exact wU.d1.ha,wU.d1.hs,e5,wU.d1.hm,by rw [e6.len];omega,true,rfl,?_⟩)
  rw [if_neg (by decide)]
  exact ⟨_,_,m0',m1',pr0',pr1',n',hs',rfl,wU,hpU,q0,q1,q2,lh'⟩
 rintro σ Y ⟨vk,vc,m0,m1,pr0,pr1,n,hs,rfl,w,hpY,l0,l1,ln,lh⟩
 rw [yAP] at l0 l1 ln lh
 have w0:W16 C_Asker C_AskedRule Y ks xs ru g lg rw a0 rl0 tl0 sd0 t0 b1 rl2 tl2 sd1 t1 sl al hd m0 m1 pr0 pr1 n hs [hd]:=⟨w.bs,w.d0,w.d1,w.hsl,w.hal,w.hhd,fun j v hj=>by
  obtain ⟨u,la,lb,us,vs,pr,e1,e2,e3,e4,e5,e6,e9,e7,e8⟩:=w.hel j v hj
  exact ⟨u,la,lb,us,vs,pr,e1,e2,e3,e4,e5,e6,e9,fun z=>e7 (by rw [yAF.mp z];exact yAC),fun z=>e8 (by rw [yAF.mp z];exact yAC)⟩,w.nd⟩
 clear w
 walk_at "rd"
 have last:∀ {Z:Hp} {hs:List V} {ak rk tk sk uk:Addr} {mk:V} {prk:List (Nat×Nat)} {kk:Int} {M:V->Hp->Prop},W16 C_Asker C_AskedRule Z ks xs ru g lg rw a0 rl0 tl0 sd0 t0 b1 rl2 tl2 sd1 t1 sl al hd m0 m1 pr0 pr1 n hs [hd]->Side C_Asker Z ks xs ru ak rk tk sk uk mk prk->atI [V.ref sd0,V.ref sd1] kk=some (.ref sk)->prk.length <= 500->hs.length <= 500->uk≠hd->(∀ U hs',W16 C_Asker C_AskedRule U ks xs ru g lg rw a0 rl0 tl0 sd0 t0 b1 rl2 tl2 sd1 t1 sl al hd m0 m1 pr0 pr1 n hs' [hd]->hs'.length <= hs.length+1->M .non U) ->
   ZBZ C_Asker [.ref ak] Z (fun x H1=>rIxL K (.ref sl) (.int kk) H1 fun x1 H1=>rIxL K x1 (.int 1) H1 fun x2 H1=>2 <= sizeLine /\ ∀ p,H1 p=none->rAppend (.ref hd) [.ref p] (upd H1 p (.tup [x,x2])) M) E0:=fun {Z hs ak rk tk sk uk mk prk kk M} wZ sdk hsk h1 h2 h3 fin=>by
  obtain ⟨ts,e1,e2⟩:=sdk.htl
  obtain ⟨us,e3,e4⟩:=sdk.ht
  refine ⟨ak,rk,ru,tk,mk,_,ts,rfl,sdk.ha,e1,fun la Z1 s1 hla h4=>ZAO (SqL.of (s1 _ _ wZ.hsl)) hsk (ZAO (SqL.of (s1 _ _ sdk.hs)) (ZAY (by decide) rfl) ⟨ZAi (by decide),fun u hu=>?_⟩)⟩
  obtain ⟨Z3,e6,s3,h5⟩:=newH hu (.tup [.ref la,.ref uk])
  rw [e6];clear e6
  have S3:Same Z Z3:=s1.trans s3
  have wZ3:=wZ.mono S3
  refine ⟨hd,hs,_,rfl,rfl,wZ3.hhd,ZBy (by omega),?_⟩
  have wU:=wZ3.hold (hL:=yAC) h5 (s3 _ _ h4) (S3 _ _ e3) (e2.keep fun _ _ z=>S3 _ _ z) (e4.keep fun _ _ z=>S3 _ _ z) h1 (fun z=>by rw [yAF.mp z,wZ.hhd] at hla;cases hla) (fun z=>h3 (yAF.mp z))
  exact fin _ _ wU (by rw [yAJ];exact yAB _)
 refine ZAc ?_
 walk_at "rd"
 refine ⟨.inl ⟨rfl,_,SqL.of w0.hhd⟩,ZAO (SqL.of w0.hal) ZAa ?_⟩
 refine w0.d0.ha.meth (by walk_at "lk") (last w0 w0.d0 (ZAY (by decide) rfl) (by omega) (by omega) (by grind) fun U hs' wU lh'=>?_)
 walk_at "rd"
 refine ZAc ?_
 walk_at "rd"
 refine ⟨.inl ⟨rfl,_,SqL.of wU.hhd⟩,ZAO (SqL.of wU.hal) (ZAY (by decide) rfl) ?_⟩
 refine wU.d1.ha.meth (by walk_at "lk") (last wU wU.d1 (ZAY (by decide) rfl) (by omega) (by omega) (by grind) fun U2 hs2 wU2 lh2=>?_)
 clear last
 walk_at "rd"
 refine ZAc ?_
 walk_at "rd"
 refine compL_of (SqL.of wU2.hhd) (by omega) (fun i ys σ Y=>∃ v,σ=[v] /\ Y=U2 /\ ys=[]) ⟨_,rfl,rfl,rfl⟩ (fun i ys σ Y _ ⟨_,_,e1,e2⟩=>⟨by rw [e1];exact SqL.of wU2.hhd,by rw [e2];exact yAU _⟩) ?_ ?_
 .rintro i ys y σ Y hi hy ⟨v,rfl,rfl,rfl⟩
  obtain ⟨u,la,lb,us,vs,pr,rfl,e2,e3,e4,e5,e6,e9,_,_⟩:=wU2.hel i y hy
  walk_at "rd"
  refine ZB5 (SqT.of e2) (ZAY (by decide) rfl) (ZB5 (SqT.of e2) (ZAY (by decide) rfl) (told_ne e3 e4 e5 e6 ⟨false,rfl,?_⟩))
  rw [if_neg (by decide)]
  exact Nxt.of hi ⟨_,rfl,rfl,rfl⟩
 rintro ys σ Y' ⟨v,rfl,rfl,rfl⟩ l5 hl5
 obtain ⟨Z5,e5,s9,h5⟩:=newH hl5 (.lst [])
 rw [e5];clear e5
 refine ⟨yAU _,fun l6 hl6=>?_⟩
 obtain ⟨Z6,e6,s10,h6⟩:=newH hl6 (.lst [])
 rw [e6];clear e6
 refine eqD_of Enc.int.list (by decide) (a:=[]) (b:=[]) (dp_ints (xs:=[]) (SqL.of (s10 _ _ h5))) (dp_ints (xs:=[]) (SqL.of h6)) ?_
 rw [decide_eq_true rfl]
 exact q Z6
end
theorem all_mk {l:PySem.W.OpenLaw} {w:World} {K:W.Frag} {h:Heap} {mg:Str->Option Value} {fa C_zaq f_zaf T_zaf f_zac f_zae f_zad C_zap f_zab f_zaa C_HallError C_NoRule C_NoPaper C_NoPlace C_NoKey C_NoRow C_NoOrder C_TooFar C_Spent f_zag f_zai f_zam f_zah f_zak f_zaj f_zan f_zao f_zal cc_zal Pt_zal:Addr} (X:K.In h) (G:h.Ns mainGlobals mg) (hfa:mg "law"=some (.ref fa))
  {ocT_zaf:Value} {odT_zaf:Option Addr} {nT_zaf:Nat} {slT_zaf:Array (Option Value)}
  {od_zaf an_zaf:Option Addr} {sl_zaf:Array (Option Value)} {oc_zaf kV_zaf dc_zaf pm_zaf cd_zaf ct_zaf:Value}
  {od_zac an_zac:Option Addr} {sl_zac:Array (Option Value)} {oc_zac kV_zac dc_zac pm_zac cd_zac ct_zac:Value}
  {od_zae an_zae:Option Addr} {sl_zae:Array (Option Value)} {oc_zae kV_zae dc_zae pm_zae cd_zae ct_zae:Value}
  {od_zad an_zad:Option Addr} {sl_zad:Array (Option Value)} {oc_zad kV_zad dc_zad pm_zad cd_zad ct_zad:Value}
  {od_zab an_zab:Option Addr} {sl_zab:Array (Option Value)} {oc_zab kV_zab dc_zab pm_zab cd_zab ct_zab:Value}
  {od_zaa an_zaa:Option Addr} {sl_zaa:Array (Option Value)} {oc_zaa kV_zaa dc_zaa pm_zaa cd_zaa ct_zaa:Value}
  {od_zag an_zag:Option Addr} {sl_zag:Array (Option Value)} {oc_zag kV_zag dc_zag pm_zag cd_zag ct_zag:Value}
  {od_zai an_zai:Option Addr} {sl_zai:Array (Option Value)} {oc_zai kV_zai dc_zai pm_zai cd_zai ct_zai:Value}
  {od_zam an_zam:Option Addr} {sl_zam:Array (Option Value)} {oc_zam kV_zam dc_zam pm_zam cd_zam ct_zam:Value}
  {od_zah an_zah:Option Addr} {sl_zah:Array (Option Value)} {oc_zah kV_zah dc_zah pm_zah cd_zah ct_zah:Value}
  {od_zak an_zak:Option Addr} {sl_zak:Array (Option Value)} {oc_zak kV_zak dc_zak pm_zak cd_zak ct_zak:Value}
  {od_zaj an_zaj:Option Addr} {sl_zaj:Array (Option Value)} {oc_zaj kV_zaj dc_zaj pm_zaj cd_zaj ct_zaj:Value}
  {od_zan an_zan:Option Addr} {sl_zan:Array (Option Value)} {oc_zan kV_zan dc_zan pm_zan cd_zan ct_zan:Value}
  {od_zao an_zao:Option Addr} {sl_zao:Array (Option Value)} {oc_zao kV_zao dc_zao pm_zao cd_zao ct_zao:Value}
  {oc2_zal:Value} {od2_zal:Option Addr} {vs_zal:Array Value} {sl2_zal:Array (Option Value)}
  {od_zal an_zal:Option Addr} {sl_zal:Array (Option Value)} {oc_zal kV_zal dc_zal pm_zal ct_zal:Value}
  (a_zaq:W.nsIn K mainGlobals "Asker"=some (some (.ref C_zaq)))
  (pg_zaq:PySem.W.plainGet K C_zaq Str.empty=true)
  (hd_zaq:PySem.W.hasDictIn K C_zaq=true)
  (po_zaq:PySem.W.plainOver K C_zaq=true)
  (sa_zaq:W.findIn K (.ref C_zaq) "__setattr__"=some (some (.builtin "object.__setattr__")))
  (mk_zaq:PySem.W.makesIn K C_zaq=true)
  (kc_zaq:W.keepIn K (.ref C_zaq)=true)
  (n_zaq_row:W.findIn K (.ref C_zaq) "row"=some none)
  (n_zaq_rule:W.findIn K (.ref C_zaq) "rule"=some none)
  (n_zaq_most:W.findIn K (.ref C_zaq) "most"=some none)
  (n_zaq_asked:W.findIn K (.ref C_zaq) "asked"=some none)
  (n_zaq_told:W.findIn K (.ref C_zaq) "told"=some none)
  (a_zaf:W.findIn K (.ref C_zaq) "__init__"=some (some (.ref f_zaf)))
  (i_zaf:PySem.W.isFn K (.ref f_zaf)=true)
  (l_zaf:K.lookup f_zaf=some ⟨oc_zaf,od_zaf,.func (W.fnOf "__init__" "Asker.__init__" (ZAN ZAq) (ZAK ZAq) (ZAB ZAq) (.ref T_zaf) kV_zaf dc_zaf pm_zaf an_zaf cd_zaf ct_zaf),sl_zaf⟩)
  (c_zaf:W.codeIn K cd_zaf "Asker.__init__"=true)
  (d_zaf:K.lookup T_zaf=some ⟨ocT_zaf,odT_zaf,.seq ([.none]:List Value).toArray nT_zaf,slT_zaf⟩)
  (k_zaf:W.keepIn K (.ref f_zaf)=true)
  (a_zac:W.findIn K (.ref C_zaq) "answers"=some (some (.ref f_zac)))
  (i_zac:PySem.W.isFn K (.ref f_zac)=true)
  (l_zac:K.lookup f_zac=some ⟨oc_zac,od_zac,.func (W.fnOf "answers" "Asker.answers" (ZAN ZAZ) (ZAK ZAZ) (ZAB ZAZ) .none kV_zac dc_zac pm_zac an_zac cd_zac ct_zac),sl_zac⟩)
  (c_zac:W.codeIn K cd_zac "Asker.answers"=true)
  (k_zac:W.keepIn K (.ref f_zac)=true)
  (a_zae:W.findIn K (.ref C_zaq) "widen"=some (some (.ref f_zae)))
  (i_zae:PySem.W.isFn K (.ref f_zae)=true)
  (l_zae:K.lookup f_zae=some ⟨oc_zae,od_zae,.func (W.fnOf "widen" "Asker.widen" (ZAN ZAj) (ZAK ZAj) (ZAB ZAj) .none kV_zae dc_zae pm_zae an_zae cd_zae ct_zae),sl_zae⟩)
  (c_zae:W.codeIn K cd_zae "Asker.widen"=true)
  (k_zae:W.keepIn K (.ref f_zae)=true)
  (a_zad:W.findIn K (.ref C_zaq) "ahead"=some (some (.ref f_zad)))
  (i_zad:PySem.W.isFn K (.ref f_zad)=true)
  (l_zad:K.lookup f_zad=some ⟨oc_zad,od_zad,.func (W.fnOf "ahead" "Asker.ahead" (ZAN ZAk) (ZAK ZAk) (ZAB ZAk) .none kV_zad dc_zad pm_zad an_zad cd_zad ct_zad),sl_zad⟩)
  (c_zad:W.codeIn K cd_zad "Asker.ahead"=true)
  (k_zad:W.keepIn K (.ref f_zad)=true)
  (a_zap:W.nsIn K mainGlobals "AskedRule"=some (some (.ref C_zap)))
  (pg_zap:PySem.W.plainGet K C_zap Str.empty=true)
  (hd_zap:PySem.W.hasDictIn K C_zap=true)
  (po_zap:PySem.W.plainOver K C_zap=true)
  (sa_zap:W.findIn K (.ref C_zap) "__setattr__"=some (some (.builtin "object.__setattr__")))
  (mk_zap:PySem.W.makesIn K C_zap=true)
  (kc_zap:W.keepIn K (.ref C_zap)=true)
  (n_zap_teller:W.findIn K (.ref C_zap) "teller"=some none)
  (a_zab:W.findIn K (.ref C_zap) "__init__"=some (some (.ref f_zab)))
  (i_zab:PySem.W.isFn K (.ref f_zab)=true)
  (l_zab:K.lookup f_zab=some ⟨oc_zab,od_zab,.func (W.fnOf "__init__" "AskedRule.__init__" (ZAN ZAW) (ZAK ZAW) (ZAB ZAW) .none kV_zab dc_zab pm_zab an_zab cd_zab ct_zab),sl_zab⟩)
  (c_zab:W.codeIn K cd_zab "AskedRule.__init__"=true)
  (k_zab:W.keepIn K (.ref f_zab)=true)
  (a_zaa:W.findIn K (.ref C_zap) "before"=some (some (.ref f_zaa)))
  (i_zaa:PySem.W.isFn K (.ref f_zaa)=true)
  (l_zaa:K.lookup f_zaa=some ⟨oc_zaa,od_zaa,.func (W.fnOf "before" "AskedRule.before" (ZAN ZAQ) (ZAK ZAQ) (ZAB ZAQ) .none kV_zaa dc_zaa pm_zaa an_zaa cd_zaa ct_zaa),sl_zaa⟩)
  (c_zaa:W.codeIn K cd_zaa "AskedRule.before"=true)
  (k_zaa:W.keepIn K (.ref f_zaa)=true)
  (a_HallError:W.nsIn K mainGlobals "HallError"=some (some (.ref C_HallError)))
  (a_NoRule:W.nsIn K mainGlobals "NoRule"=some (some (.ref C_NoRule)))
  (a_NoPaper:W.nsIn K mainGlobals "NoPaper"=some (some (.ref C_NoPaper)))
  (a_NoPlace:W.nsIn K mainGlobals "NoPlace"=some (some (.ref C_NoPlace)))
  (a_NoKey:W.nsIn K mainGlobals "NoKey"=some (some (.ref C_NoKey)))
  (a_NoRow:W.nsIn K mainGlobals "NoRow"=some (some (.ref C_NoRow)))
  (a_NoOrder:W.nsIn K mainGlobals "NoOrder"=some (some (.ref C_NoOrder)))
  (a_TooFar:W.nsIn K mainGlobals "TooFar"=some (some (.ref C_TooFar)))
  (a_Spent:W.nsIn K mainGlobals "Spent"=some (some (.ref C_Spent)))
  (a_zag:W.findIn K (.ref C_Spent) "__init__"=some (some (.ref f_zag)))
  (i_zag:PySem.W.isFn K (.ref f_zag)=true)
  (l_zag:K.lookup f_zag=some ⟨oc_zag,od_zag,.func (W.fnOf "__init__" "Spent.__init__" (ZAN ZAp) (ZAK ZAp) (ZAB ZAp) .none kV_zag dc_zag pm_zag an_zag cd_zag ct_zag),sl_zag⟩)
  (c_zag:W.codeIn K cd_zag "Spent.__init__"=true)
  (k_zag:W.keepIn K (.ref f_zag)=true)
  (xg_Spent:W.findIn K (.ref C_Spent) "__getattribute__"=some (some (.builtin "BaseException.__getattribute__")))
  (xh_Spent:W.findIn K (.ref C_Spent) "__getattr__"=some none)
  (xa_Spent:W.findIn K (.ref C_Spent) "__class__"=some (some (.builtin "object.__class__")))
  (xs_Spent:PySem.W.specialIn K (.builtin "object.__class__") "__get__"=some (some (.builtin "getset_descriptor.__get__")))
  (xt_Spent:PySem.W.takesIn K (.builtin "object.__class__")=some true)
  (xo_Spent:PySem.W.mroIn K C_Spent (.type "object")=some true)
  (xb_Spent:PySem.W.mroIn K C_Spent (.type "BaseException")=some true)
  (xd_Spent:PySem.W.hasDictIn K C_Spent=true)
  (xv_Spent:ZCY K C_Spent=true)
  (xw_Spent:W.findIn K (.ref C_Spent) "__setattr__"=some (some (.builtin "object.__setattr__")))
  (xi_Spent:ZBh K C_Spent f_zag bmV "ValueError.__new__"=true)
  (xp_Spent:W.keepIn K (.ref C_Spent)=true)
  (xm_Spent_HallError:PySem.W.exmOne K (.ref C_Spent) (.ref C_HallError)=some true)
  (n_Spent_asked:W.findIn K (.ref C_Spent) "asked"=some none)
  (xbg_HallError:PySem.W.specialIn K (.ref C_HallError) "__getattribute__"=some (some (.builtin "type.__getattribute__")))
  (xbr_HallError:PySem.W.readsIn K C_HallError (.type "type")=true)
  (xbf_HallError:PySem.W.findCls K (.ref C_HallError) (.type "type") "__init__"=some (.val (.builtin "ValueError.__init__")))
  (a_zai:W.nsIn K mainGlobals "_law_cell_at"=some (some (.ref f_zai)))
  (l_zai:K.lookup f_zai=some ⟨oc_zai,od_zai,.func (W.fnOf "_law_cell_at" "_law_cell_at" (ZAN ZBB) (ZAK ZBB) (ZAB ZBB) .none kV_zai dc_zai pm_zai an_zai cd_zai ct_zai),sl_zai⟩)
  (c_zai:W.codeIn K cd_zai "_law_cell_at"=true)
  (k_zai:W.keepIn K (.ref f_zai)=true)
  (a_zam:W.nsIn K mainGlobals "_law_whole"=some (some (.ref f_zam)))
  (l_zam:K.lookup f_zam=some ⟨oc_zam,od_zam,.func (W.fnOf "_law_whole" "_law_whole" (ZAN ZBT) (ZAK ZBT) (ZAB ZBT) .none kV_zam dc_zam pm_zam an_zam cd_zam ct_zam),sl_zam⟩)
  (c_zam:W.codeIn K cd_zam "_law_whole"=true)
  (k_zam:W.keepIn K (.ref f_zam)=true)
  (a_zah:W.nsIn K mainGlobals "_law_refused"=some (some (.ref f_zah)))
  (l_zah:K.lookup f_zah=some ⟨oc_zah,od_zah,.func (W.fnOf "_law_refused" "_law_refused" (ZAN ZBA) (ZAK ZBA) (ZAB ZBA) .none kV_zah dc_zah pm_zah an_zah cd_zah ct_zah),sl_zah⟩)
  (c_zah:W.codeIn K cd_zah "_law_refused"=true)
  (k_zah:W.keepIn K (.ref f_zah)=true)
  (a_zak:W.nsIn K mainGlobals "_law_stands"=some (some (.ref f_zak)))
  (l_zak:K.lookup f_zak=some ⟨oc_zak,od_zak,.func (W.fnOf "_law_stands" "_law_stands" (ZAN ZBN) (ZAK ZBN) (ZAB ZBN) .none kV_zak dc_zak pm_zak an_zak cd_zak ct_zak),sl_zak⟩)
  (c_zak:W.codeIn K cd_zak "_law_stands"=true)
  (k_zak:W.keepIn K (.ref f_zak)=true)
  (a_zaj:W.nsIn K mainGlobals "_law_widened"=some (some (.ref f_zaj)))
  (l_zaj:K.lookup f_zaj=some ⟨oc_zaj,od_zaj,.func (W.fnOf "_law_widened" "_law_widened" (ZAN ZA9) (ZAK ZA9) (ZAB ZA9) .none kV_zaj dc_zaj pm_zaj an_zaj cd_zaj ct_zaj),sl_zaj⟩)
  (c_zaj:W.codeIn K cd_zaj "_law_widened"=true)
  (k_zaj:W.keepIn K (.ref f_zaj)=true)
  (a_zan:W.nsIn K mainGlobals "_law_deed"=some (some (.ref f_zan)))
  (l_zan:K.lookup f_zan=some ⟨oc_zan,od_zan,.func (W.fnOf "_law_deed" "_law_deed" (ZAN ZBz) (ZAK ZBz) (ZAB ZBz) .none kV_zan dc_zan pm_zan an_zan cd_zan ct_zan),sl_zan⟩)
  (c_zan:W.codeIn K cd_zan "_law_deed"=true)
  (k_zan:W.keepIn K (.ref f_zan)=true)
  (a_zao:W.nsIn K mainGlobals "law"=some (some (.ref f_zao)))
  (l_zao:K.lookup f_zao=some ⟨oc_zao,od_zao,.func (W.fnOf "law" "law" (ZAN ZCC) (ZAK ZCC) (ZAB ZCC) .none kV_zao dc_zao pm_zao an_zao cd_zao ct_zao),sl_zao⟩)
  (c_zao:W.codeIn K cd_zao "law"=true)
  (k_zao:W.keepIn K (.ref f_zao)=true)
  (a_zal:W.nsIn K mainGlobals "_law_teller"=some (some (.ref f_zal)))
  (l_zal:K.lookup f_zal=some ⟨oc_zal,od_zal,.func (W.fnOf "_law_teller" "_law_teller" (ZAN ZBE) (ZAK ZBE) (ZAB ZBE) .none kV_zal dc_zal pm_zal an_zal (.ref cc_zal) ct_zal),sl_zal⟩)
  (c_zal:W.codeIn K (.ref cc_zal) "_law_teller"=true)
  (lc_zal:K.lookup cc_zal=some ⟨oc2_zal,od2_zal,.fields vs_zal,sl2_zal⟩)
  (tp_zal:vs_zal[11]?=some (.ref Pt_zal))
  (k_zal:W.keepIn K (.ref f_zal)=true)
  (z_len:W.nsIn K mainGlobals "len"=some none)
  (z_range:W.nsIn K mainGlobals "range"=some none)
  (z_list:W.nsIn K mainGlobals "list"=some none)
  (z_isinstance:W.nsIn K mainGlobals "isinstance"=some none)
  (z_bool:W.nsIn K mainGlobals "bool"=some none)
  (z_int:W.nsIn K mainGlobals "int"=some none)
  (z_max:W.nsIn K mainGlobals "max"=some none)
  (z_min:W.nsIn K mainGlobals "min"=some none)
  (z_ValueError:W.nsIn K mainGlobals "ValueError"=some none)
  (kit_int_bool:PySem.W.kitOne K (.type "int") (.type "bool")=some false)
  (kit_Spent_ValueError:PySem.W.kitOne K (.ref C_Spent) (.type "ValueError")=some true)
  (kit_Spent_Spent:PySem.W.kitOne K (.ref C_Spent) (.ref C_Spent)=some true)
  (kit_Spent_NoRule:PySem.W.kitOne K (.ref C_Spent) (.ref C_NoRule)=some false)
  (kit_Spent_NoPlace:PySem.W.kitOne K (.ref C_Spent) (.ref C_NoPlace)=some false)
  (kit_Spent_NoKey:PySem.W.kitOne K (.ref C_Spent) (.ref C_NoKey)=some false)
  (kit_Spent_NoRow:PySem.W.kitOne K (.ref C_Spent) (.ref C_NoRow)=some false)
  (kit_Spent_NoOrder:PySem.W.kitOne K (.ref C_Spent) (.ref C_NoOrder)=some false)
  (kit_Spent_TooFar:PySem.W.kitOne K (.ref C_Spent) (.ref C_TooFar)=some false)
  (kit_Spent_NoPaper:PySem.W.kitOne K (.ref C_Spent) (.ref C_NoPaper)=some false)
  (nt:PySem.W.noTabs K=true) :
  ∃ (tabs:List (Addr×Addr)) (fd:FuncData),PySem.W.noTabs K=true /\ (∀ t∈tabs,∃ y∈(["_law_teller"]:List Str),PySem.W.tabIn K y=some t) /\ (∀ (s:Shared) (v:Value),BindsTo s fd ⟨[v],[]⟩ [("_law_script",v)]) /\ ∀ base:Heap,K.In base->base.Ns mainGlobals mg->(∀ t∈tabs,PySem.W.CodeHd base t.1 t.2)->ZCS mg base->FnOk l.prog w K mg base CX0 6 fa fd ["_law_script"] (ZCq K tabs):=by
 have e:=hfa.symm.trans (PySem.W.mg_of X G a_zao)
 cases e
 have cl_zaq:Cls K C_zaq:=⟨pg_zaq,hd_zaq,po_zaq,sa_zaq⟩
 have F_zaf:=funD_mk (st:=ZAq) l_zaf c_zaf k_zaf d_zaf
 have b_zaf_4:=F_zaf.binds (ps:=["self","row","rule","most"]) (ds:=[]) fun _ _ _ _ _ _ _ us hl=>by obtain ⟨_,_,_,_,rfl⟩:=us4 (us_len (n:=4) hl rfl);exact ⟨_,rfl,rfl⟩
 have b_zaf_3:=F_zaf.binds (ps:=["self","row","rule","most"]) (ds:=[.none]) fun _ _ _ _ _ _ _ us hl=>by obtain ⟨_,_,_,rfl⟩:=us3 (us_len (n:=3) hl rfl);exact ⟨_,rfl,rfl⟩
 have F_zac:=ZA1 (st:=ZAZ) l_zac c_zac k_zac
 have b_zac:=F_zac.binds (ps:=["self"]) fun _ _ _ _ _ _ us hl=>by obtain ⟨_,rfl⟩:=us1 hl;rfl
 have F_zae:=ZA1 (st:=ZAj) l_zae c_zae k_zae
 have b_zae:=F_zae.binds (ps:=["self","more"]) fun _ _ _ _ _ _ us hl=>by obtain ⟨_,_,rfl⟩:=us2 hl;rfl
 have F_zad:=ZA1 (st:=ZAk) l_zad c_zad k_zad
 have b_zad:=F_zad.binds (ps:=["self","p","q"]) fun _ _ _ _ _ _ us hl=>by obtain ⟨_,_,_,rfl⟩:=us3 hl;rfl
 have cl_zap:Cls K C_zap:=⟨pg_zap,hd_zap,po_zap,sa_zap⟩
 have F_zab:=ZA1 (st:=ZAW) l_zab c_zab k_zab
 have b_zab:=F_zab.binds (ps:=["self","teller"]) fun _ _ _ _ _ _ us hl=>by obtain ⟨_,_,rfl⟩:=us2 hl;rfl
 have F_zaa:=ZA1 (st:=ZAQ) l_zaa c_zaa k_zaa
 have b_zaa:=F_zaa.binds (ps:=["self","x","y"]) fun _ _ _ _ _ _ us hl=>by obtain ⟨_,_,_,rfl⟩:=us3 hl;rfl
 have F_zag:=ZA1 (st:=ZAp) l_zag c_zag k_zag
 have b_zag:=F_zag.binds (ps:=["self","asked"]) fun _ _ _ _ _ _ us hl=>by obtain ⟨_,_,rfl⟩:=us2 hl;rfl
 have F_zai:=ZA1 (st:=ZBB) l_zai c_zai k_zai
 have b_zai:=F_zai.binds (ps:=["_law_script","_law_k"]) fun _ _ _ _ _ _ us hl=>by obtain ⟨_,_,rfl⟩:=us2 hl;rfl
 have F_zam:=ZA1 (st:=ZBT) l_zam c_zam k_zam
 have b_zam:=F_zam.binds (ps:=["_law_found"]) fun _ _ _ _ _ _ us hl=>by obtain ⟨_,rfl⟩:=us1 hl;rfl
 have F_zah:=ZA1 (st:=ZBA) l_zah c_zah k_zah
 have b_zah:=F_zah.binds (ps:=["_law_asker","_law_p","_law_q","_law_asked"]) fun _ _ _ _ _ _ us hl=>by obtain ⟨_,_,_,_,rfl⟩:=us4 hl;rfl
 have F_zak:=ZA1 (st:=ZBN) l_zak c_zak k_zak
 have b_zak:=F_zak.binds (ps:=["_law_asker","_law_state"]) fun _ _ _ _ _ _ us hl=>by obtain ⟨_,_,rfl⟩:=us2 hl;rfl
 have F_zaj:=ZA1 (st:=ZA9) l_zaj c_zaj k_zaj
 have b_zaj:=F_zaj.binds (ps:=["_law_asker","_law_number","_law_state"]) fun _ _ _ _ _ _ us hl=>by obtain ⟨_,_,_,rfl⟩:=us3 hl;rfl
 have F_zan:=ZA1 (st:=ZBz) l_zan c_zan k_zan
 have b_zan:=F_zan.binds (ps:=["_law_asker","_law_cell","_law_row","_law_state","_law_written"]) fun _ _ _ _ _ _ us hl=>by obtain ⟨_,_,_,_,_,rfl⟩:=us5 hl;rfl
 have F_zao:=ZA1 (st:=ZCC) l_zao c_zao k_zao
 have b_zao:=F_zao.binds (ps:=["_law_script"]) fun _ _ _ _ _ _ us hl=>by obtain ⟨_,rfl⟩:=us1 hl;rfl
 have F_zal:=ZA1 (st:=ZBE) l_zal c_zal k_zal
 have b_zal:=F_zal.binds (ps:=["_law_written"]) fun _ _ _ _ _ _ us hl=>by obtain ⟨_,rfl⟩:=us1 hl;rfl
 have T:Bt K mg C_zaq C_zap C_HallError C_NoRule C_NoPaper C_NoPlace C_NoKey C_NoRow C_NoOrder C_TooFar C_Spent:=⟨PySem.W.mg_none_of X G z_len,PySem.W.mg_none_of X G z_range,PySem.W.mg_none_of X G z_list,PySem.W.mg_none_of X G z_isinstance,PySem.W.mg_none_of X G z_bool,PySem.W.mg_none_of X G z_int,PySem.W.mg_none_of X G z_max,PySem.W.mg_none_of X G z_min,PySem.W.mg_none_of X G z_ValueError,PySem.W.mg_of X G a_zaq,cl_zaq,n_zaq_row,n_zaq_rule,n_zaq_most,n_zaq_asked,n_zaq_told,PySem.W.mg_of X G a_zap,cl_zap,n_zap_teller,PySem.W.mg_of X G a_HallError,PySem.W.mg_of X G a_NoRule,PySem.W.mg_of X G a_NoPaper,PySem.W.mg_of X G a_NoPlace,PySem.W.mg_of X G a_NoKey,PySem.W.mg_of X G a_NoRow,PySem.W.mg_of X G a_NoOrder,PySem.W.mg_of X G a_TooFar,PySem.W.mg_of X G a_Spent,⟨xg_Spent,xh_Spent,xa_Spent,xs_Spent,xt_Spent,xo_Spent,xb_Spent⟩,⟨xd_Spent,xv_Spent,xw_Spent⟩,⟨_,xi_Spent⟩,xm_Spent_HallError,n_Spent_asked,⟨xbg_HallError,xbr_HallError,xbf_HallError⟩,kit_int_bool,kit_Spent_ValueError,kit_Spent_Spent,kit_Spent_NoRule,kit_Spent_NoPlace,kit_Spent_NoKey,kit_Spent_NoRow,kit_Spent_NoOrder,kit_Spent_TooFar,kit_Spent_NoPaper⟩
 refine ⟨[(cc_zal,Pt_zal)],W.fnOf "law" "law" (ZAN ZCC) (ZAK ZCC) (ZAB ZCC) .none kV_zao dc_zao pm_zao an_zao cd_zao ct_zao,nt,List.forall_mem_cons.mpr ⟨⟨"_law_teller",by simp,tabIn_of a_zal l_zal rfl lc_zal tp_zal⟩,fun _ h=>nomatch h⟩,fun s v=>.of_eq rfl,fun base _ _ hC hB=>?_⟩
 have f_zai':Fn l.prog w K mg base CX0 "_law_cell_at" 1 ["_law_script","_law_k"] (ZCr K):=⟨_,_,ok_cell_at F_zai T ,b_zai,k_zai,PySem.W.mg_of X G a_zai⟩
 have f_zal':Fn l.prog w K mg base CX0 "_law_teller" 1 ["_law_written"] (ZCc Pt_zal (ZCy ZAI) "_law_ask" "_law_teller.<locals>._law_ask" (ZAN ZAI) (ZAK ZAI) (ZAB ZAI) ["_law_written"] [0] 1):=⟨_,_,ok_teller F_zal rfl (hC (cc_zal,Pt_zal) (by simp)) hB,b_zal,k_zal,PySem.W.mg_of X G a_zal⟩
 have t_Asker_widen':Mt l.prog w K mg base CX0 C_zaq "widen" 1 ["self","more"] (ZCT C_zaq):=⟨cl_zaq,_,_,ok_Asker_widen F_zae T ,b_zae,a_zae,i_zae,k_zae⟩
 have f_zaj':Fn l.prog w K mg base CX0 "_law_widened" 2 ["_law_asker","_law_number","_law_state"] (ZBR C_zaq):=⟨_,_,ok_widened F_zaj T t_Asker_widen',b_zaj,k_zaj,PySem.W.mg_of X G a_zaj⟩
 have clo_teller':CloOk l.prog w K mg base 1 (ZA4):=clo_teller T
 have t_AskedRule_before':Mt l.prog w K mg base CX0 C_zap "before" 2 ["self","x","y"] (ZBk C_zap ZA4):=⟨cl_zap,_,_,ok_AskedRule_before F_zaa T clo_teller',b_zaa,a_zaa,i_zaa,k_zaa⟩
 have kx_Spent':XKl l.prog w K mg base CX0 "Spent" C_Spent 1 ["self","asked"] (ZBS C_Spent):=⟨PySem.W.mg_of X G a_Spent,_,_,ok_Spent_init F_zag T ,b_zag,xi_Spent,i_zag,xp_Spent⟩
 have t_Asker_ahead':Mt l.prog w K mg base (CXE l.prog w) C_zaq "ahead" 3 ["self","p","q"] (ZCB C_zaq C_zap C_Spent ZA4):=⟨cl_zaq,_,_,ok_Asker_ahead F_zad T t_AskedRule_before' kx_Spent',b_zad,a_zad,i_zad,k_zad⟩
 have h_whole':FnH l.prog w K mg base "_law_whole" 1 ["_law_found"] (ZA8):=⟨_,_,okh_whole F_zam T,b_zam,k_zam,PySem.W.mg_of X G a_zam⟩
 have f_zah':Fn l.prog w K mg base CX0 "_law_refused" 4 ["_law_asker","_law_p","_law_q","_law_asked"] (ZBD C_zaq):=⟨_,_,ok_refused F_zah T t_Asker_ahead' h_whole',b_zah,k_zah,PySem.W.mg_of X G a_zah⟩
 have f_zan':Fn l.prog w K mg base CX0 "_law_deed" 5 ["_law_asker","_law_cell","_law_row","_law_state","_law_written"] (ZBj C_zaq C_zap):=⟨_,_,ok_deed F_zan T f_zaj' f_zah' t_Asker_ahead',b_zan,k_zan,PySem.W.mg_of X G a_zan⟩
 have f_zam':Fn l.prog w K mg base CX0 "_law_whole" 1 ["_law_found"] (ZA8):=⟨_,_,ok_whole F_zam T ,b_zam,k_zam,PySem.W.mg_of X G a_zam⟩
 have f_zak':Fn l.prog w K mg base CX0 "_law_stands" 2 ["_law_asker","_law_state"] (ZBd C_zaq):=⟨_,_,ok_stands F_zak T f_zam',b_zak,k_zak,PySem.W.mg_of X G a_zak⟩
 have t_Asker_answers':Mt l.prog w K mg base CX0 C_zaq "answers" 1 ["self"] (ZBZ C_zaq):=⟨cl_zaq,_,_,ok_Asker_answers F_zac T ,b_zac,a_zac,i_zac,k_zac⟩
 have k_zap':Kl l.prog w K mg base CX0 "AskedRule" C_zap 1 ["self","teller"] (ZBe C_zap):=⟨PySem.W.mg_of X G a_zap,_,_,ok_AskedRule_init F_zab T ,b_zab,mk_zap,a_zab,i_zab,kc_zap⟩
 have k_zaq':Kl l.prog w K mg base CX0 "Asker" C_zaq 1 ["self","row","rule","most"] (ZAs C_zaq):=⟨PySem.W.mg_of X G a_zaq,_,_,ok_Asker_init F_zaf T ,b_zaf_4,mk_zaq,a_zaf,i_zaf,kc_zaq⟩
 have k_zaq_3':KlD l.prog w K mg base CX0 "Asker" C_zaq 1 ["self","row","rule","most"] (ZAs C_zaq) [.non]:=⟨PySem.W.mg_of X G a_zaq,_,_,_,ok_Asker_init F_zaf T ,b_zaf_3,(.cons rfl .nil),mk_zaq,a_zaf,i_zaf,kc_zaq⟩
 exact ok_law F_zao T f_zai' f_zal' f_zan' f_zak' t_Asker_answers' k_zap' k_zaq' k_zaq_3'
end Law
open PySem PySem.W PyProof.Rows
set_option maxRecDepth 100000 in
set_option maxHeartbeats 0 in
theorem PySem.Challenge.cw_sorthall_k16_spent_and_given_more_holds : PySem.Challenge.rw_sorthall_k16_spent_and_given_more.Holds := by
 refine L2.hd0 ?_
 k_fill
 refine L2.walk_ofT2 (l:=PySem.Challenge.rw_sorthall_k16_spent_and_given_more) (k:=6) (x:="_law_script") (names:=["_law_teller"]) rfl rfl ⟨rfl,by decide,by decide⟩ (fun w h Y=>PySem.W.km_in_of Y) (List.forall_mem_cons.mpr ⟨⟨_,rfl⟩,fun _ h=>nomatch h⟩) ?F
 case F=>
  intro w mg fa h KX G hmg
  refine' Law.all_mk KX G hmg ?a_zaq ?pg_zaq ?hd_zaq ?po_zaq ?sa_zaq ?mk_zaq ?kc_zaq ?n_zaq_row ?n_zaq_rule ?n_zaq_most ?n_zaq_asked ?n_zaq_told ?a_zaf ?i_zaf ?l_zaf ?c_zaf ?d_zaf ?k_zaf ?a_zac ?i_zac ?l_zac ?c_zac ?k_zac ?a_zae ?i_zae ?l_zae ?c_zae ?k_zae ?a_zad ?i_zad ?l_zad ?c_zad ?k_zad ?a_zap ?pg_zap ?hd_zap ?po_zap ?sa_zap ?mk_zap ?kc_zap ?n_zap_teller ?a_zab ?i_zab ?l_zab ?c_zab ?k_zab ?a_zaa ?i_zaa ?l_zaa ?c_zaa ?k_zaa ?a_HallError ?a_NoRule ?a_NoPaper ?a_NoPlace ?a_NoKey ?a_NoRow ?a_NoOrder ?a_TooFar ?a_Spent ?a_zag ?i_zag ?l_zag ?c_zag ?k_zag ?xg_Spent ?xh_Spent ?xa_Spent ?xs_Spent ?xt_Spent ?xo_Spent ?xb_Spent ?xd_Spent ?xv_Spent ?xw_Spent ?xi_Spent ?xp_Spent ?xm_Spent_HallError ?n_Spent_asked ?xbg_HallError ?xbr_HallError ?xbf_HallError ?a_zai ?l_zai ?c_zai ?k_zai ?a_zam ?l_zam ?c_zam ?k_zam ?a_zah ?l_zah ?c_zah ?k_zah ?a_zak ?l_zak ?c_zak ?k_zak ?a_zaj ?l_zaj ?c_zaj ?k_zaj ?a_zan ?l_zan ?c_zan ?k_zan ?a_zao ?l_zao ?c_zao ?k_zao ?a_zal ?l_zal ?c_zal ?lc_zal ?tp_zal ?k_zal ?z_len ?z_range ?z_list ?z_isinstance ?z_bool ?z_int ?z_max ?z_min ?z_ValueError ?kit_int_bool ?kit_Spent_ValueError ?kit_Spent_Spent ?kit_Spent_NoRule ?kit_Spent_NoPlace ?kit_Spent_NoKey ?kit_Spent_NoRow ?kit_Spent_NoOrder ?kit_Spent_TooFar ?kit_Spent_NoPaper ?nt
  (case a_zaq=>k_is)
  (case pg_zaq=>k_is)
  (case hd_zaq=>k_is)
  (case po_zaq=>k_is)
  (case sa_zaq=>k_is)
  (case mk_zaq=>k_is)
  (case kc_zaq=>k_is)
  (case n_zaq_row=>k_is)
  (case n_zaq_rule=>k_is)
  (case n_zaq_most=>k_is)
  (case n_zaq_asked=>k_is)
  (case n_zaq_told=>k_is)
  (case a_zaf=>k_is)
  (case i_zaf=>k_is)
  (case l_zaf=>k_is)
  (case c_zaf=>k_is)
  (case d_zaf=>k_is)
  (case k_zaf=>k_is)
  (case a_zac=>k_is)
  (case i_zac=>k_is)
  (case l_zac=>k_is)
  (case c_zac=>k_is)
  (case k_zac=>k_is)
  (case a_zae=>k_is)
  (case i_zae=>k_is)
  (case l_zae=>k_is)
  (case c_zae=>k_is)
  (case k_zae=>k_is)
  (case a_zad=>k_is)
  (case i_zad=>k_is)
  (case l_zad=>k_is)
  (case c_zad=>k_is)
  (case k_zad=>k_is)
  (case a_zap=>k_is)
  (case pg_zap=>k_is)
  (case hd_zap=>k_is)
  (case po_zap=>k_is)
  (case sa_zap=>k_is)
  (case mk_zap=>k_is)
  (case kc_zap=>k_is)
  (case n_zap_teller=>k_is)
  (case a_zab=>k_is)
  (case i_zab=>k_is)
  (case l_zab=>k_is)
  (case c_zab=>k_is)
  (case k_zab=>k_is)
  (case a_zaa=>k_is)
  (case i_zaa=>k_is)
  (case l_zaa=>k_is)
  (case c_zaa=>k_is)
  (case k_zaa=>k_is)
  (case a_HallError=>k_is)
  (case a_NoRule=>k_is)
  (case a_NoPaper=>k_is)
  (case a_NoPlace=>k_is)
  (case a_NoKey=>k_is)
  (case a_NoRow=>k_is)
  (case a_NoOrder=>k_is)
  (case a_TooFar=>k_is)
  (case a_Spent=>k_is)
  (case a_zag=>k_is)
  (case i_zag=>k_is)
  (case l_zag=>k_is)
  (case c_zag=>k_is)
  (case k_zag=>k_is)
  (case xg_Spent=>k_is)
  (case xh_Spent=>k_is)
  (case xa_Spent=>k_is)
  (case xs_Spent=>k_is)
  (case xt_Spent=>k_is)
  (case xo_Spent=>k_is)
  (case xb_Spent=>k_is)
  (case xd_Spent=>k_is)
  (case xv_Spent=>kernel_rfl)
  (case xw_Spent=>k_is)
  (case xi_Spent=>kernel_rfl)
  (case xp_Spent=>k_is)
  (case xm_Spent_HallError=>kts_exm)
  (case n_Spent_asked=>k_is)
  (case xbg_HallError=>k_is)
  (case xbr_HallError=>k_is)
  (case xbf_HallError=>k_is)
  (case a_zai=>k_is)
  (case l_zai=>k_is)
  (case c_zai=>k_is)
  (case k_zai=>k_is)
  (case a_zam=>k_is)
  (case l_zam=>k_is)
  (case c_zam=>k_is)
  (case k_zam=>k_is)
  (case a_zah=>k_is)
  (case l_zah=>k_is)
  (case c_zah=>k_is)
  (case k_zah=>k_is)
  (case a_zak=>k_is)
  (case l_zak=>k_is)
  (case c_zak=>k_is)
  (case k_zak=>k_is)
  (case a_zaj=>k_is)
  (case l_zaj=>k_is)
  (case c_zaj=>k_is)
  (case k_zaj=>k_is)
  (case a_zan=>k_is)
  (case l_zan=>k_is)
  (case c_zan=>k_is)
  (case k_zan=>k_is)
  (case a_zao=>k_is)
  (case l_zao=>k_is)
  (case c_zao=>k_is)
  (case k_zao=>k_is)
  (case a_zal=>k_is)
  (case l_zal=>k_is)
  (case c_zal=>k_is)
  (case lc_zal=>k_is)
  (case tp_zal=>rfl)
  (case k_zal=>k_is)
  (case z_len=>k_is)
  (case z_range=>k_is)
  (case z_list=>k_is)
  (case z_isinstance=>k_is)
  (case z_bool=>k_is)
  (case z_int=>k_is)
  (case z_max=>k_is)
  (case z_min=>k_is)
  (case z_ValueError=>k_is)
  (case kit_int_bool=>kit_is)
  (case kit_Spent_ValueError=>kit_is)
  (case kit_Spent_Spent=>kit_is)
  (case kit_Spent_NoRule=>kit_is)
  (case kit_Spent_NoPlace=>kit_is)
  (case kit_Spent_NoKey=>kit_is)
  (case kit_Spent_NoRow=>kit_is)
  (case kit_Spent_NoOrder=>kit_is)
  (case kit_Spent_TooFar=>kit_is)
  (case kit_Spent_NoPaper=>kit_is)
  (case nt=>kernel_rfl)
