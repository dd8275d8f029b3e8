import PyProof.Rows.All
import Wide.All
import OpenK.AllK
import Wide.FinOn
import Lean
import PyProof.EqAt
import PyProof.EqKinds
import PyProof.TupleCall
import KE.KRevIter
import PyProof.CollectIter
import PyProof.SumWalkG
import KE.KDictOf
import PyProof.IsiH_list
import PyProof.RaisesAny
import PyProof.P3In
import PyProof.Rows.SortRuns
import PyProof.Rows.SortShell
import KE.KSortTup
import PySem.Challenge.RW_sorthall_k57_whatever_the_rule_tells
local macro_rules | `(tactic| omega)=>`(tactic| first | with_reducible assumption | lia | omega (splitDisjunctions:=true))
set_option Elab.async false
set_option linter.all false
set_option maxRecDepth 100000
open Nat renaming le_refl→yAA,zero_le→yAH,le_trans→yAI,ne_of_lt→yAM,lt_of_lt_of_le→yAP,sub_self→yAY,le_succ→yAZ,pow_succ→yBH,le_of_lt→yBI,lt_irrefl→yBO,lt_succ_self→yBP,one_le_two_pow→yBS
open List renaming length_append→yAB,mem_cons_of_mem→yAC,length_map→yAD,mem_cons_self→yAE,mem_cons→yAF,length_cons→yAG,getElem?_eq_some_iff→yAJ,size_toArray→yAK,append_assoc→yAL,length_singleton→yAN,mem_of_getElem?→yAO,getElem?_map→yAQ,getElem?_eq_getElem→yAR,mem_singleton→yAS,map_append→yAT,getElem?_append_left→yAU,mem_append_right→yAV,map_cons→yAX,getD_eq_getElem?_getD→yBA,length_take→yBB,mem_append→yBC,getElem?_append_right→yBD,length_drop→yBE,append_nil→yBF,not_mem_nil→yBG,getElem?_eq_none→yBJ,mem_append_left→yBK,lookup_cons→yBL,mem_map→yBM,length_range'→yBN,length_replicate→yBQ,length_nil→yBR
open Bool renaming false_ne_true→yAW
namespace L2
open PySem PySem.W
theorem left_boot {p q:Program} {loose:List Str} {Xt:Shared->Bool} {α:Type} {Yf:Shared->α} {Ya:World->α} {N:Nat} {g0:Bool}
  (open_:∀ w:World,(fencedOpening treeTable p w N).map (fun s=>(s.heap,s.gens,s.drawn,s.toks))=some (boot_heap w.params,Array.mk [],boot_drawn,boot_toks))
  (h:∀ (w:World) (os:OsState),(topFrom treeTable p w N ⟨boot_heap w.params,Array.mk [],boot_drawn,boot_toks,os⟩).map (fun s=>(openSeen q loose (importedModules p.main.body) Xt g0 s,Yf s))=some (openGood q loose,Ya w)):LeftO p q loose Xt Yf Ya N g0:=fun w=>by
 obtain ⟨⟨hh,gs,d,k,os⟩,e,e'⟩:=Option.map_eq_some_iff.mp (open_ w)
 obtain ⟨rfl,rfl,rfl,rfl⟩:hh=boot_heap w.params /\ gs=Array.mk [] /\ d=boot_drawn /\ k=boot_toks:=by simpa using e'
 unfold openEnds
 rw [e]
 exact h w os
theorem left_two {p q:Program} {loose:List Str} {Xt:Shared->Bool} {α:Type} {Yf:Shared->α} {Ya:World->α} {N:Nat} {g0:Bool}
  (open_:∀ w:World,(fencedOpening treeTable p w N).map (fun s=>(s.heap,s.gens,s.drawn,s.toks))=some (boot_heap w.params,Array.mk [],boot_drawn,boot_toks))
  (h1:∀ (w:World) (os:OsState),(topFrom treeTable p w N ⟨boot_heap w.params,Array.mk [],boot_drawn,boot_toks,os⟩).map (fun s=>openSeen q loose (importedModules p.main.body) Xt g0 s)=some (openGood q loose))
  (h2:∀ (w:World) (os:OsState),(topFrom treeTable p w N ⟨boot_heap w.params,Array.mk [],boot_drawn,boot_toks,os⟩).map (fun s=>Yf s)=some (Ya w)):LeftO p q loose Xt Yf Ya N g0 :=
 left_boot open_ fun w os=>by
  have a:=h1 w os
  have b:=h2 w os
  generalize topFrom treeTable p w N ⟨boot_heap w.params,Array.mk [],boot_drawn,boot_toks,os⟩=r at a b
  cases r with
  | none=>cases a
  | some s=>exact congrArg some (Prod.ext (Option.some.inj a) (Option.some.inj b))
noncomputable def s0B (w:World) (os:OsState):Shared:=⟨boot_heap w.params,Array.mk [],boot_drawn,boot_toks,os⟩
def ofLB:List Obj->Nat->BT->BT
 | [],_,t=>t
 | o::r,n,t=>ofLB r (n+1) (t.ins n o)
noncomputable def sTB (w:World) (os:OsState):SharedT:=⟨ofLB (boot_heap w.params).objs.toList 0 .nil,(boot_heap w.params).objs.size,(boot_heap w.params).life,Array.mk [],boot_drawn,boot_toks,os⟩
noncomputable def topRunQ (p:Program) (w:World) (n₀:Nat) (ann:Option Value):Nat->SharedT->Thread->Option SharedT
 | 0,_,_=>none
 | n+1,s,t=>match through t with
  | true=>some s
  | false=>match PySem.W.Fast.tw6613529449190102663 n₀ ann t with
   | false=>none
   | true=>match PySem.W.Fast.tw10156331382660048174 (PySem.W.Fast.tw11892475500146522536 PySem.W.Fast.tw14364793385576792824) p w s t with
    | some (s',t')=>topRunQ p w n₀ ann n s' t'
    | none=>none
theorem topRunQ_spec {p:Program} {w:World} {n₀:Nat} {ann:Option Value}:∀ {n:Nat} {s s':SharedT} {t:Thread},topRunQ p w n₀ ann n s t=some s'->topRun treeTable p w n₀ ann n s.abs t=some s'.abs
 | 0,_,_,_,h=>by cases h
 | n+1,s,s',t,h=>by
  unfold topRunQ at h
  rw [<- PySem.W.Fast.te6613529449190102663,<- PySem.W.Fast.te10156331382660048174,<- PySem.W.Fast.te11892475500146522536,<- PySem.W.Fast.te14364793385576792824] at h
  unfold topRun
  cases he:through t with
  | true=>rw [he] at h;cases h;rfl
  | false=>
   rw [he] at h
   cases hk:stepOk n₀ ann t with
   | false=>rw [hk] at h;cases h
   | true=>
    rw [hk] at h
    cases hs:stepT (denote treeTable) p w s t with
    | none=>rw [hs] at h;cases h
    | some r=>obtain ⟨s₂,t₂⟩:=r;rw [hs] at h;rw [stepT_spec hs];exact topRunQ_spec h
set_option maxHeartbeats 0 in
theorem sTB_abs:∀ (w:World) (os:OsState),(sTB w os).abs=s0B w os:=by
 intro w os
 kernel_rfl
set_option maxHeartbeats 0 in
theorem s0B_ns:∀ (w:World) (os:OsState),((s0B w os).heap.isNs mainGlobals && (s0B w os).gens.size == 0)=true:=by
 intro w os
 kernel_rfl
def topOkB (p:Program) (s₀ s₁:Shared):Bool:=staticsOk (importedModules p.main.body) s₀.heap s₁.heap && namesBound p s₁.heap && gensDone s₁ && laidKept s₀.heap s₁.heap
theorem via_tree {α:Type} {p:Program} {N:Nat} {F:Shared->α} {G:α} (w:World) (os:OsState)
  (h:(topRunQ p w (s0B w os).heap.objs.size ((s0B w os).heap.nsMap mainGlobals "__annotations__") N (sTB w os) (topStub p)).map (fun s=>(topOkB p (s0B w os) s.abs,F s.abs))=some (true,G)):(topFrom treeTable p w N ⟨boot_heap w.params,Array.mk [],boot_drawn,boot_toks,os⟩).map F=some G:=by
 obtain ⟨s',e1,e2⟩:=Option.map_eq_some_iff.mp h
 have r:=topRunQ_spec e1
 rw [sTB_abs] at r
 obtain ⟨e3,e4⟩:=Prod.mk.inj e2
 show (topFrom treeTable p w N (s0B w os)).map F=some G
 unfold topFrom
 rw [s0B_ns w os]
 dsimp only
 rw [r,Option.bind_some]
 unfold topOkB at e3
 rw [e3]
 exact congrArg some e4
def vw (p:Program) (ix:List Nat):Program:={ p with main:={ p.main with body:=ix.filterMap fun i=>p.main.body[i]? } }
def Vw:Program:=vw PySem.Challenge.pw_sorthall_k57_whatever_the_rule_tells [0,2,4,5,6,7,8,11,13,16,18,20,21,23,25,26,28,29,30,31,32]
set_option maxHeartbeats 0 in
theorem seen1:∀ (w:World) (os:OsState),(topFrom treeTable PySem.Challenge.pw_sorthall_k57_whatever_the_rule_tells w 5690 ⟨boot_heap w.params,Array.mk [],boot_drawn,boot_toks,os⟩).map (fun s=>openSeen L2.Vw (["stretch_from","filled"]:List Str) (importedModules PySem.Challenge.pw_sorthall_k57_whatever_the_rule_tells.main.body) (fun s=>xlAt L2.Vw [] s && recOk (RowW.records (OpenRow.toRowW (OpenLaw.row PySem.Challenge.rw_sorthall_k57_whatever_the_rule_tells))) s) true s)=some (openGood L2.Vw (["stretch_from","filled"]:List Str)):=by
 intro w os
 refine via_tree w os ?_
 rw [PySem.W.Fast.te4187177175401517315]
 kernel_rfl
local macro_rules | `(tactic| o_law)=>`(tactic| refine holds_law (by decide +kernel) fun said=>?_)
set_option hygiene false in
local macro_rules | `(tactic| o_head $H)=>`(tactic| (refine holds_open (q:=L2.Vw) (loose:=(["stretch_from","filled"]:List Str)) (Xt:=fun s=>xlAt L2.Vw [] s && recOk (RowW.records _) s) (XP:=XL L2.Vw []) (Yf:=Hook.obs $H) (Ya:=Hook.val $H) (YP:=Hook.says $H) (N:=5690) ?hl (Hook.of $H) (Hook.keeps $H) (fun s e=>xl_of s (Bool.and_eq_true_iff.mp e).1) XL.keeps (by rfl) (by rfl) (by rfl) (fun s e=>recFacts_of (Bool.and_eq_true_iff.mp e).2) (by rfl) (by first | assumption | decide +kernel) (by decide +kernel) ⟨rfl,rfl,rfl,rfl,rfl,by decide +kernel⟩ ?hw ?hc;(case hl=>(refine L2.left_two (PySem.W.boot_open (by rfl) (by decide) (fun s=>rfl)) (fun w os=>?h1) (fun w os=>?h2);(case h1=>exact L2.seen1 w os);(case h2=>(refine L2.via_tree w os ?_;kernel_rfl))))))
set_option maxHeartbeats 0 in
open_top hd0 for PySem.Challenge.rw_sorthall_k57_whatever_the_rule_tells
end L2
namespace L2
open PySem PySem.Spec PyProof.Rows
abbrev Key:=Sum Int Str
def keyIs:Key->Value->Bool
 | .inl k,v=>Value.isInt k v
 | .inr x,v=>Value.isStrOf x v
def keyH (w:World):Key->Int
 | .inl k=>hashInt k
 | .inr x=>hashStr w x
theorem ZAy:∀ {k:Key} {v:Value},keyIs k v=true->(∃ i t,k=Sum.inl i /\ v=Value.int i t)∨(∃ x t,k=Sum.inr x /\ v=Value.str x t)
 | .inl i,v,h=>by
  obtain ⟨t,e⟩:=Value.isInt_shape (k:=i) (v:=v) h
  exact .inl ⟨i,t,rfl,e⟩
 | .inr x,v,h=>by
  obtain ⟨t,e⟩:=Value.isStrOf_shape (x:=x) (v:=v) h
  exact .inr ⟨x,t,rfl,e⟩
theorem key_ll (a b:Int):decide ((Sum.inl a:Key)=Sum.inl b)=(a == b):=by
 by_cases e:a=b
 .subst e;simp
 .have h:¬ (Sum.inl a:Key)=Sum.inl b:=fun q=>e (Sum.inl.inj q)
  rw [decide_eq_false h]
  exact (beq_eq_false_iff_ne.mpr e).symm
theorem key_rr (a b:Str):decide ((Sum.inr a:Key)=Sum.inr b)=decide (a=b):=by
 by_cases e:a=b
 .subst e;simp
 .have h:¬ (Sum.inr a:Key)=Sum.inr b:=fun q=>e (Sum.inr.inj q)
  rw [decide_eq_false h,decide_eq_false e]
theorem key_lr (a:Int) (b:Str):decide ((Sum.inl a:Key)=Sum.inr b)=false:=decide_eq_false (fun q=>nomatch q)
theorem key_rl (a:Str) (b:Int):decide ((Sum.inr a:Key)=Sum.inl b)=false:=decide_eq_false (fun q=>nomatch q)
def mixKind (prog:Program) (w:World):PySem.KeyKind prog w Key where
 is:=keyIs
 hash:=keyH w
 inj:=fun v a b ha hb=>by
  rcases ZAy ha with ⟨i,t,rfl,rfl⟩ | ⟨x,t,rfl,rfl⟩
  .rcases ZAy hb with ⟨j,u,rfl,e⟩ | ⟨y,u,rfl,e⟩
   .injection e with e1 _;rw [e1]
   .exact nomatch e
  .rcases ZAy hb with ⟨j,u,rfl,e⟩ | ⟨y,u,rfl,e⟩
   .exact nomatch e
   .injection e with e1 _;rw [e1]
 byValue:=fun k v h=>by
  rcases ZAy h with ⟨i,t,rfl,rfl⟩ | ⟨x,t,rfl,rfl⟩ <;> rfl
 pyHash:=fun hv h=>by
  rcases ZAy hv with ⟨i,t,rfl,rfl⟩ | ⟨x,t,rfl,rfl⟩
  .exact wpAny_pyHash_int h
  .exact wpAny_pyHash_str h
 eqBool:=fun hu hv h=>by
  rcases ZAy hu with ⟨i,t,rfl,rfl⟩ | ⟨x,t,rfl,rfl⟩
  .rcases ZAy hv with ⟨j,u,rfl,rfl⟩ | ⟨y,u,rfl,rfl⟩
   .rw [key_ll] at h;exact wpAny_eqBool_int h
   .rw [key_lr] at h;exact SeqAt.EqAt.int_str i t y u _ _ _ _ h
  .rcases ZAy hv with ⟨j,u,rfl,rfl⟩ | ⟨y,u,rfl,rfl⟩
   .rw [key_rl] at h;exact SeqAt.EqAt.str_int x t j u _ _ _ _ h
   .rw [key_rr] at h;exact wpAny_eqBool_str h
 «strs»:=fun k x t v h=>by
  rcases ZAy h with ⟨i,u,rfl,e⟩ | ⟨y,u,rfl,e⟩
  .exact nomatch e
  .injection e with e1 _
   subst e1
   cases v <;> rfl
inductive V where
 | non | bl (b:Bool) | int (i:Int) | str (x:Str) | byt (b:Array UInt8) | flt (b:UInt64) | ref (a:Addr) | ty (n:String)
 deriving DecidableEq
def RelV:V->Value->Prop
 | .non,u=>u=Value.none
 | .bl b,u=>u=Value.bool b
 | .int i,u=>∃ t,u=Value.int i t
 | .str x,u=>∃ t,u=Value.str x t
 | .byt b,u=>∃ t,u=Value.bytes b t
 | .flt b,u=>∃ t,u=Value.float b t
 | .ref a,u=>u=Value.ref a
 | .ty n,u=>u=Value.type n
abbrev Vals:List V->List Value->Prop:=Paired RelV
theorem Vals.length {xs:List V} {us:List Value} (r:Vals xs us):xs.length=us.length:=Paired.length r
theorem Vals.get:∀ {xs:List V} {us:List Value} {i:Nat} {x:V},Vals xs us->xs[i]?=some x->∃ u,us[i]?=some u /\ RelV x u
 | _,_,_,_,.nil,e=>by simp at e
 | _,_,0,_,.cons r _,e=>by simp at e;subst e;exact ⟨_,rfl,r⟩
 | _,_,i+1,x,.cons _ t,e=>by
  obtain ⟨u,h1,h2⟩:=Vals.get (i:=i) (x:=x) t (by simpa using e)
  exact ⟨u,by simpa using h1,h2⟩
theorem Vals.set {x:V} {u:Value} (r:RelV x u):∀ {xs:List V} {us:List Value} (i:Nat),Vals xs us->Vals (xs.set i x) (us.set i u)
 | _,_,_,.nil=>.nil
 | _,_,0,.cons _ t=>.cons r t
 | _,_,i+1,.cons q t=>.cons q (Vals.set r i t)
theorem Vals.append:∀ {xs ys:List V} {us ws:List Value},Vals xs us->Vals ys ws->Vals (xs++ys) (us++ws)
 | _,_,_,_,.nil,s=>s
 | _,_,_,_,.cons r t,s=>.cons r (Vals.append t s)
theorem Vals.take:∀ {xs:List V} {us:List Value} (n:Nat),Vals xs us->Vals (xs.take n) (us.take n)
 | _,_,0,_=>.nil
 | _,_,_+1,.nil=>.nil
 | _,_,n+1,.cons r t=>.cons r (Vals.take n t)
theorem Vals.drop:∀ {xs:List V} {us:List Value} (n:Nat),Vals xs us->Vals (xs.drop n) (us.drop n)
 | _,_,0,r=>r
 | _,_,_+1,.nil=>.nil
 | _,_,n+1,.cons _ t=>Vals.drop n t
def RelO:Option V->Option Value->Prop
 | some v,some u=>RelV v u
 | none,none=>True
 | _,_=>False
def KV {κ:Type}:List (κ×V)->List (κ×Value)->Prop:=Paired fun (p:κ×V) (q:κ×Value)=>p.1=q.1 /\ RelV p.2 q.2
def kV:Key->V
 | .inl i=>.int i
 | .inr x=>.str x
inductive HO where
 | lst (xs:List V)
 | tup (xs:List V)
 | dK (kvs:List (Key×V)) | dT (kvs:List (List Key×V))
 | set (S:Int->Bool) (n:Nat)
 | ins (C dx:Addr) (fs:List (Str×V))
 | own (x:Addr)
 | xd (fs:List (Str×V))
 | met (f x:Addr)
 | rng (lo hi:Int)
 | frz (o:Obj) (u:HO)
 | tbl (ps:Array Value)
 | ext (φ:Heap->Prop)
abbrev Hp:=Addr->Option HO
def upd (H:Hp) (a:Addr) (o:HO):Hp:=fun b=>if b=a then some o else H b
theorem ZAH {H:Hp} {a:Addr} {o:HO}:upd H a o a=some o:=by unfold upd;rw [if_pos rfl]
theorem ZAF {H:Hp} {a b:Addr} {o:HO} (h:b≠a):upd H a o b=H b:=by unfold upd;rw [if_neg h]
theorem upd_upd {H:Hp} {a:Addr} {o u:HO}:upd (upd H a o) a u=upd H a u:=by
 funext b;unfold upd;split <;> rfl
theorem ZAD {H:Hp} {a b:Addr} {o:HO} (h:H a=some o) (h':H b=none):a≠b:=by
 intro e;subst e;rw [h] at h';cases h'
section
variable (P:Program) (w:World)
def ObjOk (H:Hp) (h:Heap) (a:Addr):HO->Prop
 | .lst xs=>xs.length <= sizeLine /\ ∃ (its:List Value) (n:Nat),Vals xs its /\ h.get? a=some { cls:=.type "list",data:=.seq its.toArray n }
 | .tup xs=>xs.length <= sizeLine /\ ∃ its:List Value,Vals xs its /\ IsTup h a its.toArray
 | .dK kvs=>kvs.length <= sizeLine /\ (a == sysModules)=false /\ ∃ vs,KV kvs vs /\ h.DictOf (mixKind P w) a vs
 | .dT kvs=>kvs.length <= sizeLine /\ (a == sysModules)=false /\ ∃ xs:List (List Key×Addr×Value),
   Paired (fun (p:List Key×V) (q:List Key×Addr×Value)=>p.1=q.1 /\ H q.2.1=some (.tup (p.1.map kV)) /\ RelV p.2 q.2.2) kvs xs /\
   ∃ o es ep,h.get? a=some o /\ o.ExactDict /\ o.data=.dict es ep /\ es.toList=xs.map (entryOfKey (tupleKind (mixKind P w))) /\ (xs.map (·.1)).Nodup
 | .set S n=>h.SetOf (intKind P w) a S n
 | .ins C dx fs=>H dx=some (.own a) /\ fs.length <= 1000 /\ dx≠a /\ h.get? a=some (PySem.W.instObj C dx) /\
   ∃ mA,h.Ns1 dx mA /\ (∀ f,RelO (fs.lookup f) (mA f)) /\ PySem.Within mA (fs.map (·.1))
 | .own _=>∃ o,h.get? a=some o
 | .xd fs=>∃ mA,h.Ns1 a mA /\ ∀ f,RelO (fs.lookup f) (mA f)
 | .rng lo hi=>∃ t u v,h.get? a=some { cls:=.type "range",data:=.fields #[.int lo t,.int hi u,.int 1 v] }
 | .frz o u=>h.get? a=some o /\ ObjOk H h a u
 | .tbl ps=>h.get? a=some { cls:=.none,data:=.fields ps }
 | .met f x=>h.get? a=some (PySem.W.methodObj (.ref f) (.ref x))
 | .ext φ=>φ h /\ (∃ o,h.get? a=some o) /\ ∀ h1 h2:Heap,φ h1->(∀ o,h1.get? a=some o->h2.get? a=some o)->φ h2
def HOk (H:Hp) (h:Heap):Prop:=∀ a o,H a=some o->ObjOk P w H h a o
end
section
variable {P:Program} {w:World} {H H':Hp} {h h':Heap} {a:Addr} {o:HO}
theorem ObjOk.lt (x:ObjOk P w H h a o):a < h.objs.size:=by
 cases o with
 | lst xs=>obtain ⟨_,_,_,_,e⟩:=x;exact Heap.lt_size e
 | tup xs=>obtain ⟨_,_,_,p⟩:=x;exact p.lt
 | dK kvs=>obtain ⟨_,_,_,_,o,_,_,e,_⟩:=x;exact Heap.lt_size e
 | dT kvs=>obtain ⟨_,_,_,_,o,_,_,e,_⟩:=x;exact Heap.lt_size e
 | set S n=>obtain ⟨o,_,_,_,e,_⟩:=x;exact Heap.lt_size e
 | ins C dx fs=>obtain ⟨_,_,_,e,_⟩:=x;exact Heap.lt_size e
 | own y=>obtain ⟨_,e⟩:=x;exact Heap.lt_size e
 | xd fs=>obtain ⟨_,⟨_,_,_,e,_⟩,_⟩:=x;exact Heap.lt_size e
 | rng lo hi=>obtain ⟨_,_,_,e⟩:=x;exact Heap.lt_size e
 | frz ob u=>obtain ⟨e,_⟩:=x;exact Heap.lt_size e
 | tbl ps=>exact Heap.lt_size (show h.get? a=some _ from x)
 | met f y=>exact Heap.lt_size (show h.get? a=some _ from x)
 | ext φ=>obtain ⟨_,⟨_,e⟩,_⟩:=x;exact Heap.lt_size e
theorem Paired.mapP {α β:Type} {F G:α->β->Prop}:∀ {l₁:List α} {l₂:List β},Paired F l₁ l₂->(∀ a b,F a b->G a b)->Paired G l₁ l₂
 | _,_,.nil,_=>.nil
 | _,_,.cons r t,f=>.cons (f _ _ r) (Paired.mapP t f)
theorem ObjOk.stay (x:ObjOk P w H h a o) (k:∀ b u,(b=a∨H b=some (.own a))->h.get? b=some u->h'.get? b=some u)
  (ho:∀ b,H b=some (.own a)->H' b=some (.own a)) (ht:∀ b xs,H b=some (.tup xs)->H' b=some (.tup xs)):ObjOk P w H' h' a o:=by
 induction o with
 | lst xs=>obtain ⟨z,its,n,r,e⟩:=x;exact ⟨z,its,n,r,k _ _ (.inl rfl) e⟩
 | tup xs=>obtain ⟨z,its,r,ob,e,c⟩:=x;exact ⟨z,its,r,ob,k _ _ (.inl rfl) e,c⟩
 | dK kvs=>obtain ⟨z,y,vs,r,ob,es,ep,e,c⟩:=x;exact ⟨z,y,vs,r,ob,es,ep,k _ _ (.inl rfl) e,c⟩
 | dT kvs=>
  obtain ⟨z,y,xs,r,ob,es,ep,e,c⟩:=x
  exact ⟨z,y,xs,Paired.mapP r fun p q z=>⟨z.1,ht _ _ z.2.1,z.2.2⟩,ob,es,ep,k _ _ (.inl rfl) e,c⟩
 | set S n=>obtain ⟨ob,es,ep,t,e,c⟩:=x;exact ⟨ob,es,ep,t,k _ _ (.inl rfl) e,c⟩
 | ins C dx fs=>
  obtain ⟨d,z,ne,e,mA,⟨od,es,ep,e2,c⟩,r⟩:=x
  exact ⟨ho _ d,z,ne,k _ _ (.inl rfl) e,mA,⟨od,es,ep,k _ _ (.inr d) e2,c⟩,r⟩
 | own y=>obtain ⟨ob,e⟩:=x;exact ⟨ob,k _ _ (.inl rfl) e⟩
 | xd fs=>obtain ⟨mA,⟨od,es,ep,e,c⟩,r⟩:=x;exact ⟨mA,⟨od,es,ep,k _ _ (.inl rfl) e,c⟩,r⟩
 | rng lo hi=>obtain ⟨t,u,v,e⟩:=x;exact ⟨t,u,v,k _ _ (.inl rfl) e⟩
 | frz ob u ih=>obtain ⟨e,q⟩:=x;exact ⟨k _ _ (.inl rfl) e,ih q⟩
 | tbl ps=>
  have e:h.get? a=some { cls:=.none,data:=.fields ps }:=x
  show h'.get? a=some { cls:=.none,data:=.fields ps }
  exact k a _ (.inl rfl) e
 | met f y=>
  have e:h.get? a=some (PySem.W.methodObj (.ref f) (.ref y)):=x
  show h'.get? a=some (PySem.W.methodObj (.ref f) (.ref y))
  exact k a _ (.inl rfl) e
 | ext φ=>obtain ⟨p,⟨o,e⟩,st⟩:=x;exact ⟨st _ _ p fun o q=>k _ _ (.inl rfl) q,⟨o,k _ _ (.inl rfl) e⟩,st⟩
theorem HOk.lt (x:HOk P w H h) (e:H a=some o):a < h.objs.size:=(x a o e).lt
theorem HOk.fresh (x:HOk P w H h) (e:h.objs.size <= a):H a=none:=by
 cases q:H a with
 | none=>rfl
 | some u=>exact absurd (yAP (x.lt q) e) (yBO _)
theorem HOk.kept (x:HOk P w H h) (k:∀ b u,h.get? b=some u->h'.get? b=some u):HOk P w H h':=fun a o e=>
 (x a o e).stay (fun b u _ q=>k b u q) (fun _ q=>q) fun _ _ q=>q
theorem HOk.laid (x:HOk P w H h) (k:∀ b u,h.get? b=some u->h'.get? b=some u) (hp:h.objs.size <= a) (new:ObjOk P w (upd H a o) h' a o):HOk P w (upd H a o) h':=fun b u e=>by
 have hn:=x.fresh hp
 by_cases hb:b=a
 .subst hb;rw [ZAH] at e;cases e;exact new
 .rw [ZAF hb] at e
  exact (x b u e).stay (fun c v _ q=>k c v q) (fun c q=>by rw [ZAF (ZAD q hn)];exact q) fun c xs q=>by rw [ZAF (ZAD q hn)];exact q
end
def Rd (H:Hp) (a:Addr) (u:HO):Prop:=H a=some u∨∃ o,H a=some (.frz o u)
theorem Rd.ok {P:Program} {w:World} {H:Hp} {h:Heap} {a:Addr} {u:HO} (r:Rd H a u) (x:HOk P w H h):ObjOk P w H h a u:=by
 rcases r with r | ⟨o,r⟩
 .exact x a u r
 .obtain ⟨_,q⟩:=x a _ r
  exact q
def Mut:Option HO->Prop
 | some (.lst _)=>True
 | some (.dK _)=>True
 | some (.dT _)=>True
 | some (.set _ _)=>True
 | some (.ins _ _ _)=>True
 | some (.ext _)=>True
 | _=>False
section
variable {P:Program} {w:World} {H:Hp} {h h':Heap} {x e:Addr} {o':HO}
theorem HOk.write (ok:HOk P w H h) (mu:Mut (H x)) (he:e=x∨H e=some (.own x)) (k:∀ b u,b≠e->h.get? b=some u->h'.get? b=some u) (heo:∃ u,h'.get? e=some u)
  (new:ObjOk P w (upd H x o') h' x o'):HOk P w (upd H x o') h':=fun b u q=>by
 have nown:∀ c y,H c=some (.own y)->c≠x:=fun c y r z=>by subst z;rw [r] at mu;exact mu
 have ntup:∀ c xs,H c=some (.tup xs)->c≠x:=fun c xs r z=>by subst z;rw [r] at mu;exact mu
 by_cases hb:b=x
 .subst hb;rw [ZAH] at q;cases q;exact new
 .rw [ZAF hb] at q
  by_cases hbe:b=e
  .have q':H b=some (.own x):=by
    rcases he with z | z
    .exact absurd (hbe.trans z) hb
    .rw [hbe];exact z
   rw [q] at q';cases q'
   obtain ⟨v,hv⟩:=heo
   exact ⟨v,by rw [hbe];exact hv⟩
  .refine (ok b u q).stay (fun c v hc r=>k c v ?_ r) (fun c r=>by rw [ZAF (nown c b r)];exact r) fun c xs r=>by rw [ZAF (ntup c xs r)];exact r
   rcases hc with rfl | hc
   .exact hbe
   .rintro rfl
    rcases he with z | z
    .exact nown c b hc z
    .rw [hc] at z;cases z;exact hb rfl
end
structure Un (fs ex:List Addr) (H H':Hp) (h h':Heap):Prop where
 keep:∀ b o,h.get? b=some o->H b=none->b∉fs->b∉ex->h'.get? b=some o
 slot:∀ b o,h.get? b=some o->H b=none->b∈fs->b∉ex->∃ sl,h'.get? b=some { o with slots:=sl }
 free:∀ b o,h.get? b=some o->H b=none->b∉ex->H' b=none
 there:∀ b o,h.get? b=some o->b∉ex->∃ o',h'.get? b=some o'
 tups:∀ b xs,H b=some (.tup xs)->H' b=some (.tup xs)
 frzs:∀ b o u,H b=some (.frz o u)->H' b=some (.frz o u)
 tbls:∀ b ps,H b=some (.tbl ps)->∃ more,H' b=some (.tbl (ps++more))
section
variable {fs fs' ex ex':List Addr} {H H1 H2:Hp} {h h1 h2 h':Heap} {a x e:Addr} {o:HO}
theorem Un.any (u:Un fs ex H H1 h h1) {b:Addr} {ob:Obj} (q:h.get? b=some ob) (n:H b=none) (hx:b∉ex):∃ sl,h1.get? b=some { ob with slots:=sl }:=by
 by_cases hb:b∈fs
 .exact u.slot b ob q n hb hx
 .exact ⟨ob.slots,u.keep b ob q n hb hx⟩
theorem Un.kept (k:∀ b u,h.get? b=some u->h'.get? b=some u):Un fs ex H H h h' :=
 ⟨fun b ob q _ _ _=>k b ob q,fun b ob q _ _ _=>⟨ob.slots,k b ob q⟩,fun _ _ _ n _=>n,fun b ob q _=>⟨ob,k b ob q⟩,fun _ _ q=>q,fun _ _ _ q=>q,fun _ ps q=>⟨#[],by rw [q];simp⟩⟩
theorem Un.refl:Un fs ex H H h h:=Un.kept fun _ _ q=>q
theorem Un.laid (k:∀ b u,h.get? b=some u->h'.get? b=some u) (hp:h.objs.size <= a) (hn:H a=none):Un fs ex H (upd H a o) h h' where
 keep:=fun b u q _ _ _=>k b u q
 slot:=fun b u q _ _ _=>⟨u.slots,k b u q⟩
 free:=fun b u q n _=>by rw [ZAF (yAM (yAP (Heap.lt_size q) hp))];exact n
 there:=fun b u q _=>⟨u,k b u q⟩
 tups:=fun b xs q=>by rw [ZAF (ZAD q hn)];exact q
 frzs:=fun b u xs q=>by rw [ZAF (ZAD q hn)];exact q
 tbls:=fun b ps q=>⟨#[],by rw [ZAF (ZAD q hn),q];simp⟩
theorem Un.write (mu:Mut (H x)) (he:e=x∨H e=some (.own x)) (k:∀ b u,b≠e->h.get? b=some u->h'.get? b=some u) (heo:∃ u,h'.get? e=some u):Un fs ex H (upd H x o) h h':=by
 have hx:∀ b,H b=none->b≠x:=fun b n z=>by subst z;rw [n] at mu;exact mu
 have hb:∀ b,H b=none->b≠e:=fun b n z=>by
  subst z
  rcases he with r | r
  .exact hx b n r
  .rw [n] at r;cases r
 have hm:∀ b u,H b=some u->¬ Mut (some u)->b≠x:=fun b u q nm z=>by subst z;rw [q] at mu;exact nm mu
 refine ⟨fun b u q n _ _=>k b u (hb b n) q,fun b u q n _ _=>⟨u.slots,k b u (hb b n) q⟩,fun b u q n _=>by rw [ZAF (hx b n)];exact n,fun b u q _=>?_,
  fun b xs q=>by rw [ZAF (hm b _ q fun z=>z)];exact q,fun b u xs q=>by rw [ZAF (hm b _ q fun z=>z)];exact q,fun b ps q=>⟨#[],by rw [ZAF (hm b _ q fun z=>z),q];simp⟩⟩
 by_cases hbe:b=e
 .subst hbe;exact heo
 .exact ⟨u,k b u hbe q⟩
end
def trk (h:Heap) (H:Hp):List Addr:=(List.range h.objs.size).filter fun a=>(H a).isSome
def hidT (h:Heap) (H:Hp):Heap:=PySem.W.hideAll h (trk h H)
theorem hidT_size (h:Heap) (H:Hp):(hidT h H).objs.size=h.objs.size:=PySem.W.hideAll_size _ _
theorem hidT_get {h:Heap} {H:Hp} {b:Addr} {o:Obj} (e:h.get? b=some o) (n:H b=none):(hidT h H).get? b=some o :=
 PySem.W.hideAll_get _ e fun hm=>by
  have q:(H b).isSome=true:=(List.mem_filter.mp hm).2
  rw [n] at q;simp at q
theorem of_hidT {h:Heap} {H:Hp} {b:Addr} {o:Obj} (e:(hidT h H).get? b=some o):h.get? b=some o /\ H b=none:=by
 have e':h.get? b=some o:=PySem.W.of_hideAll (trk h H) e
 refine ⟨e',?_⟩
 cases q:H b with
 | none=>rfl
 | some x=>
  have hm:b∈trk h H:=List.mem_filter.mpr ⟨List.mem_range.mpr (Heap.lt_size e'),by simp [q]⟩
  have z:(hidT h H).get? b=none:=PySem.W.hideAll_none (trk h H) hm
  rw [z] at e;cases e
structure Mod (K:W.Frag) (mg:Str->Option Value) (base:Heap):Prop where
 kin:K.In base
 glob:base.Ns mainGlobals mg
 blt:∃ mb,base.Ns builtinsNs mb /\ ∀ x:Str,x≠"__name__"->mb x=bootBuiltins x
 nolimit:base.NoLimit
structure Cx where
 prog:Program
 w:World
 K:W.Frag
 mg:Str->Option Value
 base:Heap
 A:Around
 N:List Str
 s₀:Shared
 H₀:Hp
 env:Env
 outer:List Env
 stack:List Env
 ex:List Addr
 fn:Str->Bool
 calm:Bool
 pn:List (Addr×Obj)
 xe:Value->Shared->Prop
def frs (l:List Env):List Addr:=l.filterMap (·.frame)
abbrev Cx.fs (X:Cx):List Addr:=frs X.outer
def Vis (sc:Scope) (x:Str):Prop:=sc.names.lookup x=some .local∨sc.names.lookup x=some .cell∨sc.names.lookup x=some .free
def Loc (sc:Scope) (x:Str):Prop:=sc.names.lookup x=some .local∨sc.names.lookup x=some .cell
def Look (env:Env) (h:Heap) (m:Str->Option Value) (x:Str) (u:Value):Prop :=
 (env.kindOf x=some .local /\ m x=some u)∨((env.kindOf x=some .cell∨env.kindOf x=some .free) /\ ∃ c,env.cells.lookup x=some c /\ h.IsCell c (some u))
structure Cx.Ok (X:Cx):Prop where
 mod:Mod X.K X.mg X.base
 kind:X.env.scope.kind=.function
 glob:X.env.globals=mainGlobals
 blt:X.env.builtins=builtinsNs
 above:X.s₀.heap.objs.size <= X.env.locals
 inj:∀ x y c,X.env.cells.lookup x=some c->X.env.cells.lookup y=some c->x=y
 has:∀ x,(X.env.kindOf x=some .cell∨X.env.kindOf x=some .free)->∃ c,X.env.cells.lookup x=some c
 cab:∀ x c,X.fn x=true->X.env.cells.lookup x=some c->X.s₀.heap.objs.size <= c
 hd:X.calm=true->X.A.handled=none
 frames:X.A.frames=some X.stack
 stk:X.stack=X.outer∨(X.stack=X.env::X.outer /\ X.env.frame=some X.env.locals)
 exf:∀ b∈X.ex,b≠X.env.locals /\ ∀ x c,X.env.cells.lookup x=some c->c≠b
 bs:∀ b o,X.base.get? b=some o->X.s₀.heap.get? b=some o /\ X.H₀ b=none
 bsz:X.base.objs.size <= X.s₀.heap.objs.size
 noex:∀ b o,X.base.get? b=some o->b∉X.ex
 exfs:∀ b∈X.ex,b∉X.fs
 funs:X.s₀.heap.FunFrames X.base X.outer
 frf:∀ b∈X.fs,X.H₀ b=none
structure Inv (X:Cx) (pins:List (Addr×Obj)) (σ:List (Option V)) (H:Hp) (s:Shared):Prop where
 ok:X.Ok
 os:s.os=X.s₀.os
 bare:AllBare s.gens
 base:Un X.fs X.ex X.H₀ H X.s₀.heap s.heap
 loc:∃ m,s.heap.Ns X.env.locals m /\ ∀ (i:Nat) (x:Str) (v:V),X.N[i]?=some x->σ[i]?=some (some v)->Vis X.env.scope x->∃ u,RelV v u /\ Look X.env s.heap m x u
 cell:∀ x c,X.env.cells.lookup x=some c->∃ v,s.heap.IsCell c v
 free:H X.env.locals=none
 freeC:∀ x c,X.env.cells.lookup x=some c->H c=none
 pin:∀ p∈X.pn++pins,s.heap.get? p.1=some p.2 /\ H p.1=none /\ p.1≠X.env.locals /\ p.1∉X.fs /\ ∀ v,p.2.data≠.cell v
 hok:HOk X.prog X.w H s.heap
 len:σ.length=X.N.length
section
variable {X:Cx} {pins:List (Addr×Obj)} {σ:List (Option V)} {H H':Hp} {s:Shared} {h':Heap}
theorem Cx.Ok.nofr (ok:X.Ok) {b:Addr} {o:Obj} (e:X.base.get? b=some o):b∉X.fs:=fun hb=>by
 have:=(ok.funs.mem hb).1
 rw [e] at this;cases this
theorem Inv.bs (I:Inv X pins σ H s):∀ b o,X.base.get? b=some o->s.heap.get? b=some o /\ H b=none:=fun b o e=>
 ⟨I.base.keep b o (I.ok.bs b o e).1 (I.ok.bs b o e).2 (I.ok.nofr e) (I.ok.noex b o e),I.base.free b o (I.ok.bs b o e).1 (I.ok.bs b o e).2 (I.ok.noex b o e)⟩
theorem Inv.bk (I:Inv X pins σ H s):∀ b o,X.base.get? b=some o->s.heap.get? b=some o:=fun b o e=>(I.bs b o e).1
theorem Inv.mod (I:Inv X pins σ H s):Mod X.K X.mg X.base:=I.ok.mod
theorem Inv.kIn (I:Inv X pins σ H s):X.K.In s.heap:=I.ok.mod.kin.keeps I.bk
theorem Inv.lt (I:Inv X pins σ H s):X.env.locals < s.heap.objs.size:=let ⟨_,hn,_⟩:=I.loc;hn.lt
theorem Inv.sz (I:Inv X pins σ H s):X.s₀.heap.objs.size <= s.heap.objs.size:=yAI I.ok.above (yBI I.lt)
theorem Inv.nofs (I:Inv X pins σ H s) {a:Addr} (h:s.heap.objs.size <= a):a∉X.fs:=fun hb=>by
 obtain ⟨_,o,ho,_⟩:=I.ok.funs.mem hb
 exact absurd (yAP (Heap.lt_size ho) (yAI I.sz h)) (yBO _)
theorem Inv.cne (I:Inv X pins σ H s):∀ x c,X.env.cells.lookup x=some c->c≠X.env.locals:=fun x c e z=>by
 obtain ⟨v,o,ho,hd⟩:=I.cell x c e
 obtain ⟨m,⟨o',es,ep,ho',hd',_⟩,_⟩:=I.loc
 rw [z,ho'] at ho;cases ho;rw [hd'] at hd;cases hd
theorem Inv.funs (I:Inv X pins σ H s):s.heap.FunFrames X.base X.outer:=by
 have all:∀ (l:List Env),(∀ b∈frs l,b∈X.fs)->X.s₀.heap.FunFrames X.base l->s.heap.FunFrames X.base l:=by
  intro l
  induction l with
  | nil=>intro _ _;trivial
  | cons env r ih=>
   intro hs hl
   obtain ⟨hk,⟨L,o,hf,hn,ho,hd⟩,hr⟩:=hl
   have hL:L∈X.fs:=hs L (by unfold frs;rw [List.filterMap_cons,hf];exact yAE)
   obtain ⟨sl,e⟩:=I.base.slot L o ho (I.ok.frf L hL) hL fun z=>I.ok.exfs L z hL
   exact ⟨hk,⟨L,_,hf,hn,e,hd⟩,ih (fun b hb=>hs b (by unfold frs;rw [List.filterMap_cons,hf];exact yAC _ hb)) hr⟩
 exact all X.outer (fun _ hb=>hb) I.ok.funs
theorem Inv.stack (I:Inv X pins σ H s):s.heap.FunFrames X.base X.stack:=by
 rcases I.ok.stk with e | ⟨e,hf⟩
 .rw [e];exact I.funs
 .rw [e]
  obtain ⟨m,hn,_⟩:=I.loc
  refine .cons (by rw [I.ok.kind];decide) hf hn ?_ I.funs
  exact Heap.get?_none_of_le (yAI I.ok.bsz I.ok.above)
theorem Inv.stkSub (I:Inv X pins σ H s):∀ b∈frs X.stack,b∈X.env.locals::X.fs:=fun b hb=>by
 rcases I.ok.stk with e | ⟨e,hf⟩
 .rw [e] at hb;exact yAC _ hb
 .rw [e] at hb
  unfold frs at hb
  rw [List.filterMap_cons,hf] at hb
  exact hb
theorem Inv.stkFree (I:Inv X pins σ H s):∀ b∈frs X.stack,H b=none:=fun b hb=>by
 rcases yAF.mp (I.stkSub b hb) with e | hb
 .rw [e];exact I.free
 .obtain ⟨_,o,ho,_⟩:=I.ok.funs.mem hb
  exact I.base.free b o ho (I.ok.frf b hb) fun z=>I.ok.exfs b z hb
theorem Inv.step {g':Array GenState} {t':Nat} {d':Drawn} {ch:List Addr} (I:Inv X pins σ H s)
  (hch:∀ b∈ch,(b∈X.ex∨X.s₀.heap.objs.size <= b) /\ b≠X.env.locals /\ (∀ x c,X.env.cells.lookup x=some c->c≠b) /\ ∀ p∈X.pn++pins,p.1≠b)
  (keep:∀ b o,b≠X.env.locals->b∉X.fs->b∉ch->s.heap.get? b=some o->H b=none->h'.get? b=some o)
  (slot:∀ b o,b≠X.env.locals->b∈X.fs->b∉ch->s.heap.get? b=some o->H b=none->∃ sl,h'.get? b=some { o with slots:=sl }) (free:∀ b o,b∉ch->s.heap.get? b=some o->H b=none->H' b=none)
  (there:∀ b o,b∉ch->s.heap.get? b=some o->∃ o',h'.get? b=some o')
  (tups:∀ b xs,H b=some (.tup xs)->H' b=some (.tup xs)) (frzs:∀ b o u,H b=some (.frz o u)->H' b=some (.frz o u)) (tbls:∀ b ps,H b=some (.tbl ps)->∃ more,H' b=some (.tbl (ps++more)))
  (ns:∀ m,s.heap.Ns X.env.locals m->h'.Ns X.env.locals m) (hok:HOk X.prog X.w H' h') (hg:AllBare g') :
  Inv X pins σ H' { s with heap:=h',gens:=g',drawn:=d',toks:=t' }:=by
 have neL:∀ b o,X.s₀.heap.get? b=some o->b≠X.env.locals:=fun b o e=>yAM (yAP (Heap.lt_size e) I.ok.above)
 have neC:∀ b o,X.s₀.heap.get? b=some o->b∉X.ex->b∉ch:=fun b o e hx hb=>by
  rcases (hch b hb).1 with z | z
  .exact hx z
  .exact absurd (yAP (Heap.lt_size e) z) (yBO _)
 have cellK:∀ x c,X.env.cells.lookup x=some c->∀ v,s.heap.IsCell c v->h'.IsCell c v:=fun x c e v ⟨o,ho,hd⟩=>by
  have nch:c∉ch:=fun z=>(hch c z).2.2.1 x c e rfl
  by_cases hc:c∈X.fs
  .obtain ⟨sl,q⟩:=slot c o (I.cne x c e) hc nch ho (I.freeC x c e)
   exact ⟨_,q,hd⟩
  .exact ⟨o,keep c o (I.cne x c e) hc nch ho (I.freeC x c e),hd⟩
 refine ⟨I.ok,I.os,hg,⟨fun b o e n hb hx=>?_,fun b o e n hb hx=>?_,fun b o e n hx=>?_,fun b o e hx=>?_,fun b xs e=>tups b xs (I.base.tups b xs e),fun b o xs e=>frzs b o xs (I.base.frzs b o xs e),fun b ps e=>?_⟩,?_,fun x c e=>?_,?_,fun x c e=>?_,fun p hp=>?_,hok,I.len⟩
 .exact keep b o (neL b o e) hb (neC b o e hx) (I.base.keep b o e n hb hx) (I.base.free b o e n hx)
 .obtain ⟨sl,e1⟩:=I.base.slot b o e n hb hx
  obtain ⟨sl',e2⟩:=slot b _ (neL b o e) hb (neC b o e hx) e1 (I.base.free b o e n hx)
  exact ⟨sl',e2⟩
 .obtain ⟨o',e1⟩:=I.base.there b o e hx
  exact free b o' (neC b o e hx) e1 (I.base.free b o e n hx)
 .obtain ⟨o',e1⟩:=I.base.there b o e hx
  exact there b o' (neC b o e hx) e1
 .obtain ⟨m1,e1⟩:=I.base.tbls b ps e
  obtain ⟨m2,e2⟩:=tbls b _ e1
  exact ⟨m1++m2,by rw [e2,Array.append_assoc]⟩
 .obtain ⟨m,hn,hl⟩:=I.loc
  refine ⟨m,ns m hn,fun i x v e1 e2 e3=>?_⟩
  obtain ⟨u,r,l⟩:=hl i x v e1 e2 e3
  refine ⟨u,r,?_⟩
  rcases l with l | ⟨k,c,e,z⟩
  .exact .inl l
  .exact .inr ⟨k,c,e,cellK x c e _ z⟩
 .obtain ⟨v,z⟩:=I.cell x c e
  exact ⟨v,cellK x c e v z⟩
 .obtain ⟨m,⟨o,_,_,ho,_⟩,_⟩:=I.loc
  exact free _ o (fun z=>(hch _ z).2.1 rfl) ho I.free
 .obtain ⟨v,o,ho,hd⟩:=I.cell x c e
  exact free c o (fun z=>(hch c z).2.2.1 x c e rfl) ho (I.freeC x c e)
 .obtain ⟨e,n,ne,nf,d⟩:=I.pin p hp
  have nch:p.1∉ch:=fun z=>(hch p.1 z).2.2.2 p hp rfl
  exact ⟨keep p.1 p.2 ne nf nch e n,free p.1 p.2 nch e n,ne,nf,d⟩
theorem Inv.un {t':Nat} (I:Inv X pins σ H s) (u:Un X.fs [] H H' s.heap h') (hok:HOk X.prog X.w H' h'):Inv X pins σ H' { s with heap:=h',toks:=t' }:=by
 obtain ⟨m,⟨o,es,ep,ho,r⟩,_⟩:=id I.loc
 obtain ⟨sl,hL⟩:=u.any ho I.free (by simp)
 exact I.step (g':=s.gens) (d':=s.drawn) (ch:=[]) (fun _ z=>nomatch z) (fun b o _ hb _ e n=>u.keep b o e n hb (by simp)) (fun b o _ hb _ e n=>u.slot b o e n hb (by simp)) (fun b o _ e n=>u.free b o e n (by simp)) (fun b o _ e=>u.there b o e (by simp)) u.tups u.frzs u.tbls (fun m' hm=>by
  obtain ⟨o',es',ep',ho',r'⟩:=hm
  rw [ho] at ho';cases ho'
  exact ⟨_,es',ep',hL,r'⟩) hok I.bare
theorem Inv.call {g':Array GenState} {t':Nat} {d':Drawn} {ch:List Addr} (I:Inv X pins σ H s) (u:Un (frs X.stack) ch H H' s.heap h') (hok:HOk X.prog X.w H' h') (hg:AllBare g')
  (hch:∀ b∈ch,(b∈X.ex∨X.s₀.heap.objs.size <= b) /\ b≠X.env.locals /\ (∀ x c,X.env.cells.lookup x=some c->c≠b) /\ ∀ p∈X.pn++pins,p.1≠b) :
  Inv X pins σ H' { s with heap:=h',gens:=g',drawn:=d',toks:=t' }:=by
 obtain ⟨m,⟨o,es,ep,ho,r⟩,_⟩:=id I.loc
 obtain ⟨sl,hL⟩:=u.any ho I.free fun z=>(hch _ z).2.1 rfl
 exact I.step (ch:=ch) hch (fun b o hL hb hc e n=>u.keep b o e n (fun z=>(yAF.mp (I.stkSub b z)).elim hL hb) hc) (fun b o _ _ hc e n=>u.any e n hc) (fun b o hc e n=>u.free b o e n hc) (fun b o hc e=>u.there b o e hc) u.tups u.frzs u.tbls (fun m' hm=>by
  obtain ⟨o',es',ep',ho',r'⟩:=hm
  rw [ho] at ho';cases ho'
  exact ⟨_,es',ep',hL,r'⟩) hok hg
theorem Inv.turned {t':Nat} {it:Addr} (I:Inv X pins σ H s) (k:∀ b o,b≠it->s.heap.get? b=some o->h'.get? b=some o) (hn:H it=none) (hL:it≠X.env.locals)
  (h1:it∈X.ex∨X.s₀.heap.objs.size <= it) (h2:∀ x c,X.env.cells.lookup x=some c->c≠it) (h3:∀ p∈X.pn++pins,p.1≠it):Inv X pins σ H { s with heap:=h',toks:=t' }:=by
 have nit:∀ b u,H b=some u->b≠it:=fun b u e z=>by rw [z,hn] at e;cases e
 refine I.step (g':=s.gens) (d':=s.drawn) (ch:=[it]) (fun b hb=>?_) (fun b o _ _ hc e _=>k b o (fun z=>hc (by simp [z])) e) (fun b o _ _ hc e _=>⟨o.slots,k b o (fun z=>hc (by simp [z])) e⟩) (fun _ _ _ _ n=>n)
  (fun b o hc e=>⟨o,k b o (fun z=>hc (by simp [z])) e⟩) (fun _ _ e=>e) (fun _ _ _ e=>e) (fun b ps e=>⟨#[],by rw [e];simp⟩) (fun m hm=>?_) (fun b u e=>?_) I.bare
 .have e:b=it:=by simpa using hb
  subst e
  exact ⟨h1,hL,h2,h3⟩
 .obtain ⟨o,es,ep,ho,r⟩:=hm
  exact ⟨o,es,ep,k _ o (Ne.symm hL) ho,r⟩
 .refine (I.hok b u e).stay (fun c v hc q=>k c v ?_ q) (fun _ q=>q) fun _ _ q=>q
  rcases hc with z | z
  .rw [z];exact nit b u e
  .exact nit c _ z
theorem Inv.tok (I:Inv X pins σ H s) (t:Nat):Inv X pins σ H { s with toks:=t }:=I.un (h':=s.heap) (t':=t) Un.refl I.hok
theorem Inv.kept {t':Nat} (I:Inv X pins σ H s) (k:∀ b u,s.heap.get? b=some u->h'.get? b=some u):Inv X pins σ H { s with heap:=h',toks:=t' }:=I.un (Un.kept k) (I.hok.kept k)
theorem Inv.laid {a:Addr} {o:HO} {t':Nat} (I:Inv X pins σ H s) (k:∀ b u,s.heap.get? b=some u->h'.get? b=some u) (hp:s.heap.objs.size <= a) (new:ObjOk X.prog X.w (upd H a o) h' a o) :
  Inv X pins σ (upd H a o) { s with heap:=h',toks:=t' }:=I.un (Un.laid k hp (I.hok.fresh hp)) (I.hok.laid k hp new)
theorem Inv.write {x e:Addr} {o:HO} {t':Nat} (I:Inv X pins σ H s) (mu:Mut (H x)) (he:e=x∨H e=some (.own x)) (k:∀ b u,b≠e->s.heap.get? b=some u->h'.get? b=some u) (heo:∃ u,h'.get? e=some u)
  (new:ObjOk X.prog X.w (upd H x o) h' x o):Inv X pins σ (upd H x o) { s with heap:=h',toks:=t' }:=I.un (Un.write mu he k heo) (I.hok.write mu he k heo new)
theorem Inv.pins_of {pins':List (Addr×Obj)} (I:Inv X pins σ H s) (h:∀ p∈pins',s.heap.get? p.1=some p.2 /\ H p.1=none /\ p.1≠X.env.locals /\ p.1∉X.fs /\ ∀ v,p.2.data≠.cell v):Inv X pins' σ H s :=
 ⟨I.ok,I.os,I.bare,I.base,I.loc,I.cell,I.free,I.freeC,fun p hp=>(yBC.mp hp).elim (fun z=>I.pin p (yBK _ z)) (h p),I.hok,I.len⟩
theorem nodup_ix {N:List Str} (hN:N.Nodup) {i j:Nat} {x:Str} (a:N[i]?=some x) (b:N[j]?=some x):i=j:=by
 obtain ⟨h1,e1⟩:=yAJ.mp a
 obtain ⟨h2,e2⟩:=yAJ.mp b
 exact (List.getElem_inj hN).mp (e1.trans e2.symm)
theorem store_ok2 {M:Model} {A:Around} {E:Value->Shared->Prop} {i:Nat} {x:Str} {v:V} {u:Value} {Q:Unit->Shared->Prop} (I:Inv X pins σ H s) (hN:X.N.Nodup) (hi:X.N[i]?=some x) (hx:Loc X.env.scope x) (r:RelV v u)
  (h:∀ s',Inv X pins (σ.set i (some v)) H s'->(∃ a,Heap.SameBut a s.heap s'.heap /\ (a=X.env.locals∨X.env.cells.lookup x=some a))->Q () s') (hf:X.fn x=true∨X.env.scope.names.lookup x=some .local:=by first | exact .inl rfl | exact .inr rfl | assumption):wpAny M A (storeName X.env x u) Q E s:=by
 obtain ⟨m,hn,hl⟩:=id I.loc
 have hcls:(X.env.scope.kind == .class || (X.env.scope.kind == .module && X.env.locals != X.env.globals))=false:=by rw [I.ok.kind];rfl
 have hiσ:i < σ.length:=by rw [I.len];exact (yAJ.mp hi).1
 have cne:=I.cne
 have tracked:∀ {a:Addr} {h':Heap},(∃ o,s.heap.get? a=some o /\ H a=none)->Heap.SameBut a s.heap h'->HOk X.prog X.w H h':=fun {a h'} ha hs b ob e=>by
  obtain ⟨_,_,hfree⟩:=ha
  refine (I.hok b ob e).stay (fun c w' hc q=>(hs.2 c ?_).trans q) (fun _ q=>q) fun _ _ q=>q
  rintro rfl
  rcases hc with rfl | hc
  .rw [hfree] at e;cases e
  .rw [hfree] at hc;cases hc
 rcases hx with hk | hk
 .refine wpAny_storeName_local hk hn (fun h' hn' hs=>?_) hcls
  obtain ⟨oL,_,_,hoL,_⟩:=id hn
  refine h _ ⟨I.ok,I.os,I.bare,⟨fun b o e n hb hx=>?_,fun b o e n hb hx=>?_,I.base.free,fun b o e hx=>?_,I.base.tups,I.base.frzs,I.base.tbls⟩,⟨_,hn',fun j y v' e1 e2 e3=>?_⟩,fun y c e=>?_,I.free,I.freeC,fun p hp=>?_,tracked ⟨oL,hoL,I.free⟩ hs,by simpa using I.len⟩ ⟨_,hs,.inl rfl⟩
  .exact (hs.2 b (yAM (yAP (Heap.lt_size e) I.ok.above))).trans (I.base.keep b o e n hb hx)
  .obtain ⟨sl,e1⟩:=I.base.slot b o e n hb hx
   exact ⟨sl,(hs.2 b (yAM (yAP (Heap.lt_size e) I.ok.above))).trans e1⟩
  .obtain ⟨o',e1⟩:=I.base.there b o e hx
   exact ⟨o',(hs.2 b (yAM (yAP (Heap.lt_size e) I.ok.above))).trans e1⟩
  .by_cases hj:j=i
   .subst hj
    rw [hi] at e1;cases e1
    rw [List.getElem?_set_self hiσ] at e2
    cases e2
    exact ⟨u,r,.inl ⟨hk,by simp⟩⟩
   .rw [List.getElem?_set_ne (Ne.symm hj)] at e2
    obtain ⟨u',r',q⟩:=hl j y v' e1 e2 e3
    refine ⟨u',r',?_⟩
    rcases q with ⟨k,e⟩ | ⟨k,c,e,z⟩
    .refine .inl ⟨k,?_⟩
     have:y≠x:=fun e=>hj (nodup_ix hN e1 (e ▸ hi))
     simp [this,e]
    .exact .inr ⟨k,c,e,z.sameBut hs (cne y c e)⟩
  .obtain ⟨w',z⟩:=I.cell y c e
   exact ⟨w',z.sameBut hs (cne y c e)⟩
  .obtain ⟨e,n,ne,nf,d⟩:=I.pin p hp
   exact ⟨(hs.2 p.1 ne).trans e,n,ne,nf,d⟩
 .have hfn:X.fn x=true:=by
   rcases hf with z | z
   .exact z
   .rw [z] at hk;cases hk
  obtain ⟨c,hc⟩:=I.ok.has x (.inl hk)
  obtain ⟨w',z⟩:=I.cell x c hc
  refine wpAny_storeName_cell I.ok.kind hk hc z (fun h' hc' hs=>?_)
  obtain ⟨oc,hoc,hocd⟩:=id z
  refine h { s with heap:=h' } ⟨I.ok,I.os,I.bare,⟨fun b o e n hb hx=>?_,fun b o e n hb hx=>?_,I.base.free,fun b o e hx=>?_,I.base.tups,I.base.frzs,I.base.tbls⟩,⟨m,hn.sameBut hs (Ne.symm (cne x c hc)),fun j y v' e1 e2 e3=>?_⟩,fun y c' e=>?_,I.free,I.freeC,fun p hp=>?_,tracked ⟨oc,hoc,I.freeC x c hc⟩ hs,by simpa using I.len⟩ ⟨c,hs,.inr hc⟩
  .exact (hs.2 b (yAM (yAP (Heap.lt_size e) (I.ok.cab x c hfn hc)))).trans (I.base.keep b o e n hb hx)
  .obtain ⟨sl,e1⟩:=I.base.slot b o e n hb hx
   exact ⟨sl,(hs.2 b (yAM (yAP (Heap.lt_size e) (I.ok.cab x c hfn hc)))).trans e1⟩
  .obtain ⟨o',e1⟩:=I.base.there b o e hx
   exact ⟨o',(hs.2 b (yAM (yAP (Heap.lt_size e) (I.ok.cab x c hfn hc)))).trans e1⟩
  .by_cases hj:j=i
   .subst hj
    rw [hi] at e1;cases e1
    rw [List.getElem?_set_self hiσ] at e2
    cases e2
    exact ⟨u,r,.inr ⟨.inl hk,c,hc,hc'⟩⟩
   .rw [List.getElem?_set_ne (Ne.symm hj)] at e2
    obtain ⟨u',r',q⟩:=hl j y v' e1 e2 e3
    refine ⟨u',r',?_⟩
    rcases q with q | ⟨k,c',e,z'⟩
    .exact .inl q
    .refine .inr ⟨k,c',e,z'.sameBut hs ?_⟩
     rintro rfl
     exact hj (nodup_ix hN e1 (I.ok.inj _ _ _ e hc ▸ hi))
  .by_cases hcc:c'=c
   .subst hcc;exact ⟨_,hc'⟩
   .obtain ⟨w2,z2⟩:=I.cell y c' e
    exact ⟨w2,z2.sameBut hs hcc⟩
  .obtain ⟨e,n,ne,nf,d⟩:=I.pin p hp
   refine ⟨(hs.2 p.1 ?_).trans e,n,ne,nf,d⟩
   intro q
   rw [q,hoc] at e
   have q':oc=p.2:=Option.some.inj e
   exact d w' (by rw [<- q'];exact hocd)
theorem ZCK {M:Model} {A:Around} {E:Value->Shared->Prop} {i:Nat} {x:Str} {v:V} {u:Value} {Q:Unit->Shared->Prop} (I:Inv X pins σ H s) (hN:X.N.Nodup) (hi:X.N[i]?=some x) (hx:Loc X.env.scope x) (r:RelV v u)
  (h:∀ s',Inv X pins (σ.set i (some v)) H s'->Q () s') (hf:X.fn x=true∨X.env.scope.names.lookup x=some .local:=by first | exact .inl rfl | exact .inr rfl | assumption):wpAny M A (storeName X.env x u) Q E s :=
 store_ok2 I hN hi hx r (fun s' I' _=>h s' I') hf
theorem Inv.call' {s':Shared} {ch:List Addr} (I:Inv X pins σ H s) (ho:s'.os=s.os) (u:Un (frs X.stack) ch H H' s.heap s'.heap) (hok:HOk X.prog X.w H' s'.heap) (hg:AllBare s'.gens)
  (hch:∀ b∈ch,(b∈X.ex∨X.s₀.heap.objs.size <= b) /\ b≠X.env.locals /\ (∀ x c,X.env.cells.lookup x=some c->c≠b) /\ ∀ p∈X.pn++pins,p.1≠b):Inv X pins σ H' s':=by
 obtain ⟨h',g',d',t',o'⟩:=s'
 have e:o'=s.os:=ho
 subst e
 exact I.call (g':=g') (t':=t') (d':=d') u hok hg hch
end
abbrev XK:=Value->Option Addr->Hp->Prop
abbrev St:=List (Option V)
abbrev VK:=V->Hp->Prop
abbrev TE:=St->Hp->VK->Prop
abbrev TT:=St->Hp->(Bool->Hp->Prop)->Prop
abbrev TA:=St->Hp->(List V->Hp->Prop)->Prop
structure Ends where
 nx:St->Hp->Prop
 rt:VK
 bk:St->Hp->Prop:=fun _ _=>False
 ct:St->Hp->Prop:=fun _ _=>False
abbrev TS:=Ends->St->Hp->Prop
def EP (X:Cx) (pins:List (Addr×Obj)) (σ:St) (Q:VK) (u:Value) (s':Shared):Prop:=∃ v H',Inv X pins σ H' s' /\ RelV v u /\ Q v H'
def TP (X:Cx) (pins:List (Addr×Obj)) (σ:St) (Q:Bool->Hp->Prop) (b:Bool) (s':Shared):Prop:=∃ H',Inv X pins σ H' s' /\ Q b H'
def AP (X:Cx) (pins:List (Addr×Obj)) (σ:St) (Q:List V->Hp->Prop) (us:List Value) (s':Shared):Prop:=∃ vs H',Inv X pins σ H' s' /\ Vals vs us /\ Q vs H'
def SP (X:Cx) (pins:List (Addr×Obj)) (D:Ends) (f:Flow) (s':Shared):Prop :=
 match f with
 | .next=>∃ σ' H',Inv X pins σ' H' s' /\ D.nx σ' H'
 | .brk=>∃ σ' H',Inv X pins σ' H' s' /\ D.bk σ' H'
 | .cont=>∃ σ' H',Inv X pins σ' H' s' /\ D.ct σ' H'
 | .ret u=>∃ v σ' H',Inv X pins σ' H' s' /\ RelV v u /\ D.rt v H'
def PE (X:Cx) (e:Expr) (t:TE):Prop :=
 ∀ (pins:List (Addr×Obj)) (s:Shared) (σ:St) (H:Hp) (Q:VK),Inv X pins σ H s->t σ H Q->wpAny (model X.prog X.w) X.A (eval e X.env) (EP X pins σ Q) X.xe s
def PT (X:Cx) (e:Expr) (t:TT):Prop :=
 ∀ (pins:List (Addr×Obj)) (s:Shared) (σ:St) (H:Hp) (Q:Bool->Hp->Prop),Inv X pins σ H s->t σ H Q->wpAny (model X.prog X.w) X.A (isTrue e X.env (eval e X.env)) (TP X pins σ Q) X.xe s
def PW (X:Cx) (e:Expr) (t:TT):Prop :=
 ∀ (whole:Sem Value) (pins:List (Addr×Obj)) (s:Shared) (σ:St) (H:Hp) (Q:Bool->Hp->Prop),Inv X pins σ H s->t σ H Q->wpAny (model X.prog X.w) X.A (isTrue e X.env whole) (TP X pins σ Q) X.xe s
theorem PW.pt {X:Cx} {e:Expr} {t:TT} (h:PW X e t):PT X e t:=h _
def PA (X:Cx) (es:List Expr) (t:TA):Prop :=
 ∀ (pos:Pos) (pins:List (Addr×Obj)) (s:Shared) (σ:St) (H:Hp) (Q:List V->Hp->Prop),Inv X pins σ H s->t σ H Q->wpAny (model X.prog X.w) X.A (spliced (backTo pos (starEach es X.env))) (AP X pins σ Q) X.xe s
def PS (X:Cx) (st:Stmt) (t:TS):Prop :=
 ∀ (pins:List (Addr×Obj)) (s:Shared) (σ:St) (H:Hp) (D:Ends),Inv X pins σ H s->t D σ H->wpAny (model X.prog X.w) X.A (exec st X.env) (SP X pins D) X.xe s
def PSs (X:Cx) (st:List Stmt) (t:TS):Prop :=
 ∀ (pins:List (Addr×Obj)) (s:Shared) (σ:St) (H:Hp) (D:Ends),Inv X pins σ H s->t D σ H->wpAny (model X.prog X.w) X.A (execs st X.env) (SP X pins D) X.xe s
theorem thn {α:Type} {t:Sem α} {Q Q':α->Shared->Prop} {M:Model} {A:Around} {E:Value->Shared->Prop} {s:Shared} (h:wpAny M A t Q E s) (hQ:∀ a s,Q a s->Q' a s):wpAny M A t Q' E s:=wpAny_mono h hQ fun _ _ x=>x
section
variable {X:Cx}
def tVar (i:Nat):TE:=fun σ H Q=>∃ v,σ[i]?=some (some v) /\ Q v H
def tC (v:V):TE:=fun _ H Q=>Q v H
theorem pe_var {i:Nat} {x:Str} {pos:Pos} (hN:X.N[i]?=some x) (hv:Vis X.env.scope x) (hd:(x == ("__debug__":Str))=false:=by decide) (hcd:(x == ("__classdict__":Str))=false:=by decide):PE X (.Name x pos) (tVar i):=by
 intro pins s σ H Q I h
 obtain ⟨v,e,h⟩:=h
 obtain ⟨m,hn,hl⟩:=I.loc
 obtain ⟨u,r,l⟩:=hl i x v hN e hv
 have fin:EP X pins σ Q u s:=⟨v,H,I,r,h⟩
 rcases l with ⟨hk,hm⟩ | ⟨hk,c,hc,hcell⟩
 .exact wpAny_Name (wpAny_loadName_local I.ok.kind hk hn hm fin) hd
 .rcases hk with hk | hk
  .exact wpAny_Name (wpAny_loadName_cell I.ok.kind hk hc hcell fin) hd
  .exact wpAny_Name (wpAny_loadName_free I.ok.kind hk hc hcell fin hcd) hd
theorem ZAG {i j pos}:PE X (.Constant (.int i) j pos) (tC (.int i)):=fun _ _ _ H _ I h=>wpAny_Constant_int ⟨.int i,H,I.tok _,⟨_,rfl⟩,h⟩
theorem ZDV {b j pos}:PE X (.Constant (.bool b) j pos) (tC (.bl b)):=fun _ _ _ H _ I h=>Constant_bool ⟨.bl b,H,I,rfl,h⟩
theorem ZCR {j pos}:PE X (.Constant .none j pos) (tC .non):=fun _ _ _ H _ I h=>Constant_none ⟨.non,H,I,rfl,h⟩
theorem ZDL {x j pos}:PE X (.Constant (.str x) j pos) (tC (.str x)):=fun _ _ _ H _ I h=>Calls.Constant_str ⟨.str x,H,I.tok _,⟨_,rfl⟩,h⟩
def Gl (X:Cx) (x:Str):Prop:=X.env.kindOf x=some .globalImplicit
theorem ZDC {E:Value->Shared->Prop} {pins:List (Addr×Obj)} {s:Shared} {σ:St} {H:Hp} {x:Str} {u:Value} {pos:Pos} {Q:Value->Shared->Prop} (I:Inv X pins σ H s) (hg:Gl X x) (hm:X.mg x=some u) (h:Q u s)
  (hd:(x == ("__debug__":Str))=false:=by decide):wpAny (model X.prog X.w) X.A (eval (.Name x pos) X.env) Q E s :=
 Calls.Name_function_global I.ok.kind hg (Calls.loadGlobal_global (by rw [I.ok.glob];exact I.mod.glob.keeps I.bk) hm h) hd
theorem ZDO {E:Value->Shared->Prop} {pins:List (Addr×Obj)} {s:Shared} {σ:St} {H:Hp} {x:Str} {u:Value} {pos:Pos} {Q:Value->Shared->Prop} (I:Inv X pins σ H s) (hg:Gl X x) (hm:X.mg x=none) (hv:bootBuiltins x=some u) (h:Q u s)
  (hn:x≠"__name__":=by decide) (hd:(x == ("__debug__":Str))=false:=by decide):wpAny (model X.prog X.w) X.A (eval (.Name x pos) X.env) Q E s:=by
 obtain ⟨mb,h1,h2⟩:=I.mod.blt
 exact Calls.Name_function_global I.ok.kind hg (Calls.loadGlobal_builtin (by rw [I.ok.glob];exact I.mod.glob.keeps I.bk) hm (by rw [I.ok.blt];exact h1.keeps I.bk) ((h2 x hn).trans hv) h) hd
theorem pe_glob {x:Str} {v:V} {u:Value} {pos:Pos} (hg:Gl X x) (hm:X.mg x=some u) (r:RelV v u) (hd:(x == ("__debug__":Str))=false:=by decide):PE X (.Name x pos) (tC v) :=
 fun _ _ _ H _ I h=>ZDC I hg hm ⟨v,H,I,r,h⟩ hd
variable {a b:Expr} {ta tb:TE} {pos:Pos}
def tB (t:TE):TT:=fun σ H Q=>t σ H fun x H1=>∃ c,x=.bl c /\ Q c H1
theorem ZB7 {e:Expr} {t:TE} (h:PE X e t) (he:∀ whole,isTrue e X.env whole=(do let v <- whole;standAt e.pos;holding [v] (truthy v)):=by intro _;rfl):PT X e (tB t):=by
 intro pins s σ H Q I hw
 refine isTrue_plain (thn (h pins s σ H _ I hw) fun v s1 ⟨x,H1,I1,r1,q1⟩=>?_) (he _)
 obtain ⟨d,rfl,q⟩:=q1
 cases r1
 exact wpAny_truthy_bool ⟨H1,I1,q⟩
variable {tA tB':TT} {rest:List Expr}
def tAnd (t u:TT):TT:=fun σ H Q=>t σ H fun c H1=>if c=true then u σ H1 Q else Q false H1
def tOr (t u:TT):TT:=fun σ H Q=>t σ H fun c H1=>if c=true then Q true H1 else u σ H1 Q
def tNot (t:TT):TT:=fun σ H Q=>t σ H fun c H1=>Q (!c) H1
theorem ZCq (ha:PT X a tA):PW X (.BoolOp .And [a] pos) tA:=by
 intro wh pins s σ H Q I h
 refine isTrue_and (thn (ha pins s σ H Q I h) fun c s1 e=>?_)
 cases c with
 | true=>exact isTrue_and_nil e
 | false=>exact e
theorem pw_or1 (ha:PT X a tA):PW X (.BoolOp .Or [a] pos) tA:=by
 intro wh pins s σ H Q I h
 refine isTrue_or (thn (ha pins s σ H Q I h) fun c s1 e=>?_)
 cases c with
 | false=>exact isTrue_or_nil e
 | true=>exact e
theorem ZDI (ha:PT X a tA) (hb:PW X (.BoolOp .And (b::rest) pos) tB'):PW X (.BoolOp .And (a::b::rest) pos) (tAnd tA tB'):=by
 intro wh pins s σ H Q I h
 refine isTrue_and (thn (ha pins s σ H _ I h) fun c s1 ⟨H1,I1,q1⟩=>?_)
 cases c with
 | true=>exact hb wh pins s1 σ H1 Q I1 q1
 | false=>exact ⟨H1,I1,q1⟩
theorem pw_or (ha:PT X a tA) (hb:PW X (.BoolOp .Or (b::rest) pos) tB'):PW X (.BoolOp .Or (a::b::rest) pos) (tOr tA tB'):=by
 intro wh pins s σ H Q I h
 refine isTrue_or (thn (ha pins s σ H _ I h) fun c s1 ⟨H1,I1,q1⟩=>?_)
 cases c with
 | true=>exact ⟨H1,I1,q1⟩
 | false=>exact hb wh pins s1 σ H1 Q I1 q1
def ZDy (ta tb:TE):TE:=fun σ H Q=>ta σ H fun x H1=>∃ c,x=.bl c /\ if c=true then tb σ H1 Q else Q (.bl false) H1
def tOrV (ta tb:TE):TE:=fun σ H Q=>ta σ H fun x H1=>∃ c,x=.bl c /\ if c=true then Q (.bl true) H1 else tb σ H1 Q
def ZDv (ta:TE):TE:=fun σ H Q=>ta σ H fun x H1=>∃ c,x=.bl c /\ Q (.bl (!c)) H1
theorem pe_one {op} {t:TE} (h:PE X a t):PE X (.BoolOp op [a] pos) t:=fun pins s σ H Q I hw=>BoolOp_one (h pins s σ H Q I hw)
theorem pe_and (ha:PE X a ta) (hb:PE X (.BoolOp .And (b::rest) pos) tb):PE X (.BoolOp .And (a::b::rest) pos) (ZDy ta tb):=by
 intro pins s σ H Q I h
 refine BoolOp_and (thn (ha pins s σ H _ I h) fun v s1 ⟨x,H1,I1,r1,q1⟩=>?_)
 obtain ⟨c,rfl,q1⟩:=q1
 cases r1
 refine wpAny_truthy_bool ?_
 cases c with
 | true=>exact hb pins s1 σ H1 Q I1 q1
 | false=>exact ⟨.bl false,H1,I1,rfl,q1⟩
theorem pe_or (ha:PE X a ta) (hb:PE X (.BoolOp .Or (b::rest) pos) tb):PE X (.BoolOp .Or (a::b::rest) pos) (tOrV ta tb):=by
 intro pins s σ H Q I h
 refine BoolOp_or (thn (ha pins s σ H _ I h) fun v s1 ⟨x,H1,I1,r1,q1⟩=>?_)
 obtain ⟨c,rfl,q1⟩:=q1
 cases r1
 refine wpAny_truthy_bool ?_
 cases c with
 | false=>exact hb pins s1 σ H1 Q I1 q1
 | true=>exact ⟨.bl true,H1,I1,rfl,q1⟩
theorem pe_not (ha:PE X a ta):PE X (.UnaryOp .Not a pos) (ZDv ta):=by
 intro pins s σ H Q I h
 refine UnaryOp_ (thn (ha pins s σ H _ I h) fun v s1 ⟨x,H1,I1,r1,q1⟩=>?_)
 obtain ⟨c,rfl,q1⟩:=q1
 cases r1
 exact not_of (wpAny_truthy_bool ⟨.bl (!c),H1,I1,rfl,q1⟩)
def tIf (t:TT) (ta tb:TE):TE:=fun σ H Q=>t σ H fun c H1=>if c=true then ta σ H1 Q else tb σ H1 Q
theorem ZBJ {c:Expr} (hc:PT X c tA) (ha:PE X a ta) (hb:PE X b tb):PE X (.IfExp c a b pos) (tIf tA ta tb):=by
 intro pins s σ H Q I h
 refine wpAny_IfExp (thn (hc pins s σ H _ I h) fun d s1 ⟨H1,I1,q1⟩=>?_)
 cases d with
 | true=>exact ha pins s1 σ H1 Q I1 q1
 | false=>exact hb pins s1 σ H1 Q I1 q1
end
def SqL (K:W.Frag) (H:Hp) (a:Addr) (xs:List V):Prop :=
 Rd H a (.lst xs) ∨
  ∃ (o:Obj) (its:Array Value) (n:Nat),K.lookup a=some o /\ o.cls=.type "list" /\ o.dict=none /\ o.data=.seq its n /\ its.size <= sizeLine /\ Vals xs its.toList
def SqT (K:W.Frag) (H:Hp) (a:Addr) (xs:List V):Prop :=
 Rd H a (.tup xs) ∨
  ∃ (o:Obj) (its:Array Value) (n:Nat),K.lookup a=some o /\ o.cls=.type "tuple" /\ o.data=.seq its n /\ its.size <= sizeLine /\ Vals xs its.toList
def absV:Value->Option V
 | .none=>some .non
 | .bool b=>some (.bl b)
 | .int i _=>some (.int i)
 | .str x _=>some (.str x)
 | .bytes b _=>some (.byt b)
 | .float b _=>some (.flt b)
 | .ref a=>some (.ref a)
 | .type n=>some (.ty n)
 | _=>none
theorem RelV.abs {x:V} {u:Value} (r:RelV x u):absV u=some x:=by
 cases x with
 | non=>cases r;rfl
 | bl _=>cases r;rfl
 | int _=>obtain ⟨t,rfl⟩:=r;rfl
 | str _=>obtain ⟨t,rfl⟩:=r;rfl
 | byt _=>obtain ⟨t,rfl⟩:=r;rfl
 | flt _=>obtain ⟨t,rfl⟩:=r;rfl
 | ref _=>cases r;rfl
 | ty _=>cases r;rfl
theorem RelV.inj {x y:V} {u:Value} (r:RelV x u) (q:RelV y u):x=y:=Option.some.inj (r.abs.symm.trans q.abs)
theorem Vals.inj:∀ {xs ys:List V} {us:List Value},Vals xs us->Vals ys us->xs=ys
 | _,_,_,.nil,.nil=>rfl
 | _,_,_,.cons r t,.cons r' t'=>by rw [r.inj r',Vals.inj t t']
section
variable {X:Cx} {pins:List (Addr×Obj)} {σ:St} {H:Hp} {s:Shared} {a:Addr} {xs ys:List V}
theorem SqL.of {K:W.Frag} (h:H a=some (.lst xs)):SqL K H a xs:=.inl (.inl h)
theorem SqT.of {K:W.Frag} (h:H a=some (.tup xs)):SqT K H a xs:=.inl (.inl h)
theorem Inv.list (I:Inv X pins σ H s) (h:SqL X.K H a xs):∃ its:List Value,Vals xs its /\ PlainL s.heap a its.toArray /\ xs.length <= sizeLine:=by
 rcases h with h | ⟨o,its,n,hk,hc,hd,hs,hz,r⟩
 .obtain ⟨z,its,n,r,e⟩:=h.ok I.hok
  exact ⟨its,r,⟨_,n,e,rfl,rfl,rfl⟩,z⟩
 .refine ⟨its.toList,r,⟨o,n,I.kIn a o hk,hc,hd,by simpa using hs⟩,?_⟩
  have e:=r.length
  simp only [Array.length_toList] at e
  omega
theorem Inv.tuple (I:Inv X pins σ H s) (h:SqT X.K H a xs):∃ its:List Value,Vals xs its /\ IsTup s.heap a its.toArray /\ xs.length <= sizeLine:=by
 rcases h with h | ⟨o,its,n,hk,hc,hs,hz,r⟩
 .obtain ⟨z,its,r,p⟩:=h.ok I.hok
  exact ⟨its,r,p,z⟩
 .refine ⟨its.toList,r,⟨o,I.kIn a o hk,hc,n,by simpa using hs⟩,?_⟩
  have e:=r.length
  simp only [Array.length_toList] at e
  omega
theorem Inv.list_inj (I:Inv X pins σ H s) (h:SqL X.K H a xs) (h':SqL X.K H a ys):xs=ys:=by
 obtain ⟨its,r,⟨o,n,e,_,_,d⟩,_⟩:=I.list h
 obtain ⟨its',r',⟨o',n',e',_,_,d'⟩,_⟩:=I.list h'
 rw [e] at e';cases e'
 rw [d] at d'
 injection d' with d1 _
 have:its=its':=by simpa using congrArg Array.toList d1
 subst this
 exact r.inj r'
end
abbrev Cx.wish (X:Cx) (E:Value->Shared->Prop):Cx:={ X with xe:=E }
abbrev Cx.nox (X:Cx):Cx:=X.wish fun _ _=>False
theorem Cx.Ok.wish {X:Cx} (ok:X.Ok) (E:Value->Shared->Prop):(X.wish E).Ok :=
 ⟨ok.mod,ok.kind,ok.glob,ok.blt,ok.above,ok.inj,ok.has,ok.cab,ok.hd,ok.frames,ok.stk,ok.exf,ok.bs,ok.bsz,ok.noex,ok.exfs,ok.funs,ok.frf⟩
theorem Cx.Ok.unwish {X:Cx} {E:Value->Shared->Prop} (ok:(X.wish E).Ok):X.Ok :=
 ⟨ok.mod,ok.kind,ok.glob,ok.blt,ok.above,ok.inj,ok.has,ok.cab,ok.hd,ok.frames,ok.stk,ok.exf,ok.bs,ok.bsz,ok.noex,ok.exfs,ok.funs,ok.frf⟩
section
variable {X:Cx} {pins:List (Addr×Obj)} {σ:St} {H:Hp} {s:Shared} {E:Value->Shared->Prop}
theorem Inv.wish (I:Inv X pins σ H s) (E:Value->Shared->Prop):Inv (X.wish E) pins σ H s:=⟨I.ok.wish E,I.os,I.bare,I.base,I.loc,I.cell,I.free,I.freeC,I.pin,I.hok,I.len⟩
theorem Inv.unwish (I:Inv (X.wish E) pins σ H s):Inv X pins σ H s:=⟨I.ok.unwish,I.os,I.bare,I.base,I.loc,I.cell,I.free,I.freeC,I.pin,I.hok,I.len⟩
theorem SP.unwish {D:Ends} {f:Flow} {s':Shared} (h:SP (X.wish E) pins D f s'):SP X pins D f s':=by
 cases f with
 | next=>obtain ⟨σ',H',I,q⟩:=h;exact ⟨σ',H',I.unwish,q⟩
 | brk=>obtain ⟨σ',H',I,q⟩:=h;exact ⟨σ',H',I.unwish,q⟩
 | cont=>obtain ⟨σ',H',I,q⟩:=h;exact ⟨σ',H',I.unwish,q⟩
 | ret u=>obtain ⟨v,σ',H',I,r,q⟩:=h;exact ⟨v,σ',H',I.unwish,r,q⟩
theorem PSs.nox {st:List Stmt} {t:TS} (h:PSs X.nox st t):PSs X st t:=fun pins s σ H D I hw=>
 wpAny_mono (h pins s σ H D (I.wish _) hw) (fun _ _ q=>q.unwish) fun _ _ z=>False.elim z
end
section
variable {X:Cx} {st:Stmt} {rest:List Stmt} {t u:TS} {e:Expr} {te:TE} {pos:Pos}
def ZDw:TS:=fun D σ H=>D.nx σ H
def tSeq (t u:TS):TS:=fun D σ H=>t { D with nx:=u D } σ H
theorem ZAx:PSs X [] ZDw:=fun _ _ σ H _ I h=>wpAny_execs_nil ⟨σ,H,I,h⟩
theorem ZAB (h1:PS X st t) (h2:PSs X rest u):PSs X (st::rest) (tSeq t u):=by
 intro pins s σ H D I h
 refine wpAny_execs_cons (thn (h1 pins s σ H { D with nx:=u D } I h) fun f s1 q=>?_)
 cases f with
 | next=>
  obtain ⟨σ',H',I',q⟩:=q
  exact h2 pins s1 σ' H' D I' q
 | ret v=>exact q
 | brk=>exact q
 | cont=>exact q
theorem ZAI (h1:PS X st t):PSs X [st] t:=by
 intro pins s σ H D I h
 refine wpAny_execs_cons (thn (h1 pins s σ H D I h) fun f s1 q=>?_)
 cases f with
 | next=>exact wpAny_execs_nil q
 | ret v=>exact q
 | brk=>exact q
 | cont=>exact q
theorem Inv.quiet {pins:List (Addr×Obj)} {σ:St} {H:Hp} {s:Shared} (I:Inv X pins σ H s):interactive X.env=false:=by simp [interactive,I.ok.kind]
def ZDx (te:TE):TS:=fun D σ H=>te σ H fun _ H1=>D.nx σ H1
theorem ZAu (he:PE X e te) (hs:swapsWith e none pos.line X.env=pure false:=by rfl):PS X (.Expr e pos) (ZDx te):=by
 intro pins s σ H D I h
 exact wpAny_Expr_any (thn (he pins s σ H _ I h) fun v s1 ⟨x,H1,I1,r1,q1⟩=>⟨σ,H1,I1,q1⟩) I.quiet hs
def tRet (te:TE):TS:=fun D σ H=>te σ H D.rt
theorem ZAX (he:PE X e te):PS X (.Return (some e) pos) (tRet te):=by
 intro pins s σ H D I h
 exact wpAny_Return_some (thn (he pins s σ H _ I h) fun v s1 ⟨x,H1,I1,r1,q1⟩=>⟨x,σ,H1,I1,r1,q1⟩)
def tRetN:TS:=fun D _ H=>D.rt .non H
def tIfS (c:TT) (t u:TS):TS:=fun D σ H=>c σ H fun b H1=>if b=true then t D σ H1 else u D σ H1
theorem ZBU {c:Expr} {a b:List Stmt} {tc:TT} (hc:PT X c tc) (ha:PSs X a t) (hb:PSs X b u):PS X (.If c a b pos) (tIfS tc t u):=by
 intro pins s σ H D I h
 refine wpAny_If (thn (hc pins s σ H _ I h) fun d s1 ⟨H1,I1,q1⟩=>?_)
 cases d with
 | true=>exact ha pins s1 σ H1 D I1 q1
 | false=>exact hb pins s1 σ H1 D I1 q1
def ZDZ:TS:=fun _ _ _=>False
theorem ps_never:PS X st ZDZ:=fun _ _ _ _ _ _ h=>h.elim
end
abbrev TG:=V->St->Hp->(St->Hp->Prop)->Prop
abbrev TGs:=List V->St->Hp->(St->Hp->Prop)->Prop
def PG (X:Cx) (target:Expr) (t:TG):Prop :=
 ∀ (pins:List (Addr×Obj)) (s:Shared) (σ:St) (H:Hp) (v:V) (u:Value) (Q:St->Hp->Prop),Inv X pins σ H s->RelV v u->t v σ H Q ->
  wpAny (model X.prog X.w) X.A (assign target X.env u) (fun _ s'=>∃ σ' H',Inv X pins σ' H' s' /\ Q σ' H') X.xe s
def PGs (X:Cx) (ts:List Expr) (t:TGs):Prop :=
 ∀ (pins:List (Addr×Obj)) (s:Shared) (σ:St) (H:Hp) (vs:List V) (us:List Value) (Q:St->Hp->Prop),Inv X pins σ H s->Vals vs us->t vs σ H Q ->
  wpAny (model X.prog X.w) X.A (assignInOrder ((assignEach ts X.env).map (·.2)) us) (fun _ s'=>∃ σ' H',Inv X pins σ' H' s' /\ Q σ' H') X.xe s
abbrev TSet:=V->V->V->Hp->(Hp->Prop)->Prop
def PSet (X:Cx) (t:TSet):Prop :=
 ∀ (pins:List (Addr×Obj)) (s:Shared) (σ:St) (H:Hp) (o i v:V) (ov iv u:Value) (Q:Hp->Prop),Inv X pins σ H s->RelV o ov->RelV i iv->RelV v u->t o i v H Q ->
  wpAny (model X.prog X.w) X.A (setItem ov iv u) (fun _ s'=>∃ H',Inv X pins σ H' s' /\ Q H') X.xe s
abbrev TIp:=V->V->Hp->VK->Prop
def PIp (X:Cx) (op:Operator) (t:TIp):Prop :=
 ∀ (pins:List (Addr×Obj)) (s:Shared) (σ:St) (H:Hp) (x y:V) (v u:Value) (Q:VK),Inv X pins σ H s->RelV x v->RelV y u->t x y H Q ->
  wpAny (model X.prog X.w) X.A (inplaceOp op v u) (EP X pins σ Q) X.xe s
section
variable {X:Cx} {pos:Pos}
def ZDq (i:Nat):TG:=fun v σ H Q=>Q (σ.set i (some v)) H
theorem ZBe {i:Nat} {x:Str} (hN:X.N.Nodup) (hi:X.N[i]?=some x) (hx:Loc X.env.scope x) (hf:X.fn x=true∨X.env.scope.names.lookup x=some .local:=by first | exact .inl rfl | exact .inr rfl | assumption):PG X (.Name x pos) (ZDq i):=by
 intro pins s σ H v u Q I r h
 exact wpAny_assign_Name (ZCK I hN hi hx r (fun s' I'=>⟨_,H,I',h⟩) hf)
def gNil:TGs:=fun vs σ H Q=>vs=[] /\ Q σ H
def ZD8 (t:TG) (u:TGs):TGs:=fun vs σ H Q=>∃ v r,vs=v::r /\ t v σ H fun σ' H'=>u r σ' H' Q
theorem pgs_nil:PGs X [] gNil:=by
 intro pins s σ H vs us Q I r h
 obtain ⟨e,h⟩:=h
 subst e
 cases r
 exact assignInOrder_nil ⟨σ,H,I,h⟩
theorem ZCM {e:Expr} {es:List Expr} {t:TG} {u:TGs} (h1:PG X e t) (h2:PGs X es u)
  (hs:(assignEach (e::es) X.env).map (·.2)=assign e X.env::(assignEach es X.env).map (·.2):=by rfl):PGs X (e::es) (ZD8 t u):=by
 intro pins s σ H vs us Q I r h
 obtain ⟨v,vr,e1,h⟩:=h
 subst e1
 cases r with
 | cons r rr=>
  rw [hs]
  refine assignInOrder_cons (thn (h1 pins s σ H _ _ _ I r h) fun _ s1 ⟨σ1,H1,I1,q1⟩=>?_)
  exact h2 pins s1 σ1 H1 _ _ Q I1 rr q1
def gTup (K:W.Frag) (n:Nat) (t:TGs):TG:=fun v σ H Q=>∃ a xs,v=.ref a /\ SqT K H a xs /\ xs.length=n /\ t xs σ H Q
theorem pg_tup {es:List Expr} {k:Nat} {t:TGs} {n:Nat} (hc:X.calm=true) (h:PGs X es t)
  (hn:(assignEach es X.env).length=n:=by rfl) (hst:(assignEach es X.env).findIdx? (·.1)=none:=by rfl):PG X (.Tuple es k pos) (gTup X.K n t):=by
 intro pins s σ H v u Q I r hw
 obtain ⟨a,xs,e1,hq,hl,hw⟩:=hw
 subst e1
 cases r
 obtain ⟨its,rv,ht,hz⟩:=I.tuple hq
 refine assign_Tuple_tuple (I.ok.hd hc) ht (by simp [hn,<- hl,rv.length]) hst fun h' hx=>?_
 have I1:Inv X pins σ H { s with heap:=h' }:=I.kept (t':=s.toks) fun b o e=>hx b o (yAM (Heap.lt_size e)) e
 exact h pins _ σ H xs _ Q I1 (by simpa using rv) hw
def gSub (to ti:TE) (t:TSet):TG:=fun v σ H Q=>to σ H fun o H1=>ti σ H1 fun i H2=>t o i v H2 fun H3=>Q σ H3
theorem pg_sub {o i:Expr} {to ti:TE} {t:TSet} (ho:PE X o to) (hi:PE X i ti) (hs:PSet X t)
  (ha:∀ v,assign (.Subscript o i pos) X.env v=(do
   let ov <- holding [v] (eval o X.env)
   let iv <- holding [v,ov] (eval i X.env)
   standAt pos
   holding [v,ov,iv] (setItem ov iv v)
   release [v,ov,iv] []):=by intro _;rfl):PG X (.Subscript o i pos) (gSub to ti t):=by
 intro pins s σ H v u Q I r h
 rw [ha]
 refine wpAny_bind (wpAny_holding (thn (ho pins s σ H _ I h) fun ov s1 ⟨x,H1,I1,r1,q1⟩=>?_))
 refine wpAny_bind (wpAny_holding (thn (hi pins s1 σ H1 _ I1 q1) fun iv s2 ⟨y,H2,I2,r2,q2⟩=>?_))
 refine wpAny_bind (wpAny_standAt (wpAny_bind (wpAny_holding (thn (hs pins s2 σ H2 x y v ov iv u _ I2 r1 r2 r q2) fun _ s3 ⟨H3,I3,q3⟩=>?_))))
 exact wpAny_release ⟨σ,H3,I3,q3⟩
def tAsg (te:TE) (g:TG):TS:=fun D σ H=>te σ H fun x H1=>g x σ H1 D.nx
theorem ps_asg {tg e:Expr} {te:TE} {g:TG} (he:PE X e te) (hg:PG X tg g) (hs:swapsWithSole [tg] e pos.line X.env=pure false:=by rfl) (hw:swappedStores [tg] e X.env=pure none:=by rfl)
  (h1:(assignEach [tg] X.env).map (·.2)=[assign tg X.env]:=by rfl):PS X (.Assign [tg] e pos) (tAsg te g):=by
 intro pins s σ H D I h
 refine wpAny_Assign_stores (thn (he pins s σ H _ I h) fun v s1 ⟨x,H1,I1,r1,q1⟩=>?_) hs hw
 rw [h1]
 exact thn (hg pins s1 σ H1 x v _ I1 r1 q1) fun _ s2 q=>q
theorem ZAJ {i:Nat} {x:Str} {e:Expr} {te:TE} {pos':Pos} (hN:X.N.Nodup) (hi:X.N[i]?=some x) (hx:Loc X.env.scope x) (he:PE X e te) (hs:swapsWith e (some (.Name x pos')) pos.line X.env=pure false:=by rfl) (hf:X.fn x=true∨X.env.scope.names.lookup x=some .local:=by first | exact .inl rfl | exact .inr rfl | assumption) :
  PS X (.Assign [.Name x pos'] e pos) (tAsg te (ZDq i)):=by
 intro pins s σ H D I h
 refine wpAny_Assign_Name (thn (he pins s σ H _ I h) fun v s1 ⟨y,H1,I1,r1,q1⟩=>?_) hs
 exact ZCK I1 hN hi hx r1 (fun s2 I2=>⟨_,H1,I2,q1⟩) hf
def tAug (i:Nat) (te:TE) (ti:TIp):TS:=fun D σ H=>∃ x,σ[i]?=some (some x) /\ te σ H fun y H1=>ti x y H1 fun z H2=>D.nx (σ.set i (some z)) H2
theorem ZDK {i:Nat} {x:Str} {e:Expr} {te:TE} {op:Operator} {ti:TIp} {pos':Pos} (hN:X.N.Nodup) (hi:X.N[i]?=some x) (hx:Loc X.env.scope x) (he:PE X e te) (ho:PIp X op ti) (hf:X.fn x=true∨X.env.scope.names.lookup x=some .local:=by first | exact .inl rfl | exact .inr rfl | assumption) :
  PS X (.AugAssign (.Name x pos') op e pos) (tAug i te ti):=by
 intro pins s σ H D I h
 obtain ⟨v,e1,h⟩:=h
 obtain ⟨m,hn,hl⟩:=I.loc
 have vis:Vis X.env.scope x:=by rcases hx with k | k;exact .inl k;exact .inr (.inl k)
 obtain ⟨u,r,l⟩:=hl i x v hi e1 vis
 refine wpAny_AugAssign_Name ?_
 have go:wpAny (model X.prog X.w) X.A (eval e X.env) (fun w s₂=>wpAny (model X.prog X.w) X.A (inplaceOp op u w) (fun r s₃=>wpAny (model X.prog X.w) X.A (storeName X.env x r) (fun _=>SP X pins D .next) X.xe s₃) X.xe s₂) X.xe s:=by
  refine thn (he pins s σ H _ I h) fun w s1 ⟨y,H1,I1,r1,q1⟩=>?_
  refine thn (ho pins s1 σ H1 v y u w _ I1 r r1 q1) fun z s2 ⟨zv,H2,I2,r2,q2⟩=>?_
  exact ZCK I2 hN hi hx r2 (fun s3 I3=>⟨_,H2,I3,q2⟩) hf
 rcases l with ⟨hk,hm⟩ | ⟨hk,c,hc,hcell⟩
 .exact wpAny_loadName_local I.ok.kind hk hn hm go
 .rcases hk with hk | hk
  .exact wpAny_loadName_cell I.ok.kind hk hc hcell go
  .rcases hx with k | k
   .have:X.env.scope.names.lookup x=some .free:=hk
    rw [k] at this;cases this
   .have:X.env.scope.names.lookup x=some .free:=hk
    rw [k] at this;cases this
def ipI (f:Int->Int->Int):TIp:=fun x y H Q=>∃ i j,x=.int i /\ y=.int j /\ Q (.int (f i j)) H
theorem ZDP:PIp X .Add (ipI fun i j=>i+j):=by
 intro pins s σ H x y v u Q I r1 r2 h
 obtain ⟨i,j,e1,e2,q⟩:=h
 subst e1;subst e2
 obtain ⟨t,rfl⟩:=r1
 obtain ⟨t',rfl⟩:=r2
 exact iadd_int ⟨.int _,H,I.tok _,⟨_,rfl⟩,q⟩
end
section
variable {X:Cx} {pos:Pos}
def tWhile (c:TT) (tb:TS):TS:=fun D σ H=>∃ W:Nat->St->Hp->Prop,(∃ m,W m σ H) /\ ∀ m σ H,W m σ H ->
 c σ H fun b H1=>if b=true then ∃ N:St->Hp->Prop,(∀ σ' H',N σ' H'->∃ m',m' < m /\ W m' σ' H') /\ tb { D with nx:=N,ct:=N,bk:=D.nx } σ H1 else D.nx σ H1
theorem ZBQ {c:Expr} {body:List Stmt} {tc:TT} {tb:TS} (hp:PassesOwn (model X.prog X.w) X.A X.env X.xe) (hc:PT X c tc) (hb:PSs X body tb):PS X (.While c body [] pos) (tWhile tc tb):=by
 intro pins s σ H D I h
 obtain ⟨W,⟨m0,w0⟩,turn⟩:=h
 refine wpAny_While (codeAny_whileLoop (fun n s'=>∃ σ' H',Inv X pins σ' H' s' /\ W n σ' H') ?_ m0 ⟨σ,H,I,w0⟩)
 rintro n s1 ⟨σ1,H1,I1,w1⟩
 refine wpAny_passesOwn hp (thn (hc pins s1 σ1 H1 _ I1 (turn n σ1 H1 w1)) fun b s2 ⟨H2,I2,q2⟩=>?_)
 cases b with
 | true=>
  obtain ⟨N,hN,q2⟩:=q2
  rw [if_pos rfl]
  refine wpAny_passesOwn hp (thn (hb pins s2 σ1 H2 _ I2 q2) fun f s3 q3=>?_)
  cases f with
  | next=>
   obtain ⟨σ3,H3,I3,n3⟩:=q3
   obtain ⟨m',hm,w3⟩:=hN σ3 H3 n3
   exact ⟨m',hm,σ3,H3,I3,w3⟩
  | cont=>
   obtain ⟨σ3,H3,I3,n3⟩:=q3
   obtain ⟨m',hm,w3⟩:=hN σ3 H3 n3
   exact ⟨m',hm,σ3,H3,I3,w3⟩
  | brk=>exact q3
  | ret v=>exact q3
 | false=>
  rw [if_neg yAW]
  exact wpAny_execs_nil ⟨σ1,H2,I2,q2⟩
end
structure It where
 go:Nat->Hp->Prop
 yld:Nat->Hp->V->Hp->Prop
 stop:Nat->Hp->Prop
def FpOk (X:Cx) (pins:List (Addr×Obj)) (H:Hp) (b:Addr):Prop :=
 H b=none /\ b≠X.env.locals /\ b∉X.fs /\ (b∈X.ex∨X.s₀.heap.objs.size <= b) /\ (∀ x c,X.env.cells.lookup x=some c->c≠b) /\ ∀ p∈X.pn++pins,p.1≠b
theorem Inv.fpOk {X:Cx} {pins:List (Addr×Obj)} {σ:St} {H H':Hp} {s:Shared} {b:Addr} (I:Inv X pins σ H s) (hb:s.heap.objs.size <= b) (hn:H' b=none):FpOk X pins H' b:=by
 refine ⟨hn,Nat.ne_of_gt (yAP I.lt hb),I.nofs hb,.inr (yAI I.sz hb),fun x c e z=>?_,fun p hp z=>?_⟩
 .obtain ⟨v,q⟩:=I.cell x c e
  exact absurd (yAP q.lt (by rw [z];exact hb)) (yBO _)
 .exact absurd (yAP (Heap.lt_size (I.pin p hp).1) (by rw [z];exact hb)) (yBO _)
structure Turn (P:Program) (w:World) (K:W.Frag) (tg:Expr) (J:It) (fp:List Addr) (it:Addr) (tn:Nat->Heap->Prop):Prop where
 mem:it∈fp
 obj:∀ i h,tn i h->∀ b∈fp,∃ o,h.get? b=some o /\ ∀ v,o.data≠.cell v
 keep:∀ i h h',tn i h->(∀ b∈fp,∀ o,h.get? b=some o->h'.get? b=some o)->tn i h'
 item:∀ (X:Cx),X.prog=P->X.w=w->X.K=K->X.calm=true->∀ (i:Nat) (pins:List (Addr×Obj)) (s:Shared) (σ:St) (H:Hp) (E:Value->Shared->Prop),Inv X pins σ H s->(∀ b∈fp,FpOk X pins H b)->tn i s.heap->J.go i H ->
  wpAny (model P w) X.A (pyNext (.ref it)) (fun r s1=>∃ u,r=some u /\
   wpAny (model P w) X.A (letOwnedTupleGo tg (.ref it) u) (fun _ s2=>∃ x H',Inv X pins σ H' s2 /\ RelV x u /\ J.yld i H x H' /\ tn (i+1) s2.heap /\ ∀ b∈fp,H' b=none) E s1) E s
 done:∀ (X:Cx),X.prog=P->X.w=w->X.K=K->X.calm=true->∀ (i:Nat) (pins:List (Addr×Obj)) (s:Shared) (σ:St) (H:Hp) (E:Value->Shared->Prop),Inv X pins σ H s->(∀ b∈fp,FpOk X pins H b)->tn i s.heap->J.stop i H ->
  wpAny (model P w) X.A (pyNext (.ref it)) (fun r s1=>r=none /\ Inv X pins σ H s1) E s
 self:∀ (A:Around) (i:Nat) (s:Shared) (Q:Value->Shared->Prop) (E:Value->Shared->Prop),tn i s.heap->Q (.ref it) s->wpAny (model P w) A (pyIter (.ref it)) Q E s
abbrev TI:=St->Hp->(It->Hp->Prop)->Prop
def PIE (X:Cx) (pins:List (Addr×Obj)) (σ:St) (tg:Expr) (R:It->Hp->Prop) (itv:Value) (s2:Shared):Prop :=
 ∃ (it:Addr) (fp:List Addr) (tn:Nat->Heap->Prop) (J:It) (H':Hp),itv=.ref it /\ Inv X pins σ H' s2 /\ Turn X.prog X.w X.K tg J fp it tn /\ tn 0 s2.heap /\ (∀ b∈fp,FpOk X pins H' b) /\ R J H'
def PI (X:Cx) (tg iter:Expr) (wi:TI):Prop :=
 ∀ (pins:List (Addr×Obj)) (s:Shared) (σ:St) (H:Hp) (R:It->Hp->Prop),Inv X pins σ H s->wi σ H R ->
  wpAny (model X.prog X.w) X.A (eval iter X.env) (fun v s1=>wpAny (model X.prog X.w) X.A (pyIter v) (PIE X pins σ tg R) X.xe s1) X.xe s
theorem go_of {M:Model} {A:Around} {E:Value->Shared->Prop} {s:Shared} {tg:Expr} {it:Addr} {u:Value} {o:Obj} {n:String} {vs:Array Value} {Q:Unit->Shared->Prop} (ho:s.heap.get? it=some o) (hc:o.cls=.type n) (hd:o.data=.fields vs)
  (hn:["enumerate","zip","dict_itemiterator","dict_reverseitemiterator","odict_iterator","itertools.zip_longest","itertools.pairwise"].contains n=false) (hQ:Q () s):wpAny M A (letOwnedTupleGo tg (.ref it) u) Q E s:=by
 unfold letOwnedTupleGo
 cases tg <;> first
  | exact wpAny_pure hQ
  | (cases u <;> first
    | exact wpAny_pure hQ
    | (refine wpAny_bind (wpAny_load ho ?_)
       rw [hc,hd]
       show wpAny M A (if (["enumerate","zip","dict_itemiterator","dict_reverseitemiterator","odict_iterator","itertools.zip_longest","itertools.pairwise"].contains n && vs[0]? == some (rawInt _))=true then _ else _) Q E s
       rw [if_neg (by intro h;rw [hn,Bool.false_and] at h;cases h)]
       exact wpAny_pure hQ))
def Itl (K:W.Frag) (a:Addr):It :=
 ⟨fun i H=>∃ xs x,SqL K H a xs /\ xs[i]?=some x,fun i H x H'=>H'=H /\ ∀ xs,SqL K H a xs->xs[i]?=some x,fun i H=>∃ xs,SqL K H a xs /\ xs.length <= i⟩
def Itr (lo:Int) (n:Nat):It:=⟨fun i _=>i < n,fun i H x H'=>H'=H /\ x=.int (lo+i),fun i _=>n <= i⟩
theorem turn_list {P:Program} {w:World} {K:W.Frag} {tg:Expr} (a it:Addr):Turn P w K tg (Itl K a) [it] it (fun i h=>h.IsListIter it a i) where
 mem:=by simp
 obj:=fun i h st b hb=>by
  have e:b=it:=by simpa using hb
  subst e
  obtain ⟨o,e,c,d⟩:=st
  exact ⟨o,e,fun v z=>by rw [d] at z;cases z⟩
 keep:=fun i h h' st k=>st.at fun o e=>k it (by simp) o e
 item:=by
  intro X hP hw hK hc i pins s σ H E I hf st hg
  subst hP hw hK
  obtain ⟨xs,x,hq,hx⟩:=hg
  obtain ⟨its,rv,p,hz⟩:=I.list hq
  obtain ⟨u,hu,ru⟩:=rv.get hx
  obtain ⟨f0,f1,f2,f3,f4,f5⟩:=hf it (by simp)
  refine wpAny_pyNext_list_item st p.isList (x:=u) (by simpa using hu) fun h' st' sb=>?_
  have I1:Inv X pins σ H { s with heap:=h' }:=I.turned (t':=s.toks) (fun b o hb e=>(sb.2 b hb).trans e) f0 f1 f3 f4 f5
  obtain ⟨o,e,c,d⟩:=id st'
  exact ⟨u,rfl,go_of (s:={ s with heap:=h' }) e c d (by decide) ⟨x,H,I1,ru,⟨rfl,fun ys hy=>by rw [I.list_inj hy hq];exact hx⟩,st',fun b hb=>(hf b hb).1⟩⟩
 done:=by
  intro X hP hw hK hc i pins s σ H E I hf st hg
  subst hP hw hK
  obtain ⟨xs,hq,hx⟩:=hg
  obtain ⟨its,rv,p,hz⟩:=I.list hq
  obtain ⟨f0,f1,f2,f3,f4,f5⟩:=hf it (by simp)
  have hl:=rv.length
  exact wpAny_pyNext_list_end (I.ok.hd hc) st p.isList (by simp;omega) fun h' eb=>⟨rfl,I.turned (t':=s.toks) (fun b o hb e=>eb b o hb e) f0 f1 f3 f4 f5⟩
 self:=fun _ _ _ _ _ st h=>wpAny_pyIter_listiter st h
theorem turn_range {P:Program} {w:World} {K:W.Frag} {tg:Expr} (it:Addr) (lo:Int) (n:Nat):Turn P w K tg (Itr lo n) [it] it (fun i h=>IsRangeIter h it (lo+(i:Nat) * 1) ((n:Int)-(i:Nat)) 1) where
 mem:=by simp
 obj:=fun i h st b hb=>by
  have e:b=it:=by simpa using hb
  subst e
  exact ⟨_,st,fun v z=>by
   have z':Data.fields _=Data.cell v:=z
   cases z'⟩
 keep:=fun i h h' st k=>k it (by simp) _ st
 item:=by
  intro X hP hw hK hc i pins s σ H E I hf st hg
  subst hP hw hK
  obtain ⟨f0,f1,f2,f3,f4,f5⟩:=hf it (by simp)
  have W:=Walks.range (prog:=X.prog) (w:=X.w) (I.ok.hd hc) it lo 1 n
  refine W.item i s _ _ hg st fun v h' tk hv st' kk=>?_
  obtain ⟨t,rfl⟩:=hv
  have I1:Inv X pins σ H { s with heap:=h',toks:=tk }:=I.turned (fun b o hb e=>kk b o (by simpa using hb) e) f0 f1 f3 f4 f5
  refine ⟨_,rfl,go_of (s:={ s with heap:=h',toks:=tk }) (n:="range_iterator") st' rfl rfl (by decide) ⟨.int (lo+i),H,I1,⟨t,?_⟩,⟨rfl,rfl⟩,st',fun b hb=>(hf b hb).1⟩⟩
  rw [Int.mul_one]
 done:=by
  intro X hP hw hK hc i pins s σ H E I hf st hg
  subst hP hw hK
  obtain ⟨f0,f1,f2,f3,f4,f5⟩:=hf it (by simp)
  exact wpAny_pyNext_range_end (I.ok.hd hc) st (by have:n <= i:=hg;omega) fun h' eb=>⟨rfl,I.turned (t':=s.toks) (fun b o hb e=>eb b o hb e) f0 f1 f3 f4 f5⟩
 self:=fun _ _ _ _ _ st h=>wpAny_pyIter_rangeiter st h
section
variable {X:Cx} {tg:Expr}
def ZD6 (K:W.Frag) (tl:TE):TI:=fun σ H R=>tl σ H fun x H1=>∃ a,x=.ref a /\ (∃ xs,SqL K H1 a xs) /\ R (Itl K a) H1
theorem ZCs {l:Expr} {tl:TE} (hl:PE X l tl):PI X tg l (ZD6 X.K tl):=by
 intro pins s σ H R I h
 refine thn (hl pins s σ H _ I h) fun v s1 ⟨x,H1,I1,r1,q1⟩=>?_
 obtain ⟨a,e,⟨xs,hq⟩,q⟩:=q1
 subst e
 cases r1
 obtain ⟨its,rv,p,hz⟩:=I1.list hq
 refine wpAny_pyIter_list p.isList ?_
 refine ⟨s1.heap.objs.size,[s1.heap.objs.size],_,_,H1,rfl,I1.kept (t':=s1.toks) fun b o e=>Heap.get?_push_of_some _ e,turn_list a _,⟨_,Heap.get?_push_size _ rfl,rfl,rfl⟩,fun b hb=>?_,q⟩
 have e:b=s1.heap.objs.size:=by simpa using hb
 subst e
 exact I1.fpOk (yAA _) (I1.hok.fresh (yAA _))
theorem range_it {pins:List (Addr×Obj)} {σ:St} {H:Hp} {s:Shared} {R:It->Hp->Prop} {E:Value->Shared->Prop} {lo hi:Int} {t u v:Tok} {tk:Nat} (I:Inv X pins σ H s) (h1:-(2 ^ 62) <= lo) (h2:lo < 2 ^ 62) (h3:-(2 ^ 62) <= hi) (h4:hi < 2 ^ 62)
  (q:R (Itr lo (hi-lo).toNat) H):wpAny (model X.prog X.w) X.A (pyIter (.ref s.heap.objs.size)) (PIE X pins σ tg R) E { s with heap:=s.heap.push { cls:=.type "range",data:=.fields #[.int lo t,.int hi u,.int 1 v] },toks:=tk }:=by
 refine wpAny_pyIter_range (IsRange.new ..) (small_one h1 h2 h3 h4) ?_
 have I1:Inv X pins σ H { s with heap:=s.heap.push { cls:=.type "range",data:=.fields #[.int lo t,.int hi u,.int 1 v] },toks:=tk }:=I.kept fun b o e=>Heap.get?_push_of_some _ e
 refine ⟨(s.heap.push { cls:=.type "range",data:=.fields #[.int lo t,.int hi u,.int 1 v] }).objs.size,[(s.heap.push { cls:=.type "range",data:=.fields #[.int lo t,.int hi u,.int 1 v] }).objs.size],_,_,H,rfl,
  I1.kept (t':=tk) fun b o e=>Heap.get?_push_of_some _ e,turn_range _ lo (hi-lo).toNat,?_,fun b hb=>?_,q⟩
 .have e1:lo+((0:Nat):Int) * 1=lo:=by simp
  have e2:(((hi-lo).toNat:Nat):Int)-((0:Nat):Int)=Builtin.Range.rangeSize lo hi 1:=by rw [rangeSize_one];split <;> omega
  show IsRangeIter _ _ (lo+((0:Nat):Int) * 1) ((((hi-lo).toNat:Nat):Int)-((0:Nat):Int)) 1
  rw [e1,e2]
  exact Heap.get?_push_size _ rfl
 .have e:b=(s.heap.push { cls:=.type "range",data:=.fields #[.int lo t,.int hi u,.int 1 v] }).objs.size:=by simpa using hb
  subst e
  exact I1.fpOk (yAA _) (I1.hok.fresh (yAA _))
def iRng1 (ta:TA):TI:=fun σ H R=>ta σ H fun vs H1=>∃ j:Int,vs=[.int j] /\ -(2 ^ 62) <= j /\ j < 2 ^ 62 /\ R (Itr 0 j.toNat) H1
def ZD5 (ta:TA):TI:=fun σ H R=>ta σ H fun vs H1=>∃ i j:Int,vs=[.int i,.int j] /\ (-(2 ^ 62) <= i /\ i < 2 ^ 62 /\ -(2 ^ 62) <= j /\ j < 2 ^ 62) /\ R (Itr i (j-i).toNat) H1
theorem pi_range2 {a b:Expr} {ta:TA} {p pos:Pos} (hg:Gl X "range") (hm:X.mg "range"=none) (ha:PA X [a,b] ta) (hs:starEach [a,b] X.env=[(false,eval a X.env),(false,eval b X.env)]:=by rfl) (hs2:starEach [b] X.env=[(false,eval b X.env)]:=by rfl) :
  PI X tg (.Call (.Name "range" p) [a,b] [] pos) (ZD5 ta):=by
 intro pins s σ H R I h
 refine Call_ (ZDO I hg hm boot_range (PyProof.Rows.callWith_type1 (thn (ha pos pins s σ H _ I h) fun us s1 ⟨vs,H1,I1,r1,q1⟩=>?_) (by rw [hs,hs2]) (by rw [hs2];rfl)))
 obtain ⟨i,j,e,⟨q1,q2,q3,q4⟩,q⟩:=q1
 subst e
 cases r1 with
 | cons r rr=>
  cases rr with
  | cons r' rr=>
   cases rr
   obtain ⟨t,rfl⟩:=r
   obtain ⟨t',rfl⟩:=r'
   exact call_range_2 (range_it I1 q1 q2 q3 q4 q)
def tFor (wi:TI) (g:TG) (tb:TS):TS:=fun D σ H=>wi σ H fun J H1=>∃ W:Nat->Nat->St->Hp->Prop,(∃ m,W 0 m σ H1) /\ ∀ i m σ H,W i m σ H ->
 (J.stop i H /\ D.nx σ H)∨(J.go i H /\ ∃ N:St->Hp->Prop,(∀ σ' H',N σ' H'->∃ m',m' < m /\ W (i+1) m' σ' H') /\ ∀ x H',J.yld i H x H'->g x σ H' fun σ2 H2=>tb { D with nx:=N,ct:=N,bk:=D.nx } σ2 H2)
def ZC1 (fp:List Addr) (h:Heap):List (Addr×Obj):=fp.filterMap fun b=>(h.get? b).map fun o=>(b,o)
theorem ZBp {fp:List Addr} {h:Heap} {b:Addr} {o:Obj} (hb:b∈fp) (e:h.get? b=some o):(b,o)∈ZC1 fp h:=List.mem_filterMap.mpr ⟨b,hb,by rw [e];rfl⟩
theorem of_pinsAt {fp:List Addr} {h:Heap} {p:Addr×Obj} (hp:p∈ZC1 fp h):p.1∈fp /\ h.get? p.1=some p.2:=by
 obtain ⟨b,hb,e⟩:=List.mem_filterMap.mp hp
 cases q:h.get? b with
 | none=>rw [q] at e;cases e
 | some o=>
  rw [q] at e
  have e':(b,o)=p:=Option.some.inj e
  subst e'
  exact ⟨hb,q⟩
theorem Inv.pinned {pins:List (Addr×Obj)} {σ:St} {H:Hp} {s:Shared} {fp:List Addr} (I:Inv X pins σ H s) (hf:∀ b∈fp,FpOk X pins H b) (ho:∀ b∈fp,∃ o,s.heap.get? b=some o /\ ∀ v,o.data≠.cell v):Inv X (pins++ZC1 fp s.heap) σ H s :=
 I.pins_of fun p hp=>(yBC.mp hp).elim (fun z=>I.pin p (yAV _ z)) fun z=>by
  obtain ⟨hb,e⟩:=of_pinsAt z
  obtain ⟨f0,f1,f2,_⟩:=hf p.1 hb
  obtain ⟨o,e',d⟩:=ho p.1 hb
  rw [e] at e';cases e'
  exact ⟨e,f0,f1,f2,d⟩
theorem Inv.unpinned {pins pl:List (Addr×Obj)} {σ:St} {H:Hp} {s:Shared} (I:Inv X (pins++pl) σ H s):Inv X pins σ H s:=I.pins_of fun p hp=>I.pin p (yAV _ (yBK _ hp))
theorem ZDJ {iter:Expr} {body:List Stmt} {wi:TI} {g:TG} {tb:TS} {pos:Pos} (hp:PassesOwn (model X.prog X.w) X.A X.env X.xe) (hc:X.calm=true) (hi:PI X tg iter wi) (hg:PG X tg g) (hb:PSs X body tb)
  (hs:∀ x,foldedSetIterable iter X.env x=pure x:=by intro _;rfl):PS X (.For tg iter body [] pos) (tFor wi g tb):=by
 intro pins s σ H D I h
 refine wpAny_For (thn (hi pins s σ H _ I h) fun v s1 h1=>thn h1 fun itv s2 h2=>?_) hs
 obtain ⟨it,fp,tn,J,H2,e,I2,T,st2,f2,W,⟨m0,w0⟩,turn⟩:=h2
 subst e
 have stat:∀ {H':Hp},(∀ b∈fp,H' b=none)->∀ b∈fp,FpOk X pins H' b:=fun hn b hb=>⟨hn b hb,(f2 b hb).2⟩
 refine codeAny_forLoop_any (fun n s'=>∃ i σ' H',Inv X pins σ' H' s' /\ tn i s'.heap /\ (∀ b∈fp,H' b=none) /\ W i n σ' H') ?_ m0 ⟨0,σ,H2,I2,st2,fun b hb=>(f2 b hb).1,w0⟩
 rintro n s3 ⟨i,σ3,H3,I3,st3,fr3,w3⟩
 rcases turn i n σ3 H3 w3 with ⟨stop,qn⟩ | ⟨go,N,hN,step⟩
 .refine wpAny_passesOwn hp (thn (T.done X rfl rfl rfl hc i pins s3 σ3 H3 X.xe I3 (stat fr3) st3 stop) fun r s4 ⟨hr,I4⟩=>?_)
  subst hr
  exact wpAny_execs_nil ⟨σ3,H3,I4,qn⟩
 .refine wpAny_passesOwn hp (thn (T.item X rfl rfl rfl hc i pins s3 σ3 H3 X.xe I3 (stat fr3) st3 go) fun r s4 ⟨u,hr,h4⟩=>?_)
  subst hr
  refine wpAny_passesOwn hp (thn h4 fun _ s5 ⟨x,H5,I5,r5,y5,st5,fr5⟩=>?_)
  have I5':=I5.pinned (stat fr5) (T.obj _ _ st5)
  refine wpAny_passesOwn hp (thn (hg _ s5 σ3 H5 x u _ I5' r5 (step x H5 y5)) fun _ s6 ⟨σ6,H6,I6,q6⟩=>?_)
  refine wpAny_passesOwn hp (thn (hb _ s6 σ6 H6 _ I6 q6) fun f s7 q7=>?_)
  have again:∀ {σ7:St} {H7:Hp},Inv X (pins++ZC1 fp s5.heap) σ7 H7 s7->N σ7 H7->∃ m,m < n /\ ∃ i σ' H',Inv X pins σ' H' s7 /\ tn i s7.heap /\ (∀ b∈fp,H' b=none) /\ W i m σ' H':=fun {σ7 H7} I7 n7=>by
   obtain ⟨m',hm,w7⟩:=hN σ7 H7 n7
   refine ⟨m',hm,i+1,σ7,H7,I7.unpinned,T.keep _ _ _ st5 fun b hb o e=>(I7.pin (b,o) (yAV _ (yAV _ (ZBp hb e)))).1,fun b hb=>?_,w7⟩
   obtain ⟨o,e,d⟩:=T.obj _ _ st5 b hb
   exact (I7.pin (b,o) (yAV _ (yAV _ (ZBp hb e)))).2.1
  cases f with
  | next=>obtain ⟨σ7,H7,I7,n7⟩:=q7;exact again I7 n7
  | cont=>obtain ⟨σ7,H7,I7,n7⟩:=q7;exact again I7 n7
  | brk=>obtain ⟨σ7,H7,I7,q7⟩:=q7;exact ⟨σ7,H7,I7.unpinned,q7⟩
  | ret v=>obtain ⟨x7,σ7,H7,I7,r7,q7⟩:=q7;exact ⟨x7,σ7,H7,I7.unpinned,r7,q7⟩
end
theorem for_list {K:W.Frag} {a:Addr} {xs:List V} {g:TG} {tb:TS} {D:Ends} {σ:St} {H:Hp} (Pv:Nat->St->Hp->Prop) (h0:Pv 0 σ H) (hl:∀ i σ H,i <= xs.length->Pv i σ H->SqL K H a xs)
  (hs:∀ i x σ H,xs[i]?=some x->Pv i σ H->g x σ H fun σ2 H2=>tb { D with nx:=Pv (i+1),ct:=Pv (i+1),bk:=D.nx } σ2 H2) (hd:∀ σ H,Pv xs.length σ H->D.nx σ H) :
  ∃ W:Nat->Nat->St->Hp->Prop,(∃ m,W 0 m σ H) /\ ∀ i m σ H,W i m σ H ->
   ((Itl K a).stop i H /\ D.nx σ H)∨((Itl K a).go i H /\ ∃ N:St->Hp->Prop,(∀ σ' H',N σ' H'->∃ m',m' < m /\ W (i+1) m' σ' H') /\ ∀ x H',(Itl K a).yld i H x H'->g x σ H' fun σ2 H2=>tb { D with nx:=N,ct:=N,bk:=D.nx } σ2 H2):=by
 refine ⟨fun i m σ H=>m=xs.length-i /\ i <= xs.length /\ Pv i σ H,⟨xs.length,by simp,yAH _,h0⟩,?_⟩
 rintro i m σ H ⟨rfl,hi,p⟩
 have q:=hl i σ H hi p
 by_cases hlt:i < xs.length
 .refine .inr ⟨⟨xs,xs[i],q,by simp [hlt]⟩,Pv (i+1),fun σ' H' p'=>⟨xs.length-(i+1),by omega,rfl,hlt,p'⟩,fun x H' y=>?_⟩
  obtain ⟨e,y⟩:=y
  subst e
  exact hs i x σ _ (y xs q) p
 .have e:i=xs.length:=by omega
  subst e
  exact .inl ⟨⟨xs,q,yAA _⟩,hd σ H p⟩
theorem for_range {lo:Int} {n:Nat} {g:TG} {tb:TS} {D:Ends} {σ:St} {H:Hp} (Pv:Nat->St->Hp->Prop) (h0:Pv 0 σ H)
  (hs:∀ i σ H,i < n->Pv i σ H->g (.int (lo+i)) σ H fun σ2 H2=>tb { D with nx:=Pv (i+1),ct:=Pv (i+1),bk:=D.nx } σ2 H2) (hd:∀ σ H,Pv n σ H->D.nx σ H) :
  ∃ W:Nat->Nat->St->Hp->Prop,(∃ m,W 0 m σ H) /\ ∀ i m σ H,W i m σ H ->
   ((Itr lo n).stop i H /\ D.nx σ H)∨((Itr lo n).go i H /\ ∃ N:St->Hp->Prop,(∀ σ' H',N σ' H'->∃ m',m' < m /\ W (i+1) m' σ' H') /\ ∀ x H',(Itr lo n).yld i H x H'->g x σ H' fun σ2 H2=>tb { D with nx:=N,ct:=N,bk:=D.nx } σ2 H2):=by
 refine ⟨fun i m σ H=>m=n-i /\ i <= n /\ Pv i σ H,⟨n,by simp,yAH _,h0⟩,?_⟩
 rintro i m σ H ⟨rfl,hi,p⟩
 by_cases hlt:i < n
 .refine .inr ⟨hlt,Pv (i+1),fun σ' H' p'=>⟨n-(i+1),by omega,rfl,hlt,p'⟩,fun x H' y=>?_⟩
  obtain ⟨e,y⟩:=y
  subst e y
  exact hs i σ _ hlt p
 .have e:i=n:=by omega
  subst e
  exact .inl ⟨yAA _,hd σ H p⟩
abbrev R2:=V->V->Hp->VK->Prop
def OpR (X:Cx) (f:Value->Value->Sem Value) (r:R2):Prop :=
 ∀ (pins:List (Addr×Obj)) (s:Shared) (σ:St) (H:Hp) (x y:V) (v u:Value) (Q:VK),Inv X pins σ H s->RelV x v->RelV y u->r x y H Q ->
  wpAny (model X.prog X.w) X.A (f v u) (EP X pins σ Q) X.xe s
def UnR (X:Cx) (f:Value->Sem Value) (r:V->Hp->VK->Prop):Prop :=
 ∀ (pins:List (Addr×Obj)) (s:Shared) (σ:St) (H:Hp) (x:V) (v:Value) (Q:VK),Inv X pins σ H s->RelV x v->r x H Q ->
  wpAny (model X.prog X.w) X.A (f v) (EP X pins σ Q) X.xe s
def ZCb (X:Cx) (f:Value) (r:List V->Hp->VK->Prop):Prop :=
 ∀ (pins:List (Addr×Obj)) (s:Shared) (σ:St) (H:Hp) (xs:List V) (us:List Value) (Q:VK),Inv X pins σ H s->Vals xs us->r xs H Q ->
  wpAny (model X.prog X.w) X.A (call f us) (EP X pins σ Q) X.xe s
def tOp (r:R2) (ta tb:TE):TE:=fun σ H Q=>ta σ H fun x H1=>tb σ H1 fun y H2=>r x y H2 Q
def tUn (r:V->Hp->VK->Prop) (ta:TE):TE:=fun σ H Q=>ta σ H fun x H1=>r x H1 Q
def rI (C:Int->Int->Prop) (g:Int->Int->V):R2:=fun x y H Q=>∃ i j,x=.int i /\ y=.int j /\ C i j /\ Q (g i j) H
def rI0 (g:Int->Int->V):R2:=fun x y H Q=>∃ i j,x=.int i /\ y=.int j /\ Q (g i j) H
def rU (g:Int->V):V->Hp->VK->Prop:=fun x H Q=>∃ i,x=.int i /\ Q (g i) H
section
variable {X:Cx} {a b c:Expr} {ta tb tc:TE} {pos:Pos}
theorem binT (ha:PE X a ta) (hb:PE X b tb) {pins:List (Addr×Obj)} {s:Shared} {σ:St} {H:Hp} {R:V->V->Hp->Prop} (I:Inv X pins σ H s)
  (h:ta σ H fun x H1=>tb σ H1 fun y H2=>R x y H2) {Q:Value->Shared->Prop} {f:Value->Value->Sem Value}
  (hf:∀ v u s2 x y H2,Inv X pins σ H2 s2->RelV x v->RelV y u->R x y H2->wpAny (model X.prog X.w) X.A (f v u) Q X.xe s2) :
  wpAny (model X.prog X.w) X.A (eval a X.env) (fun v s₁=>wpAny (model X.prog X.w) X.A (eval b X.env) (fun u s₂=>wpAny (model X.prog X.w) X.A (f v u) Q X.xe s₂) X.xe s₁) X.xe s:=by
 refine thn (ha pins s σ H _ I h) fun v s1 ⟨x,H1,I1,r1,q1⟩=>?_
 refine thn (hb pins s1 σ H1 _ I1 q1) fun u s2 ⟨y,H2,I2,r2,q2⟩=>?_
 exact hf v u s2 x y H2 I2 r1 r2 q2
theorem ZAQ {op:Operator} {r:R2} (ho:OpR X (binaryOp op) r) (ha:PE X a ta) (hb:PE X b tb):PE X (.BinOp a op b pos) (tOp r ta tb):=by
 intro pins s σ H Q I h
 exact wpAny_BinOp (binT ha hb I h fun v u s2 x y H2 I2 rx ry q=>ho pins s2 σ H2 x y v u Q I2 rx ry q)
theorem ZD3 {op:UnaryOp} {r:V->Hp->VK->Prop} (ho:UnR X (unaryOp op) r) (ha:PE X a ta):PE X (.UnaryOp op a pos) (tUn r ta):=by
 intro pins s σ H Q I h
 exact UnaryOp_ (thn (ha pins s σ H _ I h) fun v s1 ⟨x,H1,I1,r1,q1⟩=>ho pins s1 σ H1 x v Q I1 r1 q1)
theorem opI {f:Value->Value->Sem Value} {C:Int->Int->Prop} {g:Int->Int->Int}
  (rule:∀ (i j:Int) (t u:Tok) (s:Shared) (Q:Value->Shared->Prop) (E:Value->Shared->Prop),C i j->Q (.int (g i j) s.toks) { s with toks:=s.toks+1 }->wpAny (model X.prog X.w) X.A (f (.int i t) (.int j u)) Q E s) :
  OpR X f (rI C fun i j=>.int (g i j)):=by
 intro pins s σ H x y v u Q I rx ry h
 obtain ⟨i,j,rfl,rfl,hc,q⟩:=h
 obtain ⟨t,rfl⟩:=rx
 obtain ⟨t',rfl⟩:=ry
 exact rule i j t t' s _ _ hc ⟨.int (g i j),H,I.tok _,⟨_,rfl⟩,q⟩
theorem opI0 {f:Value->Value->Sem Value} {g:Int->Int->Int}
  (rule:∀ (i j:Int) (t u:Tok) (s:Shared) (Q:Value->Shared->Prop) (E:Value->Shared->Prop),Q (.int (g i j) s.toks) { s with toks:=s.toks+1 }->wpAny (model X.prog X.w) X.A (f (.int i t) (.int j u)) Q E s) :
  OpR X f (rI0 fun i j=>.int (g i j)):=by
 intro pins s σ H x y v u Q I rx ry h
 obtain ⟨i,j,rfl,rfl,q⟩:=h
 obtain ⟨t,rfl⟩:=rx
 obtain ⟨t',rfl⟩:=ry
 exact rule i j t t' s _ _ ⟨.int (g i j),H,I.tok _,⟨_,rfl⟩,q⟩
theorem opB0 {f:Value->Value->Sem Value} {g:Int->Int->Bool}
  (rule:∀ (i j:Int) (t u:Tok) (s:Shared) (Q:Value->Shared->Prop) (E:Value->Shared->Prop),Q (.bool (g i j)) s->wpAny (model X.prog X.w) X.A (f (.int i t) (.int j u)) Q E s) :
  OpR X f (rI0 fun i j=>.bl (g i j)):=by
 intro pins s σ H x y v u Q I rx ry h
 obtain ⟨i,j,rfl,rfl,q⟩:=h
 obtain ⟨t,rfl⟩:=rx
 obtain ⟨t',rfl⟩:=ry
 exact rule i j t t' s _ _ ⟨.bl (g i j),H,I,rfl,q⟩
def CDiv (i j:Int):Prop:=0 < j /\ j < 1073741824
def CMul (i j:Int):Prop:=(-(2 ^ 64) < i /\ i < 2 ^ 64)∨(-(2 ^ 64) < j /\ j < 2 ^ 64)
theorem CMul.ok {i j:Int} (h:CMul i j):IntMulOk i j:=by
 rcases h with ⟨h1,h2⟩ | ⟨h1,h2⟩
 .exact .of_left (intBits_le_64 h1 h2)
 .exact .of_right (intBits_le_64 h1 h2)
theorem ZAq:OpR X (binaryOp .Add) (rI0 fun i j=>.int (i+j)):=opI0 fun _ _ _ _ _ _ _ q=>add_int q
theorem ZA6:OpR X (binaryOp .Sub) (rI0 fun i j=>.int (i-j)):=opI0 fun _ _ _ _ _ _ _ q=>sub_int q
theorem ZBb:OpR X (binaryOp .Mult) (rI CMul fun i j=>.int (i * j)):=opI fun _ _ _ _ _ _ _ hc q=>mul_int q hc.ok
theorem ZCH:OpR X (binaryOp .FloorDiv) (rI CDiv fun i j=>.int (i / j)):=opI fun i j _ _ _ _ _ hc q=>by
 have h1:(0:Int) < j:=hc.1
 have h2:j < 1073741824:=hc.2
 exact floordiv_int (by omega) (by rw [Int.fdiv_eq_ediv_of_nonneg i (by omega)];exact q) (.inl (PyProof.noPylong_small (by omega)))
theorem ZCS:OpR X (binaryOp .Mod) (rI (fun _ j=>0 < j) fun i j=>.int (i % j)):=opI fun i j _ _ _ _ _ hc q=>by
 have h1:(0:Int) < j:=hc
 exact mod_int' (by omega) (by rw [Int.fmod_eq_emod_of_nonneg i (by omega)];exact q)
theorem unI {f:Value->Sem Value} {g:Int->Int}
  (rule:∀ (i:Int) (t:Tok) (s:Shared) (Q:Value->Shared->Prop) (E:Value->Shared->Prop),Q (.int (g i) s.toks) { s with toks:=s.toks+1 }->wpAny (model X.prog X.w) X.A (f (.int i t)) Q E s) :
  UnR X f (rU fun i=>.int (g i)):=by
 intro pins s σ H x v Q I rx h
 obtain ⟨i,rfl,q⟩:=h
 obtain ⟨t,rfl⟩:=rx
 exact rule i t s _ _ ⟨.int (g i),H,I.tok _,⟨_,rfl⟩,q⟩
theorem ZDY:UnR X (unaryOp .USub) (rU fun i=>.int (-i)):=unI fun _ _ _ _ _ q=>neg_int q
end
def scal:V->V->Bool
 | .non,.non=>true | .non,.int _=>true | .int _,.non=>true | .non,.bl _=>true | .bl _,.non=>true | .non,.str _=>true | .str _,.non=>true
 | .int _,.int _=>true | .bl _,.bl _=>true | .str _,.str _=>true | .byt _,.byt _=>true
 | .int _,.str _=>true | .str _,.int _=>true | .bl _,.str _=>true | .str _,.bl _=>true
 | _,_=>false
def rEq:R2:=fun x y H Q=>scal x y=true /\ Q (.bl (decide (x=y))) H
def rNe:R2:=fun x y H Q=>scal x y=true /\ Q (.bl (!decide (x=y))) H
theorem dec_int {i j:Int}:decide (V.int i=V.int j)=(i == j):=by
 rw [Bool.eq_iff_iff]
 simp
theorem dec_bl {i j:Bool}:decide (V.bl i=V.bl j)=(i == j):=by
 rw [Bool.eq_iff_iff]
 simp
theorem dec_str {i j:Str}:decide (V.str i=V.str j)=(i == j):=by
 rw [Bool.eq_iff_iff]
 simp
theorem dec_byt {i j:Array UInt8}:decide (V.byt i=V.byt j)=(i.toList == j.toList):=by
 rw [Bool.eq_iff_iff]
 cases i
 cases j
 simp
section
variable {X:Cx} {a b c:Expr} {ta tb tc:TE} {pos:Pos}
theorem ZAg {pins:List (Addr×Obj)} {σ:St} {H:Hp} {s:Shared} {Q:VK} {k k':Bool} (I:Inv X pins σ H s) (q:Q (.bl k) H) (e:k=k'):EP X pins σ Q (.bool k') s:=by
 subst e
 exact ⟨.bl k,H,I,rfl,q⟩
theorem ZCT:OpR X (compareOp .Eq) rEq:=by
 intro pins s σ H x y v u Q I rx ry h
 obtain ⟨hs,q⟩:=h
 cases x with
 | non=>
  cases rx
  cases y with
  | non=>cases ry;exact PySem.EqNone.eq_none_none (ZAg I q (by simp))
  | bl j=>cases ry;exact PySem.EqNone.eq_none_bool (ZAg I q (by simp))
  | int j=>obtain ⟨t',rfl⟩:=ry;exact PySem.EqNone.eq_none_int (ZAg I q (by simp))
  | str j=>obtain ⟨t',rfl⟩:=ry;exact PySem.EqNone.eq_none_str (ZAg I q (by simp))
  | _=>exact absurd (show false=true from hs) yAW
 | bl i=>
  cases rx
  cases y with
  | non=>cases ry;exact PySem.EqNone.eq_bool_none (ZAg I q (by simp))
  | bl j=>cases ry;exact eq_bool (ZAg I q dec_bl)
  | str j=>obtain ⟨t',rfl⟩:=ry;exact PySem.EqMixed.eq_bool_str (ZAg I q (by simp))
  | _=>exact absurd (show false=true from hs) yAW
 | int i=>
  obtain ⟨t,rfl⟩:=rx
  cases y with
  | non=>cases ry;exact PySem.EqNone.eq_int_none (ZAg I q (by simp))
  | int j=>obtain ⟨t',rfl⟩:=ry;exact eq_int (ZAg I q dec_int)
  | str j=>obtain ⟨t',rfl⟩:=ry;exact PySem.EqMixed.eq_int_str (ZAg I q (by simp))
  | _=>exact absurd (show false=true from hs) yAW
 | str i=>
  obtain ⟨t,rfl⟩:=rx
  cases y with
  | non=>cases ry;exact PySem.EqNone.eq_str_none (ZAg I q (by simp))
  | bl j=>cases ry;exact PySem.EqMixed.eq_str_bool (ZAg I q (by simp))
  | int j=>obtain ⟨t',rfl⟩:=ry;exact PySem.EqMixed.eq_str_int (ZAg I q (by simp))
  | str j=>obtain ⟨t',rfl⟩:=ry;exact eq_str (ZAg I q dec_str)
  | _=>exact absurd (show false=true from hs) yAW
 | byt i=>
  obtain ⟨t,rfl⟩:=rx
  cases y with
  | byt j=>obtain ⟨t',rfl⟩:=ry;exact PySem.W.eq_bytes (ZAg I q dec_byt)
  | _=>exact absurd (show false=true from hs) yAW
 | _=>cases y <;> exact absurd (show false=true from hs) yAW
theorem op_ne:OpR X (compareOp .NotEq) rNe:=by
 intro pins s σ H x y v u Q I rx ry h
 obtain ⟨hs,q⟩:=h
 cases x with
 | non=>
  cases rx
  cases y with
  | non=>cases ry;exact PySem.EqNone.ne_none_none (ZAg I q (by simp))
  | bl j=>cases ry;exact PySem.EqNone.ne_none_bool (ZAg I q (by simp))
  | int j=>obtain ⟨t',rfl⟩:=ry;exact PySem.EqNone.ne_none_int (ZAg I q (by simp))
  | str j=>obtain ⟨t',rfl⟩:=ry;exact PySem.EqNone.ne_none_str (ZAg I q (by simp))
  | _=>exact absurd (show false=true from hs) yAW
 | bl i=>
  cases rx
  cases y with
  | non=>cases ry;exact PySem.EqNone.ne_bool_none (ZAg I q (by simp))
  | bl j=>cases ry;exact ne_bool (ZAg I q (congrArg not dec_bl))
  | str j=>obtain ⟨t',rfl⟩:=ry;exact PySem.EqMixed.ne_bool_str (ZAg I q (by simp))
  | _=>exact absurd (show false=true from hs) yAW
 | int i=>
  obtain ⟨t,rfl⟩:=rx
  cases y with
  | non=>cases ry;exact PySem.EqNone.ne_int_none (ZAg I q (by simp))
  | int j=>obtain ⟨t',rfl⟩:=ry;exact ne_int (ZAg I q (congrArg not dec_int))
  | str j=>obtain ⟨t',rfl⟩:=ry;exact PySem.EqMixed.ne_int_str (ZAg I q (by simp))
  | _=>exact absurd (show false=true from hs) yAW
 | str i=>
  obtain ⟨t,rfl⟩:=rx
  cases y with
  | non=>cases ry;exact PySem.EqNone.ne_str_none (ZAg I q (by simp))
  | bl j=>cases ry;exact PySem.EqMixed.ne_str_bool (ZAg I q (by simp))
  | int j=>obtain ⟨t',rfl⟩:=ry;exact PySem.EqMixed.ne_str_int (ZAg I q (by simp))
  | str j=>obtain ⟨t',rfl⟩:=ry;exact ne_str (ZAg I q (congrArg not dec_str))
  | _=>exact absurd (show false=true from hs) yAW
 | byt i=>
  obtain ⟨t,rfl⟩:=rx
  cases y with
  | byt j=>obtain ⟨t',rfl⟩:=ry;exact PySem.W.ne_bytes (ZAg I q (congrArg not dec_byt))
  | _=>exact absurd (show false=true from hs) yAW
 | _=>cases y <;> exact absurd (show false=true from hs) yAW
theorem ZCZ:OpR X (compareOp .Lt) (rI0 fun i j=>.bl (decide (i < j))):=opB0 fun _ _ _ _ _ _ _ q=>lt_int q
theorem op_le:OpR X (compareOp .LtE) (rI0 fun i j=>.bl (decide (i <= j))):=opB0 fun _ _ _ _ _ _ _ q=>le_int q
theorem ZDW:OpR X (compareOp .Gt) (rI0 fun i j=>.bl (decide (j < i))):=opB0 fun _ _ _ _ _ _ _ q=>gt_int q
theorem op_ge:OpR X (compareOp .GtE) (rI0 fun i j=>.bl (decide (j <= i))):=opB0 fun _ _ _ _ _ _ _ q=>ge_int q
theorem ZDM:OpR X (compareOp .Is) (fun x y H Q=>y=.non /\ Q (.bl (decide (x=.non))) H):=by
 intro pins s σ H x y v u Q I rx ry h
 obtain ⟨rfl,q⟩:=h
 cases ry
 refine is_none_gen (ZAg I q ?_)
 cases x <;> first
  | (cases rx;rfl)
  | (obtain ⟨t,rfl⟩:=rx;rfl)
theorem op_notN:OpR X (compareOp .IsNot) (fun x y H Q=>y=.non /\ Q (.bl (!decide (x=.non))) H):=by
 intro pins s σ H x y v u Q I rx ry h
 obtain ⟨rfl,q⟩:=h
 cases ry
 refine isnot_none_gen (ZAg I q ?_)
 cases x <;> first
  | (cases rx;rfl)
  | (obtain ⟨t,rfl⟩:=rx;rfl)
theorem ZAV (b:Expr) {op:CmpOp} (h:op≠.In:=by decide) (h2:op≠.NotIn:=by decide):behindInMarks op b=false:=by
 have e1:(op == CmpOp.In)=false:=by cases op <;> first | rfl | exact absurd rfl h
 have e2:(op == CmpOp.NotIn)=false:=by cases op <;> first | rfl | exact absurd rfl h2
 cases b <;> simp [behindInMarks,e1,e2]
theorem ZB0 {op:CmpOp} {r:R2} (ho:OpR X (compareOp op) r) (ha:PE X a ta) (hb:PE X b tb) (hm:behindInMarks op b=false):PE X (.Compare a [op] [b] pos) (tOp r ta tb):=by
 intro pins s σ H Q I h
 exact wpAny_Compare1 (binT ha hb I h fun v u s2 x y H2 I2 rx ry q=>ho pins s2 σ H2 x y v u Q I2 rx ry q) hm
def ZDt (t:TE):TT:=fun σ H Q=>t σ H fun x H'=>∃ k,x=.bl k /\ Q k H'
theorem ZAS {op:CmpOp} {r:R2} (ho:OpR X (compareOp op) r) (ha:PE X a ta) (hb:PE X b tb) (hm:behindInMarks op b=false):PT X (.Compare a [op] [b] pos) (ZDt (tOp r ta tb)):=by
 intro pins s σ H Q I h
 refine wpAny_isTrue_Compare1 (thn (ha pins s σ H _ I h) fun v s1 ⟨x,H1,I1,r1,q1⟩=>thn (hb pins s1 σ H1 _ I1 q1) fun u s2 ⟨y,H2,I2,r2,q2⟩=>
  thn (ho pins s2 σ H2 x y v u _ I2 r1 r2 q2) fun c s3 ⟨z,H3,I3,r3,k,e,q3⟩=>?_) hm
 subst e
 cases r3
 exact wpAny_truthy_bool ⟨H3,I3,q3⟩
def tChain (r r':R2) (ta tb tc:TE):TE:=fun σ H Q=>ta σ H fun x H1=>tb σ H1 fun y H2=>r x y H2 fun z H3=>∃ k,z=.bl k /\
 (if k=true then tc σ H3 fun w' H4=>r' y w' H4 Q else Q (.bl false) H3)
theorem ZDN:(sizeLine:Nat) < 2 ^ 63:=by rw [sizeLine_eq];decide
theorem ZDS {x:V} {us:List Value} (r:Vals [x] us):∃ u,us=[u] /\ RelV x u:=by
 cases r with
 | cons r1 r2=>cases r2;exact ⟨_,rfl,r1⟩
theorem ZDs {x y:V} {us:List Value} (r:Vals [x,y] us):∃ u w',us=[u,w'] /\ RelV x u /\ RelV y w':=by
 cases r with
 | cons r1 r2=>
  cases r2 with
  | cons r3 r4=>cases r4;exact ⟨_,_,rfl,r1,r3⟩
theorem call_max2 (hc:X.calm=true):ZCb X (.builtin "max") (fun xs H Q=>∃ i j,xs=[.int i,.int j] /\ Q (.int (if j > i then j else i)) H):=by
 intro pins s σ H xs us Q I r h
 obtain ⟨i,j,rfl,q⟩:=h
 obtain ⟨u,w',rfl,⟨t,rfl⟩,⟨t',rfl⟩⟩:=ZDs r
 refine max_two_ints (I.ok.hd hc) fun h' tk k=>⟨_,H,I.kept k,?_,q⟩
 by_cases hj:j > i
 .rw [if_pos hj,if_pos hj];exact ⟨_,rfl⟩
 .rw [if_neg hj,if_neg hj];exact ⟨_,rfl⟩
theorem ZCA (hc:X.calm=true):ZCb X (.builtin "min") (fun xs H Q=>∃ i j,xs=[.int i,.int j] /\ Q (.int (if j < i then j else i)) H):=by
 intro pins s σ H xs us Q I r h
 obtain ⟨i,j,rfl,q⟩:=h
 obtain ⟨u,w',rfl,⟨t,rfl⟩,⟨t',rfl⟩⟩:=ZDs r
 refine min_two_ints (I.ok.hd hc) fun h' tk k=>⟨_,H,I.kept k,?_,q⟩
 by_cases hj:j < i
 .rw [if_pos hj,if_pos hj];exact ⟨_,rfl⟩
 .rw [if_neg hj,if_neg hj];exact ⟨_,rfl⟩
end
structure ObjM (h:Heap) (x dx C:Addr) (mA:Str->Option Value):Prop where
 obj:h.get? x=some (PySem.W.instObj C dx)
 ns:h.Ns1 dx mA
 ne:dx≠x
theorem lookIn_ns {h:Heap} {dx:Addr} {mA:Str->Option Value} (n:h.Ns1 dx mA):∃ od,h.get? dx=some od /\ ∀ name,PySem.W.lookIn name od=some (mA name):=by
 obtain ⟨o,es,ep,ho,hd,hk,_,hm⟩:=n
 refine ⟨o,ho,fun name=>?_⟩
 have e:=hm name
 unfold nsFind findBy at e
 rw [<- Array.find?_toList] at e
 unfold PySem.W.lookIn
 rw [hd]
 dsimp only
 split
 .rename_i y q
  rw [q] at e
  exact congrArg some e
 .rename_i q
  rw [q] at e
  have a:es.toList.any (·.refKey)=false:=by
   rw [List.any_eq_false]
   intro y hy
   obtain ⟨z,t,hkey⟩:=hk y (Array.mem_toList_iff.mp hy)
   simp [DictEntry.refKey,hkey]
  have a':¬ es.toList.any (·.refKey)=true:=by rw [a];exact yAW
  rw [if_neg a']
  exact congrArg some e
theorem ObjM.look {h:Heap} {x dx C:Addr} {mA:Str->Option Value} (I:ObjM h x dx C mA):∃ od,PySem.W.InstAt h x (PySem.W.instObj C dx) C (some od) /\ ∀ name,PySem.W.lookIn name od=some (mA name) :=
 let ⟨od,ho,hl⟩:=lookIn_ns I.ns
 ⟨od,⟨I.obj,rfl,rfl,ho⟩,hl⟩
section
variable {prog:Program} {w:World} {A:Around} {E:Value->Shared->Prop} {s:Shared} {K:W.Frag} {x dx C f:Addr} {mA:Str->Option Value} {name:Str} {v:Value}
theorem get_map {expr:Bool} {Q:Value->Shared->Prop} (X:K.In s.heap) (I:ObjM s.heap x dx C mA) (hg:PySem.W.plainGet K C name=true) (hh:PySem.W.hasDictIn K C=true)
  (ha:W.findIn K (.ref C) name=some none) (hv:mA name=some v) (hv':PySem.W.handedIn v=true) (h:Q v { s with toks:=s.toks+1 }) :
  wpAny (model prog w) A (getAttr (.ref x) name expr) Q E s:=by
 obtain ⟨od,J,hl⟩:=I.look
 exact PySem.W.get_value X J (PySem.W.plainGet_of hg).1 (PySem.W.findObj_own hh ha rfl (by rw [hl,hv])) hv' h
theorem get_meth {pl:Sem Bool} {Q:Value×List Value->Shared->Prop} (X:K.In s.heap) (I:ObjM s.heap x dx C mA) (hg:PySem.W.plainGet K C name=true)
  (hf:W.findIn K (.ref C) name=some (some (.ref f))) (ht:PySem.W.isFn K (.ref f)=true) (hv:mA name=none) (h:Q (.ref f,[.ref x]) s) :
  wpAny (model prog w) A (getMethod (.ref x) name pl) Q E s:=by
 obtain ⟨od,J,hl⟩:=I.look
 exact PySem.W.method_fn X J (PySem.W.plainGet_of hg).1 (PySem.W.plainGet_of hg).2 hf (beq_iff_eq.mp ht) (by show (PySem.W.lookIn name od).map (·.isSome)=some false;rw [hl,hv];rfl) h
theorem set_map {ns:List Str} {Q:Unit->Shared->Prop} (X:K.In s.heap) (I:ObjM s.heap x dx C mA)
  (hs:W.findIn K (.ref C) "__setattr__"=some (some (.builtin "object.__setattr__"))) (hp:PySem.W.plainOver K C=true) (ht:PySem.W.takerIn K C name=some none) (hh:PySem.W.hasDictIn K C=true)
  (hw:PySem.Within mA ns) (hsz:ns.length <= sizeLine)
  (h:∀ h',ObjM h' x dx C (fun y=>if y=name then some v else mA y)->Heap.SameBut dx s.heap h'->Q () { s with heap:=h',toks:=s.toks+2 }) :
  wpAny (model prog w) A (setAttr (.ref x) name v) Q E s:=by
 obtain ⟨od,J,hl⟩:=I.look
 refine PySem.W.set_plain X J hs (PySem.W.osa_open (s:={ s with toks:=s.toks+1 }) (r:=none) X J hp ht fun b=>?_)
 obtain ⟨cd,hc,hd'⟩:=PySem.W.any_some hh
 have hx:s.heap.get? x=some ⟨.ref C,some dx,.plain,#[]⟩:=I.obj
 refine wpAny_bind (wpAny_pure (wpAny_bind (wpAny_bind (wpAny_loadPart hx (wpAny_bind (PySem.W.Looks.here (s:={ s with toks:=s.toks+1 }) (PySem.W.looks_clsIn X hc) ?_))))))
 rw [hd']
 refine wpAny_pure (a:=some dx) (wpAny_bind (wpAny_pure (wpAny_bind ?_)))
 refine wpAny_nsSet1 (s:={ s with toks:=s.toks+1 }) I.ns fun h' hn2 hs2=>?_
 obtain ⟨oD,esD,epD,hoD,hdD,hcD⟩:=hn2.count (PySem.Within.cons name v hw)
 refine wpAny_bind (wpAny_lookBehind hoD (by rw [hdD];exact pastItsLine_dict (yAI hcD (by rw [yAG];omega))) ?_)
 exact wpAny_pure (h _ ⟨(hs2.2 _ (Ne.symm I.ne)).trans I.obj,hn2,I.ne⟩ hs2)
theorem make_map {R:Result->Shared->Prop} {vs:List Value} {kw:List (Str×Value)} (X:K.In s.heap) (hm:PySem.W.makesIn K C=true)
  (hi:W.findIn K (.ref C) "__init__"=some (some (.ref f))) (hf:PySem.W.typeIn K (.ref f)=some (.type "function"))
  (h:codeAny (model prog w) (A.under (.builtin "type.__call__" ⟨.ref C::vs,kw⟩)) (.call (.ref f) ⟨.ref (s.heap.objs.size+1)::vs,kw⟩) (PySem.W.InitBack (s.heap.objs.size+1) R)
   { s with heap:=(s.heap.push PySem.W.emptyDict).push (PySem.W.instObj C s.heap.objs.size) }) :
  codeAny (model prog w) A (.call (.ref C) ⟨vs,kw⟩) R s:=by
 obtain ⟨hh,g,d,t,os⟩:=s
 exact PySem.W.make_core (PySem.W.makes_of X hm) (PySem.W.looks_findIn X hi) (fun self=>PySem.W.bind_fn X self hf) (.inl rfl) h
end
def putF (f:Str) (v:V):List (Str×V)->List (Str×V)
 | []=>[(f,v)]
 | (g,x)::r=>if g=f then (g,v)::r else (g,x)::putF f v r
theorem ZAZ (f g:Str) (v:V):∀ fs:List (Str×V),(putF f v fs).lookup g=if g=f then some v else fs.lookup g
 | []=>by
  show List.lookup g [(f,v)]=_
  by_cases h:g=f
  .have hb:(g == f)=true:=beq_iff_eq.mpr h
   simp only [List.lookup,hb,if_pos h]
  .have hb:(g == f)=false:=beq_eq_false_iff_ne.mpr h
   simp only [List.lookup,hb,if_neg h]
 | (k,x)::r=>by
  have ih:=ZAZ f g v r
  rw [show putF f v ((k,x)::r)=(if k=f then (k,v)::r else (k,x)::putF f v r) from rfl]
  by_cases hk:k=f
  .rw [if_pos hk]
   by_cases h:g=k
   .have hb:(g == k)=true:=beq_iff_eq.mpr h
    simp only [List.lookup,hb,if_pos (h.trans hk)]
   .have hb:(g == k)=false:=beq_eq_false_iff_ne.mpr h
    simp only [List.lookup,hb,if_neg (fun e:g=f=>h (e.trans hk.symm))]
  .rw [if_neg hk]
   by_cases h:g=k
   .have hb:(g == k)=true:=beq_iff_eq.mpr h
    simp only [List.lookup,hb,if_neg (fun e:g=f=>hk (h.symm.trans e))]
   .have hb:(g == k)=false:=beq_eq_false_iff_ne.mpr h
    simp only [List.lookup,hb]
    exact ih
theorem ZCU (f:Str) (v:V):∀ fs:List (Str×V),f∈(putF f v fs).map (·.1) /\ ∀ g,g∈fs.map (·.1)->g∈(putF f v fs).map (·.1)
 | []=>⟨by simp [putF],fun g h=>by simp at h⟩
 | (k,x)::r=>by
  obtain ⟨i1,i2⟩:=ZCU f v r
  rw [show putF f v ((k,x)::r)=(if k=f then (k,v)::r else (k,x)::putF f v r) from rfl]
  by_cases hk:k=f
  .rw [if_pos hk]
   subst hk
   exact ⟨by simp,fun g h=>by simpa using h⟩
  .rw [if_neg hk]
   refine ⟨?_,fun g h=>?_⟩
   .rw [yAX]
    exact yAC _ i1
   .rw [yAX] at h ⊢
    rcases yAF.mp h with e | e
    .exact yAF.mpr (.inl e)
    .exact yAC _ (i2 g e)
theorem ZB1 (f:Str) (v:V):∀ fs:List (Str×V),(putF f v fs).length <= fs.length+1
 | []=>by simp [putF]
 | (k,x)::r=>by
  have ih:=ZB1 f v r
  rw [show putF f v ((k,x)::r)=(if k=f then (k,v)::r else (k,x)::putF f v r) from rfl]
  by_cases hk:k=f
  .rw [if_pos hk,yAG,yAG];omega
  .rw [if_neg hk,yAG,yAG];omega
theorem RelO.some_of {v:V} {o:Option Value} (r:RelO (some v) o):∃ u,o=some u /\ RelV v u:=by
 cases o with
 | none=>exact (show False from r).elim
 | some u=>exact ⟨u,rfl,r⟩
theorem RelO.none_of {o:Option Value} (r:RelO none o):o=none:=by
 cases o with
 | none=>rfl
 | some u=>exact (show False from r).elim
theorem handed_of {v:V} {u:Value} (r:RelV v u):PySem.W.handedIn u=true:=by
 cases v with
 | non=>cases (show u=Value.none from r);rfl
 | bl b=>cases (show u=Value.bool b from r);rfl
 | int i=>obtain ⟨t,e⟩:=(show ∃ t,u=Value.int i t from r);cases e;rfl
 | str x=>obtain ⟨t,e⟩:=(show ∃ t,u=Value.str x t from r);cases e;rfl
 | byt b=>obtain ⟨t,e⟩:=(show ∃ t,u=Value.bytes b t from r);cases e;rfl
 | flt b=>obtain ⟨t,e⟩:=(show ∃ t,u=Value.float b t from r);cases e;rfl
 | ref a=>cases (show u=Value.ref a from r);rfl
 | ty n=>cases (show u=Value.type n from r);rfl
section
variable {P:Program} {w:World} {H H':Hp} {h h':Heap} {a C dx:Addr} {fs fs':List (Str×V)}
theorem ZDD (hok:HOk P w H h) (e:H a=some (.ins C dx fs)):∃ mA,ObjM h a dx C mA /\ (∀ f,RelO (fs.lookup f) (mA f)) /\ PySem.Within mA (fs.map (·.1)) /\ fs.length <= 1000 /\ H dx=some (.own a):=by
 obtain ⟨d,z,ne,ob,mA,n,r,q⟩:=(show ObjOk P w H h a (.ins C dx fs) from hok a _ e)
 exact ⟨mA,⟨ob,n,ne⟩,r,q,z,d⟩
end
structure Cls (K:W.Frag) (C:Addr):Prop where
 pg:PySem.W.plainGet K C Str.empty=true
 hd:PySem.W.hasDictIn K C=true
 po:PySem.W.plainOver K C=true
 sa:W.findIn K (.ref C) "__setattr__"=some (some (.builtin "object.__setattr__"))
theorem Cls.get {K:W.Frag} {C:Addr} (c:Cls K C) (f:Str):PySem.W.plainGet K C f=true:=c.pg
def NoAttr (K:W.Frag) (C:Addr) (f:Str):Prop:=W.findIn K (.ref C) f=some none
theorem NoAttr.taker {K:W.Frag} {C:Addr} {f:Str} (n:NoAttr K C f):PySem.W.takerIn K C f=some none:=by
 unfold PySem.W.takerIn
 rw [show W.findIn K (.ref C) f=some none from n]
 rfl
structure Meth (K:W.Frag) (C:Addr) (m:Str) (f:Addr):Prop where
 at_:W.findIn K (.ref C) m=some (some (.ref f))
 fn:PySem.W.isFn K (.ref f)=true
 kp:W.keepIn K (.ref f)=true
section
variable {X:Cx} {pins:List (Addr×Obj)} {σ:St} {H:Hp} {s:Shared} {a C dx:Addr} {fs:List (Str×V)} {f:Str} {v:V} {A:Around} {E:Value->Shared->Prop}
theorem getattr_ok {b:Bool} {Q:Value->Shared->Prop} (I:Inv X pins σ H s) (e:H a=some (.ins C dx fs)) (c:Cls X.K C) (n:NoAttr X.K C f) (l:fs.lookup f=some v)
  (h:∀ u s',Inv X pins σ H s'->RelV v u->Q u s'):wpAny (model X.prog X.w) A (getAttr (.ref a) f b) Q E s:=by
 obtain ⟨mA,O,r,_,_,_⟩:=ZDD I.hok e
 obtain ⟨u,hu,ru⟩:=RelO.some_of (v:=v) (o:=mA f) (by rw [<- l];exact r f)
 exact get_map I.kIn O (c.get f) c.hd n hu (handed_of ru) (h u _ (I.tok _) ru)
theorem getmeth_ok {m:Str} {g:Addr} {pl:Sem Bool} {Q:Value×List Value->Shared->Prop} (I:Inv X pins σ H s) (e:H a=some (.ins C dx fs)) (c:Cls X.K C) (k:Meth X.K C m g) (l:fs.lookup m=none)
  (h:Q (.ref g,[.ref a]) s):wpAny (model X.prog X.w) A (getMethod (.ref a) m pl) Q E s:=by
 obtain ⟨mA,O,r,_,_,_⟩:=ZDD I.hok e
 have hn:mA m=none:=RelO.none_of (by rw [<- l];exact r m)
 exact get_meth I.kIn O (c.get m) k.at_ k.fn hn h
theorem setattr_ok {y:V} {u:Value} {Q:Unit->Shared->Prop} (I:Inv X pins σ H s) (e:H a=some (.ins C dx fs)) (c:Cls X.K C) (n:NoAttr X.K C f) (hl:fs.length < 1000) (ry:RelV y u)
  (h:∀ s',Inv X pins σ (upd H a (.ins C dx (putF f y fs))) s'->Q () s'):wpAny (model X.prog X.w) A (setAttr (.ref a) f u) Q E s:=by
 obtain ⟨mA,O,r,wi,_,ho⟩:=ZDD I.hok e
 have hz:(fs.map (·.1)).length <= sizeLine:=by rw [yAD,sizeLine_eq];omega
 refine set_map I.kIn O c.sa c.po n.taker c.hd wi hz fun h' O' sb=>h _ ?_
 have hd:∃ o,h'.get? dx=some o:=let ⟨o,_,_,e',_⟩:=O'.ns;⟨o,e'⟩
 refine I.write (x:=a) (e:=dx) (by rw [e];exact True.intro) (.inr ho) (fun b q hb z=>(sb.2 b hb).trans z) hd ?_
 refine ⟨by rw [ZAF O.ne];exact ho,?_,O.ne,O'.obj,_,O'.ns,fun g=>?_,fun g hg=>?_⟩
 .have:=ZB1 f y fs;omega
 .show RelO ((putF f y fs).lookup g) (if g=f then some u else mA g)
  rw [ZAZ]
  by_cases q:g=f
  .rw [if_pos q,if_pos q];exact ry
  .rw [if_neg q,if_neg q];exact r g
 .by_cases q:g=f
  .rw [q];exact (ZCU f y fs).1
  .refine (ZCU f y fs).2 g (wi g fun z=>hg ?_)
   show (if g=f then some u else mA g)=none
   rw [if_neg q];exact z
theorem Inv.made (I:Inv X pins σ H s):Inv X pins σ (upd (upd H s.heap.objs.size (.own (s.heap.objs.size+1))) (s.heap.objs.size+1) (.ins C s.heap.objs.size []))
  { s with heap:=(s.heap.push PySem.W.emptyDict).push (PySem.W.instObj C s.heap.objs.size) }:=by
 have e1:(s.heap.push PySem.W.emptyDict).get? s.heap.objs.size=some PySem.W.emptyDict:=Heap.get?_push_size s.heap rfl
 have e2:((s.heap.push PySem.W.emptyDict).push (PySem.W.instObj C s.heap.objs.size)).get? (s.heap.objs.size+1)=some (PySem.W.instObj C s.heap.objs.size):=by
  have:=Heap.get?_push_size (s.heap.push PySem.W.emptyDict) (o:=PySem.W.instObj C s.heap.objs.size) rfl
  rwa [Heap.size_push] at this
 have e3:(s.heap.push PySem.W.emptyDict).Ns s.heap.objs.size (fun _=>none):=⟨PySem.W.emptyDict,#[],_,e1,rfl,(fun e he=>absurd he (by simp)),fun _=>rfl⟩
 have I1:=I.laid (a:=s.heap.objs.size) (o:=.own (s.heap.objs.size+1)) (h':=s.heap.push PySem.W.emptyDict) (t':=s.toks) (fun b u q=>Heap.get?_push_of_some _ q) (yAA _) ⟨_,e1⟩
 refine I1.laid (a:=s.heap.objs.size+1) (o:=.ins C s.heap.objs.size []) (t':=s.toks) (fun b u q=>Heap.get?_push_of_some _ q) (Nat.le_of_eq (Heap.size_push _ _)) ?_
 have ne:s.heap.objs.size≠s.heap.objs.size+1:=yAM (yBP _)
 refine ⟨by rw [ZAF ne,ZAH],yAH _,ne,e2,fun _=>none,(Heap.Ns1.of_empty e3).at fun o q=>Heap.get?_push_of_some _ q,fun _=>True.intro,fun y hy=>absurd rfl hy⟩
theorem attr_of {prog:Program} {w:World} {env:Env} {e:Expr} {f:Str} {pos:Pos} {s:Shared} {Q:Value->Shared->Prop} (hb:attributeBase e f env (eval e env)=eval e env)
  (h:wpAny (model prog w) A (eval e env) (fun o s₁=>wpAny (model prog w) A (getAttr o f true) Q E s₁) E s):wpAny (model prog w) A (eval (.Attribute e f pos) env) Q E s :=
 Attribute_any_ h (by rw [arm_eval_Attribute,hb])
end
def tFld (K:W.Frag) (ta:TE) (f:Str):TE:=fun σ H Q=>ta σ H fun x H1=>∃ a C dx fs v,x=.ref a /\ H1 a=some (.ins C dx fs) /\ Cls K C /\ NoAttr K C f /\ fs.lookup f=some v /\ Q v H1
def sFld (K:W.Frag) (ta tv:TE) (f:Str):TS:=fun D σ H=>tv σ H fun y H1=>ta σ H1 fun x H2=>∃ a C dx fs,x=.ref a /\ H2 a=some (.ins C dx fs) /\ Cls K C /\ NoAttr K C f /\ fs.length < 1000 /\
 D.nx σ (upd H2 a (.ins C dx (putF f y fs)))
def InOp (X:Cx) (op:Operator) (rd:V->V->Hp->VK->Prop):Prop :=
 ∀ (pins:List (Addr×Obj)) (s:Shared) (σ:St) (H:Hp) (x y:V) (u v:Value) (Q:VK),Inv X pins σ H s->RelV x u->RelV y v->rd x y H Q->wpAny (model X.prog X.w) X.A (inplaceOp op u v) (EP X pins σ Q) X.xe s
def sFldAug (K:W.Frag) (ta tv:TE) (rd:V->V->Hp->VK->Prop) (f:Str):TS:=fun D σ H=>ta σ H fun x H1=>∃ a C dx fs v,x=.ref a /\ H1 a=some (.ins C dx fs) /\ Cls K C /\ NoAttr K C f /\ fs.lookup f=some v /\
 tv σ H1 fun y H2=>rd v y H2 fun z H3=>∃ dx' fs',H3 a=some (.ins C dx' fs') /\ fs'.length < 1000 /\ D.nx σ (upd H3 a (.ins C dx' (putF f z fs')))
section
variable {X:Cx} {o e value:Expr} {f:Str} {pos pos' tpos:Pos} {ta tv:TE}
theorem ZAM (he:PE X e ta) (hb:attributeBase e f X.env (eval e X.env)=eval e X.env):PE X (.Attribute e f pos) (tFld X.K ta f):=by
 intro pins s σ H Q I h
 refine attr_of hb (thn (he pins s σ H _ I h) fun u s1 ⟨x,H1,I1,rx,a,C,dx,fs,v,ex,ea,c,n,l,q⟩=>?_)
 subst ex
 obtain rfl:u=Value.ref a:=rx
 exact getattr_ok I1 ea c n l fun u' s2 I2 ru=>⟨v,H1,I2,ru,q⟩
theorem ZBC (ha:PE X o ta) (hv:PE X value tv) (hs:swapsWith value (some (.Attribute o f pos')) pos.line X.env=pure false):PS X (.Assign [.Attribute o f pos'] value pos) (sFld X.K ta tv f):=by
 intro pins s σ H D I h
 refine plainObj_wpAny_Assign_Attribute (thn (hv pins s σ H _ I h) fun u s1 ⟨y,H1,I1,ry,q⟩=>thn (ha pins s1 σ H1 _ I1 q) fun ov s2 ⟨x,H2,I2,rx,a,C,dx,fs,ex,ea,c,n,l,q2⟩=>?_) hs
 subst ex
 obtain rfl:ov=Value.ref a:=rx
 exact setattr_ok I2 ea c n l ry fun s3 I3=>⟨σ,_,I3,q2⟩
theorem ps_fldaug {op:Operator} {rd:V->V->Hp->VK->Prop} (ha:PE X o ta) (hv:PE X value tv) (hop:InOp X op rd):PS X (.AugAssign (.Attribute o f tpos) op value pos) (sFldAug X.K ta tv rd f):=by
 intro pins s σ H D I h
 refine wpAny_AugAssign_AttributeAny (thn (ha pins s σ H _ I h) fun ov s1 ⟨x,H1,I1,rx,a,C,dx,fs,v,ex,ea,c,n,l,q⟩=>?_)
 subst ex
 obtain rfl:ov=Value.ref a:=rx
 refine getattr_ok I1 ea c n l fun u s2 I2 ru=>thn (hv pins s2 σ H1 _ I2 q) fun w3 s3 ⟨y,H2,I3,ry,q3⟩=>thn (hop pins s3 σ H2 v y u w3 _ I3 ru ry q3) fun w4 s4 ⟨z,H3,I4,rz,dx',fs',ea',l',q4⟩=>?_
 exact setattr_ok I4 ea' c n l' rz fun s5 I5=>⟨σ,_,I5,q4⟩
def rAdd:V->V->Hp->VK->Prop:=fun x y H Q=>∃ i j,x=.int i /\ y=.int j /\ Q (.int (i+j)) H
theorem in_add:InOp X .Add rAdd:=by
 rintro pins s σ H x y u v Q I rx ry ⟨i,j,rfl,rfl,q⟩
 obtain ⟨t,rfl⟩:=(show ∃ t,u=Value.int i t from rx)
 obtain ⟨t',rfl⟩:=(show ∃ t',v=Value.int j t' from ry)
 exact PyProof.Rows.iadd_int ⟨.int (i+j),H,I.tok _,⟨_,rfl⟩,q⟩
end
section
variable {X:Cx} {pins:List (Addr×Obj)} {σ:St} {H:Hp} {s:Shared} {A:Around} {E:Value->Shared->Prop} {Q:Value->Shared->Prop} {c:Value} {b:Bool}
end
structure Room (k:Nat) (A:Around):Prop where
 hd:A.handled=none
 dp:A.depth+3 * k+5 < recursionLimit
 un:A.units+16 * k+200 < cLine
theorem Room.mono {j k:Nat} {A:Around} (r:Room k A) (h:j <= k):Room j A:=⟨r.hd,by have:=r.dp;omega,by have:=r.un;omega⟩
theorem Room.deeper {k:Nat} {A:Around} (r:Room (k+1) A) (env:Env):Room k (A.deeper env) :=
 ⟨r.hd,by have:=r.dp;show A.depth+1+3 * k+5 < _;omega,by have:=r.un;show A.units+3+16 * k+200 < _;omega⟩
theorem make_depth {A:Around} {C:Addr} {us:List Value} {kw:List (Str×Value)}:(A.under (.builtin "type.__call__" ⟨.ref C::us,kw⟩)).depth=A.depth+1:=by
 first | rfl | simp [Around.under,Code.weight,Code.isCreation,Code.isGuard,Code.isCaller,Code.frames,Code.isFrame,guardIds]
theorem make_units {A:Around} {C:Addr} {us:List Value} {kw:List (Str×Value)}:(A.under (.builtin "type.__call__" ⟨.ref C::us,kw⟩)).units=A.units+1:=by
 first | rfl | simp [Around.under,Code.cUnits,Code.frames,Code.isFrame]
theorem Room.make {k:Nat} {A:Around} (r:Room (k+1) A) (C:Addr) (us:List Value) (kw:List (Str×Value)):Room k (A.under (.builtin "type.__call__" ⟨.ref C::us,kw⟩)) :=
 ⟨r.hd,by have:=r.dp;rw [make_depth];omega,by have:=r.un;rw [make_units];omega⟩
theorem Room.depth {k:Nat} {A:Around} (r:Room k A):A.depth < recursionLimit:=by have:=r.dp;omega
theorem Room.units {k:Nat} {A:Around} (r:Room k A):A.units+64 < cLine:=by have:=r.un;omega
def tNil:TA:=fun _ H Q=>Q [] H
def ZBs (ta:TE) (tr:TA):TA:=fun σ H Q=>ta σ H fun x H1=>tr σ H1 fun xs H2=>Q (x::xs) H2
section
variable {X:Cx} {e:Expr} {es:List Expr} {te:TE} {t:TA} {pos:Pos}
theorem ZAE:PA X [] tNil:=fun _ _ _ _ H Q I h=>Calls.spliced_nil ⟨[],H,I,.nil,h⟩
theorem ZAA (ha:PE X e te) (hr:PA X es t) (hs:starEach (e::es) X.env=(false,eval e X.env)::starEach es X.env:=by rfl):PA X (e::es) (ZBs te t):=by
 intro pos pins s σ H Q I h
 rw [hs]
 show wpAny _ _ (spliced ((false,eval e X.env)::backTo pos (starEach es X.env))) _ _ s
 refine Calls.spliced_cons (thn (ha pins s σ H _ I h) fun u s1 ⟨x,H1,I1,r1,q1⟩=>?_)
 exact thn (hr pos pins s1 σ H1 _ I1 q1) fun us s2 ⟨xs,H2,I2,r2,q2⟩=>⟨x::xs,H2,I2,.cons r1 r2,q2⟩
def tTup (t:TA):TE:=fun σ H Q=>t σ H fun xs H1=>xs.length <= sizeLine /\ ∀ p,H1 p=none->Q (.ref p) (upd H1 p (.tup xs))
def tLst (t:TA):TE:=fun σ H Q=>t σ H fun xs H1=>xs.length <= sizeLine /\ ∀ p,H1 p=none->Q (.ref p) (upd H1 p (.lst xs))
theorem ZBu {x1} (h:PA X es t):PE X (.Tuple es x1 pos) (tTup t):=by
 intro pins s σ H Q I hq
 refine wpAny_Tuple_spliced (thn (h pos pins s σ H _ I hq) fun us s1 ⟨xs,H1,I1,r,z,q⟩=>⟨by rw [<- r.length];exact z,?_⟩)
 have hf:H1 s1.heap.objs.size=none:=I1.hok.fresh (yAA _)
 refine ⟨.ref s1.heap.objs.size,upd H1 s1.heap.objs.size (.tup xs),I1.laid (t':=s1.toks) (fun b u e=>Heap.get?_push_of_some _ e) (yAA _) ?_,rfl,q _ hf⟩
 exact ⟨z,us,r,⟨_,Heap.get?_push_size _ rfl,rfl,_,rfl⟩⟩
theorem ZBa (h:PA X es t):PE X (.List es pos) (tLst t):=by
 intro pins s σ H Q I hq
 refine wpAny_List_spliced (thn (h pos pins s σ H _ I hq) fun us s1 ⟨xs,H1,I1,r,z,q⟩=>⟨by rw [<- r.length];exact z,?_⟩)
 have hf:H1 s1.heap.objs.size=none:=I1.hok.fresh (yAA _)
 refine ⟨.ref s1.heap.objs.size,upd H1 s1.heap.objs.size (.lst xs),I1.laid (t':=s1.toks) (fun b u e=>Heap.get?_push_of_some _ e) (yAA _) ?_,rfl,q _ hf⟩
 exact ⟨z,us,0,r,Heap.get?_push_size _ rfl⟩
end
abbrev Sp:=List V->Hp->VK->XK->Prop
abbrev CXT:=List Env->Hp->Shared->XK->Value->Shared->Prop
structure Env0 (P:Program) (w:World) (K:W.Frag) (mg:Str->Option Value) (base:Heap) (A:Around) (outer:List Env) (s:Shared) (H:Hp):Prop where
 frames:A.frames=some outer
 mod:Mod K mg base
 bs:∀ b o,base.get? b=some o->s.heap.get? b=some o /\ H b=none
 bsz:base.objs.size <= s.heap.objs.size
 funs:s.heap.FunFrames base outer
 frf:∀ b∈frs outer,H b=none
 hok:HOk P w H s.heap
 bare:AllBare s.gens
def CE (outer:List Env) (P:Program) (w:World) (H:Hp) (s:Shared) (Q:VK) (u:Value) (s':Shared):Prop :=
 ∃ v H',s'.os=s.os /\ AllBare s'.gens /\ Un (frs outer) [] H H' s.heap s'.heap /\ HOk P w H' s'.heap /\ RelV v u /\ Q v H'
def CR (CX:CXT) (outer:List Env) (P:Program) (w:World) (H:Hp) (s:Shared) (Q:VK) (E:XK) (r:Result) (s':Shared):Prop :=
 match r with
 | .ok (.ret u)=>CE outer P w H s Q u s'
 | .ok _=>False
 | .error e=>CX outer H s E e s'
structure FnOk (P:Program) (w:World) (K:W.Frag) (mg:Str->Option Value) (base:Heap) (CX:CXT) (k:Nat) (f:Addr) (fd:FuncData) (ps:List Str) (sp:Sp):Prop where
 len:∀ vs H Q E,sp vs H Q E->vs.length=ps.length
 run:∀ (A:Around) (outer:List Env) (s:Shared) (H:Hp) (args:Args) (us:List Value) (vs:List V) (Q:VK) (E:XK),Room k A->Env0 P w K mg base A outer s H->BindsTo s fd args (ps.zip us)->Vals vs us->sp vs H Q E ->
  codeAny (model P w) A (.call (.ref f) args) (CR CX outer P w H s Q E) s
theorem Env0.make {P:Program} {w:World} {K:W.Frag} {mg:Str->Option Value} {base:Heap} {A:Around} {outer:List Env} {s:Shared} {H:Hp} (e:Env0 P w K mg base A outer s H) (C:Addr) (us:List Value) (kw:List (Str×Value)) :
  Env0 P w K mg base (A.under (.builtin "type.__call__" ⟨.ref C::us,kw⟩)) outer s H:=⟨by first | exact e.frames | (simpa [Around.under,Code.envs,Code.isFrame,pushEnvs] using e.frames),e.mod,e.bs,e.bsz,e.funs,e.frf,e.hok,e.bare⟩
section
variable {X:Cx} {pins:List (Addr×Obj)} {σ:St} {H:Hp} {s s':Shared}
theorem Inv.env0 (I:Inv X pins σ H s):Env0 X.prog X.w X.K X.mg X.base X.A X.stack s H :=
 ⟨I.ok.frames,I.ok.mod,I.bs,yAI I.ok.bsz I.sz,I.stack,I.stkFree,I.hok,I.bare⟩
theorem Inv.after {Q:VK} {u:Value} (I:Inv X pins σ H s) (h:CE X.stack X.prog X.w H s Q u s'):EP X pins σ Q u s':=by
 obtain ⟨v,H',os,bare,un,hok,r,q⟩:=h
 obtain ⟨hh,g,d,t,os'⟩:=s'
 obtain rfl:os'=s.os:=os
 exact ⟨v,H',I.call (h':=hh) (g':=g) (d':=d) (t':=t) (ch:=[]) un hok bare (fun b z=>absurd z (by simp)),r,q⟩
end
def ZDm (sp:Sp) (dvs:List V) (E:XK) (t:TA):TE:=fun σ H Q=>t σ H fun vs H1=>sp (vs++dvs) H1 Q E
def ZDT (C:Addr) (m:Str) (sp:Sp) (dvs:List V) (E:XK) (ta:TE) (t:TA):TE:=fun σ H Q=>ta σ H fun x H1=>∃ a dx fs,x=.ref a /\ H1 a=some (.ins C dx fs) /\ fs.lookup m=none /\
 t σ H1 fun vs H2=>sp (x::(vs++dvs)) H2 Q E
def ZDa (C:Addr) (sp:Sp) (dvs:List V) (E:XK) (t:TA):TE:=fun σ H Q=>t σ H fun vs H1=>∀ x dx,H1 x=none->H1 dx=none->dx≠x ->
 sp (.ref x::(vs++dvs)) (upd (upd H1 dx (.own x)) x (.ins C dx [])) (fun v H2=>v=.non /\ Q (.ref x) H2) E
def Binds (K:W.Frag) (fd:FuncData) (ps:List Str) (ds:List Value):Prop :=
 ∀ (s:Shared) (us:List Value),K.In s.heap->(us++ds).length=ps.length->BindsTo s fd ⟨us,[]⟩ (ps.zip (us++ds))
theorem Binds.all {K:W.Frag} {fd:FuncData} {ps:List Str} (h:∀ us:List Value,us.length=ps.length->bindArgs fd ⟨us,[]⟩=pure (ps.zip us)):Binds K fd ps []:=fun s us _ hl=>by
 rw [yBF] at hl ⊢
 exact .of_eq (h us hl)
def ZBh (CX:CXT) (X:Cx) (E:XK):Prop:=∀ (pins:List (Addr×Obj)) (σ:St) (H:Hp) (s:Shared) (e:Value) (s':Shared),Inv X pins σ H s->CX X.stack H s E e s'->X.xe e s'
section
variable {X:Cx} {CX:CXT} {k:Nat} {f C:Addr} {fd:FuncData} {ps:List Str} {sp:Sp} {dvs:List V} {ds:List Value} {E:XK} {x m:Str} {p pos apos:Pos} {e o:Expr} {es:List Expr} {ta:TE} {t:TA}
theorem ZDf {pins:List (Addr×Obj)} {σ:St} {H:Hp} {s:Shared} {Q:VK} {us:List Value} {vs:List V} (F:FnOk X.prog X.w X.K X.mg X.base CX k f fd ps sp) (hr:Room k X.A) (hb:Binds X.K fd ps ds) (hd:Vals dvs ds) (hx:ZBh CX X E)
  (I:Inv X pins σ H s) (r:Vals vs us) (h:sp (vs++dvs) H Q E):wpAny (model X.prog X.w) X.A (call (.ref f) us) (EP X pins σ Q) X.xe s:=by
 have r2:Vals (vs++dvs) (us++ds):=r.append hd
 have hl:(us++ds).length=ps.length:=by rw [<- r2.length];exact F.len _ _ _ _ h
 refine wpAny_call (codeAny_mono (F.run X.A X.stack s H ⟨us,[]⟩ (us++ds) (vs++dvs) Q E hr I.env0 (hb s us I.kIn hl) r2 h) fun r s' hq=>?_)
 cases r with
 | error e=>exact hx pins σ H s e s' I hq
 | ok fl=>
  cases fl with
  | ret u=>exact I.after hq
  | next=>exact False.elim hq
  | brk=>exact False.elim hq
  | cont=>exact False.elim hq
theorem pe_call (F:FnOk X.prog X.w X.K X.mg X.base CX k f fd ps sp) (hr:Room k X.A) (hg:Gl X x) (hm:X.mg x=some (.ref f)) (hk:W.keepIn X.K (.ref f)=true) (hb:Binds X.K fd ps ds) (hd:Vals dvs ds) (hx:ZBh CX X E)
  (ha:PA X (e::es) t) (hdb:(x == ("__debug__":Str))=false:=by decide) (he:starEach (e::es) X.env=(false,eval e X.env)::starEach es X.env:=by rfl) (hpl:(backTo pos (starEach es X.env)).any (·.1)=false:=by rfl) :
  PE X (.Call (.Name x p) (e::es) [] pos) (ZDm sp dvs E t):=by
 intro pins s σ H Q I h
 refine wpAny_Call_Name_kw (ZDC I hg hm ?_ hdb)
 refine PySem.W.callWith_K (h₀:=X.base) I.ok.mod.kin hk (thn (ha pos pins s σ H _ I h) fun us s1 ⟨vs,H1,I1,r,q⟩=>⟨I1.kIn,?_⟩) he hpl
 exact ZDf F hr hb hd hx I1 r q
theorem pe_meth {pl:Sem Bool} (he:PE X o ta) (c:Cls X.K C) (hm:Meth X.K C m f) (F:FnOk X.prog X.w X.K X.mg X.base CX k f fd ps sp) (hr:Room k X.A) (hb:Binds X.K fd ps ds) (hd:Vals dvs ds) (hx:ZBh CX X E) (ha:PA X (e::es) t)
  (hst:starEach (e::es) X.env=(false,eval e X.env)::starEach es X.env:=by rfl) (hpl:(backTo pos (starEach es X.env)).any (·.1)=false:=by rfl)
  (ht:eval (.Call (.Attribute o m apos) (e::es) [] pos) X.env=(do
   let ov <- eval o X.env
   standAt apos.atName
   let (f,first) <- holding [ov] (getMethod ov m pl)
   callWith pos f first (backTo pos (starEach (e::es) X.env)) (backToKw pos (keywordEach [] X.env))):=by rfl) :
  PE X (.Call (.Attribute o m apos) (e::es) [] pos) (ZDT C m sp dvs E ta t):=by
 intro pins s σ H Q I h
 refine PySem.W.methodCall_KW (pl:=pl) (thn (he pins s σ H _ I h) fun u s1 ⟨x,H1,I1,rx,a,dx,fs,ex,ea,l,q⟩=>?_) ht
 subst ex
 obtain rfl:u=Value.ref a:=rx
 refine getmeth_ok I1 ea c hm l ?_
 refine PySem.W.callWith_K (first:=[.ref a]) (h₀:=X.base) I.ok.mod.kin hm.kp (thn (ha pos pins s1 σ H1 _ I1 q) fun us s2 ⟨vs,H2,I2,r,q2⟩=>⟨I2.kIn,?_⟩) hst hpl
 exact ZDf (us:=.ref a::us) (vs:=.ref a::vs) F hr hb hd hx I2 (.cons rfl r) q2
theorem pe_meth0 {pl:Sem Bool} (he:PE X o ta) (c:Cls X.K C) (hm:Meth X.K C m f) (F:FnOk X.prog X.w X.K X.mg X.base CX k f fd ps sp) (hr:Room k X.A) (hb:Binds X.K fd ps ds) (hd:Vals dvs ds) (hx:ZBh CX X E)
  (ht:eval (.Call (.Attribute o m apos) [] [] pos) X.env=(do
   let ov <- eval o X.env
   standAt apos.atName
   let (f,first) <- holding [ov] (getMethod ov m pl)
   callWith pos f first (backTo pos (starEach [] X.env)) (backToKw pos (keywordEach [] X.env))):=by rfl) :
  PE X (.Call (.Attribute o m apos) [] [] pos) (ZDT C m sp dvs E ta tNil):=by
 intro pins s σ H Q I h
 refine PySem.W.methodCall_KW (pl:=pl) (thn (he pins s σ H _ I h) fun u s1 ⟨x,H1,I1,rx,a,dx,fs,ex,ea,l,q⟩=>?_) ht
 subst ex
 obtain rfl:u=Value.ref a:=rx
 refine getmeth_ok I1 ea c hm l ?_
 exact PySem.W.callWith_K0 (first:=[.ref a]) I1.kIn hm.kp (ZDf (us:=[.ref a]) (vs:=[.ref a]) F hr hb hd hx I1 (.cons rfl .nil) q)
structure Mk (K:W.Frag) (C f:Addr):Prop where
 makes:PySem.W.makesIn K C=true
 init:W.findIn K (.ref C) "__init__"=some (some (.ref f))
 fn:PySem.W.isFn K (.ref f)=true
 kp:W.keepIn K (.ref C)=true
theorem run_make {pins:List (Addr×Obj)} {σ:St} {H:Hp} {s:Shared} {Q:VK} {us:List Value} {vs:List V} (M:Mk X.K C f) (F:FnOk X.prog X.w X.K X.mg X.base CX k f fd ps sp) (hr:Room (k+1) X.A) (hb:Binds X.K fd ps ds) (hd:Vals dvs ds)
  (hx:ZBh CX X E) (I:Inv X pins σ H s) (r:Vals vs us)
  (h:∀ x dx,H x=none->H dx=none->dx≠x->sp (.ref x::(vs++dvs)) (upd (upd H dx (.own x)) x (.ins C dx [])) (fun v H2=>v=.non /\ Q (.ref x) H2) E) :
  wpAny (model X.prog X.w) X.A (call (.ref C) us) (EP X pins σ Q) X.xe s:=by
 have hq:=h (s.heap.objs.size+1) s.heap.objs.size (I.hok.fresh (yAZ _)) (I.hok.fresh (yAA _)) (yAM (yBP _))
 have I2:=Inv.made (C:=C) I
 have r2:Vals (V.ref (s.heap.objs.size+1)::(vs++dvs)) (Value.ref (s.heap.objs.size+1)::(us++ds)):=.cons rfl (r.append hd)
 have hl:(Value.ref (s.heap.objs.size+1)::us++ds).length=ps.length:=by
  have e:=r2.length
  rw [F.len _ _ _ _ hq] at e
  exact e.symm
 refine wpAny_call (make_map (f:=f) I.kIn M.makes M.init (beq_iff_eq.mp M.fn) (codeAny_mono (F.run _ X.stack _ _ ⟨Value.ref (s.heap.objs.size+1)::us,[]⟩ (Value.ref (s.heap.objs.size+1)::(us++ds)) _ _ E (hr.make C us [])
  (I2.env0.make C us []) (hb _ (Value.ref (s.heap.objs.size+1)::us) I2.kIn hl) r2 hq) fun r s' hq'=>?_))
 cases r with
 | error e=>exact hx pins σ _ _ e s' I2 hq'
 | ok fl=>
  cases fl with
  | ret u=>
   obtain ⟨v,H',I3,rv,ev,q3⟩:=I2.after hq'
   subst ev
   exact ⟨rv,⟨V.ref (s.heap.objs.size+1),H',I3,rfl,q3⟩⟩
  | next=>exact False.elim hq'
  | brk=>exact False.elim hq'
  | cont=>exact False.elim hq'
theorem pe_make (M:Mk X.K C f) (F:FnOk X.prog X.w X.K X.mg X.base CX k f fd ps sp) (hr:Room (k+1) X.A) (hg:Gl X x) (hm:X.mg x=some (.ref C)) (hb:Binds X.K fd ps ds) (hd:Vals dvs ds) (hx:ZBh CX X E)
  (ha:PA X (e::es) t) (hdb:(x == ("__debug__":Str))=false:=by decide) (he:starEach (e::es) X.env=(false,eval e X.env)::starEach es X.env:=by rfl) (hpl:(backTo pos (starEach es X.env)).any (·.1)=false:=by rfl) :
  PE X (.Call (.Name x p) (e::es) [] pos) (ZDa C sp dvs E t):=by
 intro pins s σ H Q I h
 refine wpAny_Call_Name_kw (ZDC I hg hm ?_ hdb)
 refine PySem.W.callWith_K (h₀:=X.base) I.ok.mod.kin M.kp (thn (ha pos pins s σ H _ I h) fun us s1 ⟨vs,H1,I1,r,q⟩=>⟨I1.kIn,?_⟩) he hpl
 exact run_make M F hr hb hd hx I1 r q
end
section
variable {X:Cx} {CX:CXT} {k:Nat} {f C:Addr} {fd:FuncData} {ps ks:List Str} {sp:Sp} {E:XK} {x m:Str} {p pos apos kpos:Pos} {e o:Expr} {es:List Expr} {kws:List Keyword} {te ta:TE} {t tk:TA} {nm:Option Str}
variable {g:List Value->List Value->List Value} {gV:List V->List V->List V}
end
structure FnScope (N P:List Str) (sc:Scope):Prop where
 kind:sc.kind=.function
 co:sc.isCoroutine=false
 gen:sc.isGenerator=false
 nd:N.Nodup
 pre:N.take P.length=P
 par:∀ x∈P,sc.names.lookup x=some .local∨sc.names.lookup x=some .cell
 nofree:∀ y∈sc.names,y.2≠.free
theorem bindL_out {kindOf:Str->Option NameKind} {x:Str}:∀ {binds:List (Str×Value)} {m:Str->Option Value},(∀ v,(x,v)∉binds)->bindL kindOf binds m x=m x
 | [],_,_=>rfl
 | (n,v)::r,m,h=>by
  unfold bindL
  rw [bindL_out fun w hw=>h w (yAC _ hw)]
  split
  .have:x≠n:=by rintro rfl;exact h v yAE
   simp [this]
  .rfl
theorem bindC_out {kindOf:Str->Option NameKind} {x:Str}:∀ {binds:List (Str×Value)} {m:Str->Option Value},(∀ v,(x,v)∉binds)->bindC kindOf binds m x=m x
 | [],_,_=>rfl
 | (n,v)::r,m,h=>by
  unfold bindC
  rw [bindC_out fun w hw=>h w (yAC _ hw)]
  split
  .rfl
  .have:x≠n:=by rintro rfl;exact h v yAE
   simp [this]
theorem bindL_get {kindOf:Str->Option NameKind} {x:Str} {v:Value}:∀ {P:List Str} {vs:List Value} {i:Nat} {m:Str->Option Value},P.Nodup->P[i]?=some x->vs[i]?=some v->kindOf x=some .local ->
  bindL kindOf (P.zip vs) m x=some v
 | [],_,_,_,_,h,_,_=>by simp at h
 | _::_,[],_,_,_,_,h,_=>by simp at h
 | p::P,w::vs,0,m,nd,h1,h2,hk=>by
  simp at h1 h2;subst h1;subst h2
  show bindL kindOf ((p,w)::P.zip vs) m p=_
  unfold bindL
  rw [bindL_out fun v hv=>(List.nodup_cons.mp nd).1 (List.of_mem_zip hv).1,if_pos hk]
  simp
 | p::P,w::vs,i+1,m,nd,h1,h2,hk=>by
  show bindL kindOf ((p,w)::P.zip vs) m x=_
  unfold bindL
  exact bindL_get (i:=i) (List.nodup_cons.mp nd).2 (by simpa using h1) (by simpa using h2) hk
theorem bindC_get {kindOf:Str->Option NameKind} {x:Str} {v:Value}:∀ {P:List Str} {vs:List Value} {i:Nat} {m:Str->Option Value},P.Nodup->P[i]?=some x->vs[i]?=some v->kindOf x≠some .local ->
  bindC kindOf (P.zip vs) m x=some v
 | [],_,_,_,_,h,_,_=>by simp at h
 | _::_,[],_,_,_,_,h,_=>by simp at h
 | p::P,w::vs,0,m,nd,h1,h2,hk=>by
  simp at h1 h2;subst h1;subst h2
  show bindC kindOf ((p,w)::P.zip vs) m p=_
  unfold bindC
  rw [bindC_out fun v hv=>(List.nodup_cons.mp nd).1 (List.of_mem_zip hv).1,if_neg hk]
  simp
 | p::P,w::vs,i+1,m,nd,h1,h2,hk=>by
  show bindC kindOf ((p,w)::P.zip vs) m x=_
  unfold bindC
  exact bindC_get (i:=i) (List.nodup_cons.mp nd).2 (by simpa using h1) (by simpa using h2) hk
def start (N:List Str) (vs:List V):St:=vs.map some++List.replicate (N.length-vs.length) none
def cxOf (CX:CXT) (P:Program) (w:World) (K:W.Frag) (mg:Str->Option Value) (base:Heap) (N:List Str) (qual:Str) (scope:Scope) (f:Addr) (cd:Value) (A:Around) (outer:List Env) (s:Shared) (H:Hp) (E:XK):Cx where
 prog:=P
 w:=w
 K:=K
 mg:=mg
 base:=base
 A:=A.deeper (envOfC qual scope s.heap.objs.size f cd)
 N:=N
 s₀:=s
 H₀:=H
 env:=envOfC qual scope s.heap.objs.size f cd
 outer:=outer
 stack:=envOfC qual scope s.heap.objs.size f cd::outer
 ex:=[]
 calm:=true
 fn:=fun _=>true
 pn:=[]
 xe:=fun e s'=>wpAny (model P w) (A.deeper (envOfC qual scope s.heap.objs.size f cd)) (leaving (envOfC qual scope s.heap.objs.size f cd) e) (fun _ s''=>CX outer H s E e s'') (fun e' s''=>CX outer H s E e' s'') s'
theorem ZCN {sc:Scope} {n:Nat} {x:Str} (h:sc.names.lookup x=some .cell):∃ c,(cellsFrom n sc.names []).lookup x=some c:=by
 have q:=PySem.W.cellsFrom_some sc.names n [] (.inl h)
 exact Option.isSome_iff_exists.mp q
theorem inv_start {CX:CXT} {P:Program} {w:World} {K:W.Frag} {mg:Str->Option Value} {base:Heap} {N ps:List Str} {qual:Str} {scope:Scope} {f:Addr} {cd:Value} {A:Around} {outer:List Env} {s s1:Shared} {H:Hp} {E:XK} {us:List Value} {vs:List V}
  (S:FnScope N ps scope) (hd:A.handled=none) (e0:Env0 P w K mg base A outer s H) (hl:vs.length=ps.length) (r:Vals vs us)
  (x:InCallC s s.heap.objs.size (bindL (envOfC qual scope s.heap.objs.size f cd).kindOf (ps.zip us) fun _=>none) (cellsFrom (s.heap.objs.size+1) scope.names []) (bindC (envOfC qual scope s.heap.objs.size f cd).kindOf (ps.zip us) fun _=>none) s1) :
  Inv (cxOf CX P w K mg base N qual scope f cd A outer s H E) [] (start N vs) H s1:=by
 have hpl:ps.length <= N.length:=by have:=congrArg List.length S.pre;rw [yBB] at this;omega
 obtain ⟨h1,tk,rfl,hk⟩:=x.done
 have noA:∀ b:Addr,b∉(cxOf CX P w K mg base N qual scope f cd A outer s H E).ex:=fun b z=>absurd (show b∈([]:List Addr) from z) (by simp)
 refine ⟨⟨e0.mod,S.kind,rfl,rfl,yAA _,fun y z c h1 h2=>?_,fun y hy=>?_,fun y c _ h=>?_,fun _=>hd,Around.frames_deeper e0.frames,.inr ⟨rfl,rfl⟩,fun b z=>absurd z (noA b),e0.bs,e0.bsz,fun b _ _=>noA b,fun b z=>absurd z (noA b),e0.funs,e0.frf⟩,
  rfl,e0.bare,Un.kept hk,⟨_,x.toInCall.ns,fun i y v h1 h2 h3=>?_⟩,fun y c h=>⟨_,x.cell y c h⟩,e0.hok.fresh (yAA _),fun y c h=>?_,fun p hp=>absurd (show p∈([]:List (Addr×Obj)) from hp) (by simp),e0.hok.kept hk,?_⟩
 .exact name_of_addr x.apart (PySem.mem_of_lookup h1) (PySem.mem_of_lookup h2)
 .have hy:scope.names.lookup y=some .cell∨scope.names.lookup y=some .free:=hy
  rcases hy with hy | hy
  .exact ZCN hy
  .exact absurd rfl (S.nofree _ (PySem.mem_of_lookup hy))
 .exact yBI (x.above y c (PySem.mem_of_lookup h))
 .have hi:i < vs.length:=by
   unfold start at h2
   by_cases hi:i < vs.length
   .exact hi
   .rw [yBD (by simpa using hi)] at h2
    rw [List.getElem?_replicate] at h2
    split at h2 <;> cases h2
  have ha:vs[i]?=some v:=by
   unfold start at h2
   rw [yAU (by simpa using hi),yAQ] at h2
   cases e:vs[i]? with
   | none=>rw [e] at h2;cases h2
   | some a=>rw [e] at h2;cases h2;rfl
  obtain ⟨u,hu,rv⟩:=r.get ha
  have hp:ps[i]?=some y:=by
   rw [<- S.pre,List.getElem?_take_of_lt (by omega)];exact h1
  have ndP:ps.Nodup:=by rw [<- S.pre];exact S.nd.sublist (List.take_sublist _ _)
  refine ⟨u,rv,?_⟩
  rcases S.par y (yAO hp) with k | k
  .exact .inl ⟨k,bindL_get ndP hp hu k⟩
  .obtain ⟨c,e⟩:=ZCN (n:=s.heap.objs.size+1) k
   refine .inr ⟨.inl k,c,e,?_⟩
   have q:=x.cell y c e
   rw [bindC_get ndP hp hu (by show scope.names.lookup y≠_;rw [k];decide)] at q
   exact q
 .exact e0.hok.fresh (yBI (x.above y c (PySem.mem_of_lookup h)))
 .unfold start
  show _=N.length
  rw [yAB,yAD,yBQ]
  omega
theorem fn_of {CX:CXT} {P:Program} {w:World} {K:W.Frag} {mg:Str->Option Value} {base:Heap} {k:Nat} {f:Addr} {name qual:Str} {params:Arguments} {body:List Stmt} {scope:Scope} {dV kV doc pm cdv ct oc:Value} {an od:Option Addr}
  {osl:Array (Option Value)} {N ps:List Str} {sp:Sp} (lk:K.lookup f=some ⟨oc,od,.func (W.fnOf name qual params body scope dV kV doc pm an cdv ct),osl⟩) (hcd:W.codeIn K cdv qual=true) (S:FnScope N ps scope)
  (len:∀ vs H Q E,sp vs H Q E->vs.length=ps.length)
  (hbody:∀ (A:Around) (outer:List Env) (s:Shared) (H:Hp) (vs:List V) (Q:VK) (E:XK),Room k (A.deeper (envOfC qual scope s.heap.objs.size f cdv))->sp vs H Q E ->
   ∃ t,PSs (cxOf CX P w K mg base N qual scope f cdv A outer s H E) body t /\ t { nx:=fun _ H'=>Q .non H',rt:=Q } (start N vs) H) :
  FnOk P w K mg base CX (k+1) f (W.fnOf name qual params body scope dV kV doc pm an cdv ct) ps sp:=by
 refine ⟨len,fun A outer s H args us vs Q E hr e0 hb r hsp=>?_⟩
 have hl:=len _ _ _ _ hsp
 have KX:K.In s.heap:=e0.mod.kin.keeps fun b o e=>(e0.bs b o e).1
 have lim:s.heap.NoLimit:=e0.mod.nolimit.keeps fun b o e=>(e0.bs b o e).1
 have hkind:∀ y∈ps.zip us,scope.names.lookup y.1=some .local∨(scope.names.lookup y.1=some .cell /\ ((cellsFrom (s.heap.objs.size+1) scope.names []).lookup y.1).isSome=true):=fun ⟨n,v⟩ hy=>by
  rcases S.par n (List.of_mem_zip hy).1 with q | q
  .exact .inl q
  .exact .inr ⟨q,PySem.W.cellsFrom_some _ _ _ (.inl q)⟩
 refine codeAny_call_function hr.depth (KX _ _ lk) rfl S.co S.gen rfl (PySem.W.codeRec_of KX hcd) (hb _ _ _ _ ?_)
 refine wpAny_newFunctionEnv_cells S.kind hkind fun env he s1 x=>?_
 subst he
 refine ⟨lim.keeps x.toInCall.keep,codeAny_func ?_⟩
 obtain ⟨t,ht,hq⟩:=hbody A outer s H vs Q E (hr.deeper _) hsp
 have I:Inv (cxOf CX P w K mg base N qual scope f cdv A outer s H E) [] (start N vs) H s1:=inv_start S hr.hd e0 hl r x
 refine wpAny_mono (ht [] s1 (start N vs) H _ I hq) (fun fl s' hs=>?_) fun e s' hs=>hs
 have fin:∀ {σ':St} {H':Hp} {v:V} {u:Value},Inv (cxOf CX P w K mg base N qual scope f cdv A outer s H E) [] σ' H' s'->RelV v u->Q v H'->CE outer P w H s Q u s' :=
  fun {σ' H' v u} J rv q=>⟨v,H',J.os,J.bare,J.base,J.hok,rv,q⟩
 cases fl with
 | ret u=>
  obtain ⟨v,σ',H',J,rv,q⟩:=hs
  exact fin J rv q
 | next=>
  obtain ⟨σ',H',J,q⟩:=hs
  exact fin (v:=V.non) (u:=Value.none) J rfl q
 | brk=>
  obtain ⟨_,_,_,q⟩:=hs
  exact False.elim q
 | cont=>
  obtain ⟨_,_,_,q⟩:=hs
  exact False.elim q
section
variable {X:Cx} {x:Str} {p pos:Pos} {e:Expr} {es:List Expr} {t:TA} {id T:String} {r:List V->Hp->VK->Prop}
def tCB (r:List V->Hp->VK->Prop) (t:TA):TE:=fun σ H Q=>t σ H fun vs H1=>r vs H1 Q
theorem ZAT (hc:ZCb X (.builtin id) r) (hg:Gl X x) (hm:X.mg x=none) (hv:bootBuiltins x=some (.builtin id)) (ha:PA X (e::es) t) (hn:x≠"__name__":=by decide) (hdb:(x == ("__debug__":Str))=false:=by decide)
  (he:starEach (e::es) X.env=(false,eval e X.env)::starEach es X.env:=by rfl) (hpl:(backTo pos (starEach es X.env)).any (·.1)=false:=by rfl):PE X (.Call (.Name x p) (e::es) [] pos) (tCB r t):=by
 intro pins s σ H Q I h
 refine wpAny_Call_Name_kw (ZDO I hg hm hv ?_ hn hdb)
 exact PyProof.Rows.callWith_builtin1 (thn (ha pos pins s σ H _ I h) fun us s1 ⟨vs,H1,I1,r1,q1⟩=>hc pins s1 σ H1 vs us Q I1 r1 q1) he hpl
theorem ZAn (hc:ZCb X (.type T) r) (hg:Gl X x) (hm:X.mg x=none) (hv:bootBuiltins x=some (.type T)) (ha:PA X (e::es) t) (hn:x≠"__name__":=by decide) (hdb:(x == ("__debug__":Str))=false:=by decide)
  (he:starEach (e::es) X.env=(false,eval e X.env)::starEach es X.env:=by rfl) (hpl:(backTo pos (starEach es X.env)).any (·.1)=false:=by rfl):PE X (.Call (.Name x p) (e::es) [] pos) (tCB r t):=by
 intro pins s σ H Q I h
 refine wpAny_Call_Name_kw (ZDO I hg hm hv ?_ hn hdb)
 exact PyProof.Rows.callWith_type1 (thn (ha pos pins s σ H _ I h) fun us s1 ⟨vs,H1,I1,r1,q1⟩=>hc pins s1 σ H1 vs us Q I1 r1 q1) he hpl
end
end L2
namespace HT
open PySem PyProof.Rows
section
open PySem.SeqAt
open PySem.AutoSeq1 (wpAny_loadPart')
open PySem.MeetsSeq PySem.MeetsSeq2 PySem.MeetsSeq3
end
section
variable {prog:Program} {w:World} {A:Around} {E:Value->Shared->Prop} {s:Shared}
def sIx (n d:Nat):Option Int->Nat
 | none=>d
 | some v=>if v < 0 then (v+(n:Int)).toNat else min v.toNat n
theorem sIx_nat (n d k:Nat):sIx n d (some (k:Int))=min k n:=by
 show (if (k:Int) < 0 then ((k:Int)+(n:Int)).toNat else min (k:Int).toNat n)=min k n
 rw [if_neg (by omega),Int.toNat_natCast]
end
end HT
namespace L2
open PySem PySem.Spec PyProof.Rows
abbrev TO:=St->Hp->(Option Int->Hp->Prop)->Prop
def PO (X:Cx) (e:Option Expr) (t:TO):Prop :=
 ∀ (pins:List (Addr×Obj)) (s:Shared) (σ:St) (H:Hp) (Q:Option Int->Hp->Prop),Inv X pins σ H s->t σ H Q ->
  wpAny (model X.prog X.w) X.A (evalPart e X.env) (fun u s'=>∃ o H',Inv X pins σ H' s' /\ IsPart u o /\ Q o H') X.xe s
def tNoPart:TO:=fun _ H Q=>Q none H
def ZDu (t:TE):TO:=fun σ H Q=>t σ H fun x H1=>∃ i,x=.int i /\ Q (some i) H1
theorem intsAre_of {ns:List Int}:∀ {us:List Value},Vals (ns.map V.int) us->IntsAre us ns:=by
 induction ns with
 | nil=>intro us r;rw [List.map_nil] at r;cases r;exact .nil
 | cons n ns ih=>
  intro us r
  rw [yAX] at r
  cases r with
  | cons r1 r2=>
   obtain ⟨t,e⟩:=r1
   subst e
   exact .cons n t (ih r2)
section
variable {X:Cx} {e:Expr} {te:TE} {lo hi:Option Expr} {tl th:TO} {pos p2:Pos}
theorem ZCr (h:PE X e te):PO X (some e) (ZDu te):=by
 intro pins s σ H Q I hw
 rw [evalPart_some]
 refine thn (h pins s σ H _ I hw) fun u s1 ⟨x,H1,I1,r1,q1⟩=>?_
 obtain ⟨i,rfl,q⟩:=q1
 obtain ⟨t,rfl⟩:=r1
 exact ⟨some i,H1,I1,.int i t,q⟩
def SlR (X:Cx) (r:V->Option Int->Option Int->Hp->VK->Prop):Prop :=
 ∀ (pins:List (Addr×Obj)) (s:Shared) (σ:St) (H:Hp) (x:V) (v vl vu:Value) (lo hi:Option Int) (sl:Addr) (Q:VK),Inv X pins σ H s->RelV x v->s.heap.IsSliceOf sl vl vu .none->IsPart vl lo->IsPart vu hi->r x lo hi H Q ->
  ∃ T id,typeLookup (.type T) "__getitem__"=pure (some (.builtin id)) /\ s.TypeIs v T /\ wpAny (model X.prog X.w) X.A (getItem v (.ref sl)) (EP X pins σ Q) X.xe s
def tSl (r:V->Option Int->Option Int->Hp->VK->Prop) (te:TE) (tl th:TO):TE:=fun σ H Q=>te σ H fun x H1=>tl σ H1 fun l H2=>th σ H2 fun u H3=>r x l u H3 Q
theorem pe_slice {r:V->Option Int->Option Int->Hp->VK->Prop} (hr:SlR X r) (he:PE X e te) (hl:PO X lo tl) (hu:PO X hi th):PE X (.Subscript e (.Slice lo hi none p2) pos) (tSl r te tl th):=by
 intro pins s σ H Q I h
 refine Subscript_ (thn (he pins s σ H _ I h) fun v s1 ⟨x,H1,I1,r1,q1⟩=>?_)
 refine wpAny_Slice (thn (hl pins s1 σ H1 _ I1 q1) fun vl s2 ⟨l,H2,I2,pl,q2⟩=>thn (hu pins s2 σ H2 _ I2 q2) fun vu s3 ⟨u,H3,I3,pu,q3⟩=>?_)
 rw [evalPart_none]
 refine wpAny_pure ?_
 have I4:Inv X pins σ H3 { s3 with heap:=s3.heap.push { cls:=.type "slice",data:=.fields #[vl,vu,.none] } }:=I3.kept (t':=s3.toks) fun b ob q=>Heap.get?_push_of_some _ q
 obtain ⟨T,id,hT,ht,hg⟩:=hr pins { s3 with heap:=s3.heap.push { cls:=.type "slice",data:=.fields #[vl,vu,.none] } } σ H3 x v vl vu l u s3.heap.objs.size Q I4 r1 (Heap.IsSliceOf.new ..) pl pu q3
 show wpAny (model X.prog X.w) X.A (subscriptTail e (.Slice lo hi none p2) v (.ref s3.heap.objs.size)) (EP X pins σ Q) X.xe { s3 with heap:=s3.heap.push { cls:=.type "slice",data:=.fields #[vl,vu,.none] } }
 exact tail_any (ops:=[.ref s3.heap.objs.size,v]) ht hT hg (by with_unfolding_all rfl)
def cutV (xs:List V) (lo hi:Option Int):List V:=(xs.drop (HT.sIx xs.length 0 lo)).take (HT.sIx xs.length xs.length hi-HT.sIx xs.length 0 lo)
theorem cutV_length (xs:List V) (lo hi:Option Int):(cutV xs lo hi).length <= xs.length:=by
 unfold cutV
 rw [yBB,yBE]
 omega
end
def ixN (n:Nat) (i:Int):Option Nat:=if 0 <= i then (if i < n then some i.toNat else none) else if -(n:Int) <= i then some (i+n).toNat else none
def atI {α:Type} (xs:List α) (i:Int):Option α:=(ixN xs.length i).bind fun j=>xs[j]?
theorem ixN_seq {n:Nat} {i:Int} {j:Nat} (h:ixN n i=some j):seqIndex? i n=some j /\ j < n /\ -(n:Int) <= i /\ i < n:=by
 unfold ixN at h
 by_cases h0:0 <= i
 .rw [if_pos h0] at h
  by_cases h1:i < n
  .rw [if_pos h1] at h
   have e:i.toNat=j:=Option.some.inj h
   exact ⟨by rw [seqIndex_of h0 h1,e],by omega,by omega,h1⟩
  .rw [if_neg h1] at h;cases h
 .rw [if_neg h0] at h
  by_cases h1:-(n:Int) <= i
  .rw [if_pos h1] at h
   have e:(i+n).toNat=j:=Option.some.inj h
   exact ⟨by rw [seqIndex_neg (by omega) h1,e],by omega,h1,by omega⟩
  .rw [if_neg h1] at h;cases h
theorem atI_get {α:Type} {xs:List α} {i:Int} {v:α} (h:atI xs i=some v):∃ j,seqIndex? i xs.length=some j /\ xs[j]?=some v /\ j < xs.length /\ -(xs.length:Int) <= i /\ i < xs.length:=by
 unfold atI at h
 cases e:ixN xs.length i with
 | none=>rw [e] at h;cases h
 | some j=>
  rw [e] at h
  obtain ⟨h1,h2,h3,h4⟩:=ixN_seq e
  exact ⟨j,h1,h,h2,h3,h4⟩
theorem atI_nat {α:Type} {xs:List α} {j:Nat} {v:α} (h:xs[j]?=some v):atI xs (j:Int)=some v:=by
 have hj:j < xs.length:=(yAJ.mp h).1
 have e:ixN xs.length (j:Int)=some j:=by
  unfold ixN
  rw [if_pos (by omega),if_pos (by omega)];simp
 unfold atI;rw [e];exact h
def PlainIx (b:Expr):Prop:=∀ o i,subscripted b false o i=operate [o,i] (getItem o i)
def IxR (X:Cx) (r:R2):Prop :=
 ∀ (value slice:Expr) (pins:List (Addr×Obj)) (s:Shared) (σ:St) (H:Hp) (x y:V) (v u:Value) (Q:VK),Inv X pins σ H s->RelV x v->RelV y u->r x y H Q ->
  subscripted slice false v u=operate [v,u] (getItem v u)->wpAny (model X.prog X.w) X.A (subscriptTail value slice v u) (EP X pins σ Q) X.xe s
def MtR (X:Cx) (id:String) (r:V->List V->Hp->VK->Prop):Prop :=
 ∀ (pins:List (Addr×Obj)) (s:Shared) (σ:St) (H:Hp) (x:V) (xs:List V) (v:Value) (us:List Value) (Q:VK),Inv X pins σ H s->RelV x v->Vals xs us->r x xs H Q ->
  wpAny (model X.prog X.w) X.A (call (.builtin id) (v::us)) (EP X pins σ Q) X.xe s
section
variable {X:Cx} {a b:Expr} {ta tb:TE} {pos:Pos}
theorem ZAc {r:R2} (hr:IxR X r) (ha:PE X a ta) (hb:PE X b tb) (hs:PlainIx b):PE X (.Subscript a b pos) (tOp r ta tb):=by
 intro pins s σ H Q I h
 exact Subscript_ (binT ha hb I h fun v u s2 x y H2 I2 rx ry q=>hr a b pins s2 σ H2 x y v u Q I2 rx ry q (hs _ _))
def rIxL (K:W.Frag):R2:=fun x y H Q=>∃ p xs i v,x=.ref p /\ y=.int i /\ SqL K H p xs /\ atI xs i=some v /\ Q v H
def rIxT (K:W.Frag):R2:=fun x y H Q=>∃ p xs i v,x=.ref p /\ y=.int i /\ SqT K H p xs /\ atI xs i=some v /\ Q v H
theorem ZAe:IxR X (rIxL X.K):=by
 intro value slice pins s σ H x y v u Q I rx ry h hs
 obtain ⟨p,xs,i,z,rfl,rfl,hq,he,q⟩:=h
 cases rx
 obtain ⟨t,rfl⟩:=ry
 obtain ⟨its,r,pl,hz⟩:=I.list hq
 obtain ⟨j,h1,h2,h3,h4,h5⟩:=atI_get he
 obtain ⟨w,ew,rw'⟩:=r.get h2
 have hl:=r.length
 have hn:=ZDN
 have fin:EP X pins σ Q w s:=⟨z,H,I,rw',q⟩
 by_cases h0:0 <= i
 .have hj:i.toNat=j:=by
   rw [seqIndex_of h0 h5] at h1
   exact Option.some.inj h1
  exact item_listR pl.isList h0 (by omega) (by rw [hj];simpa using ew) fin hs
 .have hj:(i+(its.toArray.size:Int)).toNat=j:=by
   rw [seqIndex_neg (by omega) h4] at h1
   rw [yAK,<- hl]
   exact Option.some.inj h1
  exact subscriptTail_builtinR (x:=w) pl.isList.typeIs slot_list_getitem.lookup
   (wpAny_getItem_list_neg (Q:=fun r s'=>r=w /\ EP X pins σ Q r s') pl.isList (by omega) (by rw [yAK] <;> omega) (by omega) (by rw [hj];simpa using ew) ⟨rfl,fin⟩) hs
theorem ZAw:IxR X (rIxT X.K):=by
 intro value slice pins s σ H x y v u Q I rx ry h hs
 obtain ⟨p,xs,i,z,rfl,rfl,hq,he,q⟩:=h
 cases rx
 obtain ⟨t,rfl⟩:=ry
 obtain ⟨its,r,pl,hz⟩:=I.tuple hq
 obtain ⟨j,h1,h2,h3,h4,h5⟩:=atI_get he
 obtain ⟨w,ew,rw'⟩:=r.get h2
 have hl:=r.length
 have hn:=ZDN
 have fin:EP X pins σ Q w s:=⟨z,H,I,rw',q⟩
 exact subscriptTail_builtinR (x:=w) pl.typeIs slot_tuple_getitem.lookup
  (getItem_tuple (j:=j) (Q:=fun r s'=>r=w /\ EP X pins σ Q r s') pl (by omega) (by omega) (by rw [yAK,<- hl];exact h1) (by simpa using ew) ⟨rfl,fin⟩) hs
theorem mapSeq_set (its:List Value) (n j:Nat) (u:Value):Obj.mapSeq (·.setIfInBounds j u) { cls:=.type "list",data:=.seq its.toArray n }={ cls:=.type "list",data:=.seq (its.set j u).toArray n }:=by
 simp [Obj.mapSeq]
theorem Inv.lst {pins:List (Addr×Obj)} {σ:St} {H:Hp} {s:Shared} {p:Addr} {xs:List V} (I:Inv X pins σ H s) (h:H p=some (.lst xs)) :
  ∃ (its:List Value) (n:Nat),Vals xs its /\ s.heap.get? p=some { cls:=.type "list",data:=.seq its.toArray n } /\ xs.length <= sizeLine:=by
 obtain ⟨z,its,n,r,e⟩:=I.hok p _ h
 exact ⟨its,n,r,e,z⟩
theorem Inv.lstUpd {pins:List (Addr×Obj)} {σ:St} {H:Hp} {s:Shared} {p:Addr} {xs ys:List V} {its its':List Value} {n n':Nat} {f:Obj->Obj} (I:Inv X pins σ H s) (h:H p=some (.lst xs))
  (ho:s.heap.get? p=some { cls:=.type "list",data:=.seq its.toArray n }) (hf:f { cls:=.type "list",data:=.seq its.toArray n }={ cls:=.type "list",data:=.seq its'.toArray n' }) (r:Vals ys its') (hz:ys.length <= sizeLine) (t:Nat) :
  Inv X pins σ (upd H p (.lst ys)) { s with heap:=s.heap.update p f,toks:=t }:=by
 have e:(s.heap.update p f).get? p=some { cls:=.type "list",data:=.seq its'.toArray n' }:=by
  rw [Heap.get?_update_self f ho (by rw [hf] <;> rfl),hf]
 refine I.write (x:=p) (e:=p) (by rw [h];trivial) (.inl rfl) (fun b u hb q=>(Heap.get?_update_other _ _ (Ne.symm hb)).trans q) ⟨_,e⟩ ?_
 exact ⟨hz,its',n',r,e⟩
def rSetL:V->V->V->Hp->(Hp->Prop)->Prop:=fun o i v H Q=>∃ p xs k j,o=.ref p /\ i=.int k /\ H p=some (.lst xs) /\ ixN xs.length k=some j /\ Q (upd H p (.lst (xs.set j v)))
theorem set_list:PSet X rSetL:=by
 intro pins s σ H o i v ov iv u Q I ro ri rv h
 obtain ⟨p,xs,k,j,rfl,rfl,hp,hj,q⟩:=h
 cases ro
 obtain ⟨t,rfl⟩:=ri
 obtain ⟨its,n,r,ho,hz⟩:=I.lst hp
 obtain ⟨h1,h2,h3,h4⟩:=ixN_seq hj
 have hl:=r.length
 have hn:=ZDN
 have I':Inv X pins σ (upd H p (.lst (xs.set j v))) { s with heap:=s.heap.update p (Obj.mapSeq (·.setIfInBounds j u)) } :=
  I.lstUpd hp ho (mapSeq_set its n j u) (r.set rv j) (by rw [List.length_set];exact hz) s.toks
 by_cases h0:0 <= k
 .have hk:k.toNat=j:=by
   rw [seqIndex_of h0 h4] at h1
   exact Option.some.inj h1
  exact PySem.W.ki_setAt ho h0 (by omega) (by rw [yAK,<- hl];exact h4) (by rw [hk];exact ⟨_,I',q⟩)
 .have hk:(k+(its.toArray.size:Int)).toNat=j:=by
   rw [seqIndex_neg (by omega) h3] at h1
   rw [yAK,<- hl]
   exact Option.some.inj h1
  exact PySem.W.ki_setBack ho (by omega) (by rw [yAK,<- hl];exact h3) (by omega) (by rw [hk];exact ⟨_,I',q⟩)
theorem slice_bounds (lo hi:Option Int) (n:Nat):(sliceBounds lo hi none n).1=((HT.sIx n 0 lo:Nat):Int) /\ (sliceBounds lo hi none n).2.1=((HT.sIx n n hi:Nat):Int) /\ (sliceBounds lo hi none n).2.2=1:=by
 refine ⟨?_,?_,rfl⟩
 .cases lo with
  | none=>simp [sliceBounds,HT.sIx]
  | some i=>
   simp only [sliceBounds,HT.sIx,Option.getD_none,show (1:Int) > 0 by decide,if_true]
   by_cases h:i < 0
   .simp only [h,if_true] <;> omega
   .simp only [h,if_false] <;> omega
 .cases hi with
  | none=>simp [sliceBounds,HT.sIx]
  | some i=>
   simp only [sliceBounds,HT.sIx,Option.getD_none,show (1:Int) > 0 by decide,if_true]
   by_cases h:i < 0
   .simp only [h,if_true] <;> omega
   .simp only [h,if_false] <;> omega
theorem slicePick_cut (its:List Value) (lo hi:Option Int):slicePick its.toArray lo hi none=((its.drop (HT.sIx its.length 0 lo)).take (HT.sIx its.length its.length hi-HT.sIx its.length 0 lo)).toArray:=by
 obtain ⟨h1,h2,h3⟩:=slice_bounds lo hi its.toArray.size
 unfold slicePick
 rw [h1,h2,h3]
 simp only [sliceRange_one,pick_run,yAK] <;> rfl
def rSlL (K:W.Frag):V->Option Int->Option Int->Hp->VK->Prop:=fun x lo hi H Q=>∃ a xs,x=.ref a /\ SqL K H a xs /\ ∀ p,H p=none->Q (.ref p) (upd H p (.lst (cutV xs lo hi)))
theorem sl_list:SlR X (rSlL X.K):=by
 intro pins s σ H x v vl vu lo hi sl Q I rx hs pl pu h
 obtain ⟨a,xs,rfl,hx,q⟩:=h
 cases rx
 obtain ⟨its,r,ht,hz⟩:=I.list hx
 have hlen:=r.length
 refine ⟨"list",_,slot_list_getitem.lookup,ht.isList.typeIs,?_⟩
 refine wpAny_getItem_list_slice ht.isList hs pl pu .none (by simp) ?_ (by rw [yAK] <;> omega)
 rw [slicePick_cut,<- hlen]
 refine ⟨.ref s.heap.objs.size,_,I.laid (t':=s.toks) (o:=.lst (cutV xs lo hi)) (fun b ob q=>Heap.get?_push_of_some _ q) (yAA _) ?_,rfl,q _ (I.hok.fresh (yAA _))⟩
 exact ⟨yAI (cutV_length xs lo hi) hz,_,0,(r.drop (HT.sIx xs.length 0 lo)).take (HT.sIx xs.length xs.length hi-HT.sIx xs.length 0 lo),Heap.get?_push_size _ rfl⟩
theorem ZAO:ZCb X (.builtin "len") (fun xs H Q=>∃ p ys,xs=[.ref p] /\ (SqL X.K H p ys∨SqT X.K H p ys) /\ Q (.int ys.length) H):=by
 intro pins s σ H xs us Q I r h
 obtain ⟨p,ys,rfl,hq,q⟩:=h
 obtain ⟨u,rfl,rx⟩:=ZDS r
 cases rx
 have hn:=ZDN
 rcases hq with hq | hq
 .obtain ⟨its,r',pl,hz⟩:=I.list hq
  have hlen:=r'.length
  exact Calls.call_len_list pl.isList (by simp only [yAK] <;> omega) ⟨.int ys.length,H,I.tok _,⟨s.toks+1,by rw [yAK,hlen]⟩,q⟩
 .obtain ⟨its,r',pl,hz⟩:=I.tuple hq
  have hlen:=r'.length
  exact len_tuple pl (by simp only [yAK] <;> omega) ⟨.int ys.length,H,I.tok _,⟨s.toks+1,by rw [yAK,hlen]⟩,q⟩
theorem ZBT:ZCb X (.type "list") (fun xs H Q=>∃ p ys,xs=[.ref p] /\ (SqL X.K H p ys∨SqT X.K H p ys) /\ ∀ l,H l=none->Q (.ref l) (upd H l (.lst ys))):=by
 intro pins s σ H xs us Q I r h
 obtain ⟨p,ys,rfl,hq,q⟩:=h
 obtain ⟨u,rfl,rx⟩:=ZDS r
 cases rx
 have fin:∀ (its:List Value),Vals ys its->ys.length <= sizeLine->∀ (h':Heap) (c':Nat),(∀ b o',s.heap.get? b=some o'->h'.get? b=some o') ->
   h'.get? s.heap.objs.size=some { cls:=.type "list",dict:=none,data:=.seq its.toArray c',slots:=#[] }->EP X pins σ Q (.ref s.heap.objs.size) { s with heap:=h' }:=fun its r' hz h' c' kp e=>
  ⟨.ref s.heap.objs.size,_,I.laid (t':=s.toks) kp (yAA _) (show ObjOk X.prog X.w _ h' _ (.lst ys) from ⟨hz,its,c',r',e⟩),rfl,q _ (I.hok.fresh (yAA _))⟩
 rcases hq with hq | hq
 .obtain ⟨its,r',pl,hz⟩:=I.list hq
  have hlen:=r'.length
  obtain ⟨o,ho,hc,n,hd⟩:=pl.isList
  exact call_list_seq p (.inl rfl) ho hc hd (fun h' c' kp e=>fin its r' hz h' c' kp e) (by simp only [yAK] <;> omega)
 .obtain ⟨its,r',pl,hz⟩:=I.tuple hq
  have hlen:=r'.length
  obtain ⟨o,ho,hc,n,hd⟩:=pl
  exact call_list_seq p (.inr rfl) ho hc hd (fun h' c' kp e=>fin its r' hz h' c' kp e) (by simp only [yAK] <;> omega)
def tyV (K:W.Frag) (T:String) (x:V) (H:Hp):Prop:=match x with
 | .str _=>T="str"
 | .int _=>T="int"
 | .ref p=>(T="list" /\ ∃ xs,SqL K H p xs)∨(T="tuple" /\ ∃ o,K.lookup p=some o /\ o.cls=.type "tuple" /\ o.dict=none) ∨
   (T="dict" /\ ((∃ kvs,H p=some (.dK kvs))∨∃ kvs,H p=some (.dT kvs)))∨(T="set" /\ ∃ S n,H p=some (.set S n))
 | _=>False
theorem tyV_is {pins:List (Addr×Obj)} {σ:St} {H:Hp} {s:Shared} {T:String} {x:V} {v:Value} (I:Inv X pins σ H s) (r:RelV x v) (ty:tyV X.K T x H) :
  s.TypeIs v T /\ ∀ a,v=.ref a->∃ ob,s.heap.get? a=some ob /\ ob.dict=none:=by
 cases x with
 | str z=>
  obtain ⟨t,rfl⟩:=r
  cases (show T="str" from ty)
  exact ⟨typeIs_str s z t,fun _ e=>nomatch e⟩
 | int i=>
  obtain ⟨t,rfl⟩:=r
  cases (show T="int" from ty)
  exact ⟨typeIs_int s i t,fun _ e=>nomatch e⟩
 | ref p=>
  cases r
  rcases ty with ⟨rfl,xs,hq⟩ | ⟨rfl,o,hk,hc,hd⟩ | ⟨rfl,hk⟩ | ⟨rfl,S,n,hk⟩
  .obtain ⟨its,_,pl,_⟩:=I.list hq
   refine ⟨pl.isList.typeIs,fun a e=>?_⟩
   cases e
   obtain ⟨o,n,e,c,hd,_⟩:=pl
   exact ⟨o,e,hd⟩
  .refine ⟨⟨o,I.kIn p o hk,hc⟩,fun a e=>?_⟩
   cases e
   exact ⟨o,I.kIn _ o hk,hd⟩
  .have z:∃ o,s.heap.get? p=some o /\ o.ExactDict:=by
    rcases hk with ⟨kvs,hk⟩ | ⟨kvs,hk⟩
    .obtain ⟨_,_,_,_,o,_,_,e,ex,_⟩:=I.hok p _ hk
     exact ⟨o,e,ex⟩
    .obtain ⟨_,_,_,_,o,_,_,e,ex,_⟩:=I.hok p _ hk
     exact ⟨o,e,ex⟩
   obtain ⟨o,e,ex⟩:=z
   refine ⟨⟨o,e,ex.1⟩,fun a e2=>?_⟩
   cases e2
   exact ⟨o,e,ex.2.1⟩
  .obtain ⟨o,_,_,_,e,ex,_⟩:=I.hok p _ hk
   refine ⟨⟨o,e,ex.1⟩,fun a e2=>?_⟩
   cases e2
   exact ⟨o,e,ex.2.1⟩
 | _=>exact False.elim ty
def tBM0 (K:W.Frag) (T:String) (r:V->List V->Hp->VK->Prop) (to:TE):TE:=fun σ H Q=>to σ H fun x H1=>tyV K T x H1 /\ r x [] H1 Q
def tBM (K:W.Frag) (T:String) (r:V->List V->Hp->VK->Prop) (to:TE) (t:TA):TE:=fun σ H Q=>to σ H fun x H1=>tyV K T x H1 /\ t σ H1 fun xs H2=>r x xs H2 Q
variable {o e:Expr} {es:List Expr} {to:TE} {t:TA} {name:Str} {apos cpos:Pos} {T id:String} {r:V->List V->Hp->VK->Prop}
theorem pe_bm0 (pa:PlainAttrs T) (slot:Slot T name id) (hty:typeOf (.builtin id)=pure (.type "method_descriptor")) (hm:MtR X id r) (ho:PE X o to)
  (hbase:attributeBase o name X.env (eval o X.env)=eval o X.env:=by rfl) (hline:(apos.endLine == cpos.line)=true:=by rfl):PE X (.Call (.Attribute o name apos) [] [] cpos) (tBM0 X.K T r to):=by
 intro pins s σ H Q I h
 refine wpAny_Call_method0_late hbase hline (thn (ho pins s σ H _ I h) fun v s1 ⟨x,H1,I1,r1,ty,q1⟩=>?_)
 obtain ⟨h1,h2⟩:=tyV_is I1 r1 ty
 exact ⟨T,id,pa,slot,hty,h1,h2,Calls.callWith_builtin rfl (PySem.evalArgs_none (hm pins s1 σ H1 x [] v [] Q I1 r1 .nil q1))⟩
theorem ZCI (pa:PlainAttrs T) (slot:Slot T name id) (hty:typeOf (.builtin id)=pure (.type "method_descriptor")) (hm:MtR X id r) (ho:PE X o to) (ha:PA X (e::es) t)
  (hbase:attributeBase o name X.env (eval o X.env)=eval o X.env:=by rfl)
  (hfew:((backTo cpos (starEach (e::es) X.env)).all (fun x=>!x.1) && (backToKw cpos (keywordEach [] X.env)).all (fun x=>x.1.isSome)
   && decide ((e::es).length+([]:List Keyword).length+(if ([]:List Keyword).isEmpty then 0 else 1) < 30))=true:=by rfl)
  (hline:(apos.endLine == cpos.line)=true:=by rfl) (hs:starEach (e::es) X.env=(false,eval e X.env)::starEach es X.env:=by rfl) (hplain:(backTo cpos (starEach es X.env)).any (·.1)=false:=by rfl) :
  PE X (.Call (.Attribute o name apos) (e::es) [] cpos) (tBM X.K T r to t):=by
 intro pins s σ H Q I h
 refine wpAny_Call_method_late hbase hfew hline rfl (thn (ho pins s σ H _ I h) fun v s1 ⟨x,H1,I1,r1,ty,q1⟩=>?_)
 obtain ⟨h1,h2⟩:=tyV_is I1 r1 ty
 refine ⟨T,id,pa,slot,hty,h1,h2,?_⟩
 have hA:=ha cpos pins s1 σ H1 _ I1 q1
 rw [hs] at hA ⊢
 refine Calls.callWith_builtin (by show (false || (backTo cpos (starEach es X.env)).any (·.1))=false;rw [hplain] <;> rfl) (Calls.evalArgs_plain ?_)
 exact thn hA fun us s2 ⟨vs,H2,I2,r2,q2⟩=>hm pins s2 σ H2 x vs v us Q I2 r1 r2 q2
end
def MtM (X:Cx) (id:String) (r:V->List V->Hp->VK->Prop):Prop :=
 ∀ (pins:List (Addr×Obj)) (s:Shared) (σ:St) (H:Hp) (x:V) (xs:List V) (v:Value) (us:List Value) (Q:VK),Inv X pins σ H s->RelV x v->Vals xs us->r x xs H Q ->
  wpAny (model X.prog X.w) X.A (call (.builtin id) (v::us)) (EP X pins σ Q) X.xe s
theorem Vals.one:∀ {x:V} {us:List Value},Vals [x] us->∃ u,us=[u] /\ RelV x u
 | _,_,.cons r .nil=>⟨_,rfl,r⟩
theorem Vals.two:∀ {x y:V} {us:List Value},Vals [x,y] us->∃ u v,us=[u,v] /\ RelV x u /\ RelV y v
 | _,_,_,.cons r (.cons q .nil)=>⟨_,_,rfl,r,q⟩
theorem Vals.zero:∀ {us:List Value},Vals [] us->us=[]
 | _,.nil=>rfl
theorem Vals.eraseIdx:∀ {xs:List V} {us:List Value} (i:Nat),Vals xs us->Vals (xs.eraseIdx i) (us.eraseIdx i)
 | _,_,_,.nil=>.nil
 | _,_,0,.cons _ t=>t
 | _,_,i+1,.cons r t=>.cons r (Vals.eraseIdx i t)
theorem Vals.reverse {xs:List V} {us:List Value} (h:Vals xs us):Vals xs.reverse us.reverse:=by
 induction h with
 | nil=>exact .nil
 | cons r t ih=>rw [List.reverse_cons,List.reverse_cons];exact Vals.append ih (.cons r .nil)
theorem len_erase {α:Type}:∀ (l:List α) (i:Nat),(l.eraseIdx i).length <= l.length
 | [],_=>yAA _
 | _::_,0=>yAZ _
 | _::r,i+1=>Nat.succ_le_succ (len_erase r i)
section
variable {X:Cx} {pins:List (Addr×Obj)} {σ:St} {H:Hp} {s:Shared} {l b:Addr} {xs ys zs:List V}
theorem Inv.lset {its its':List Value} {n:Nat} {f:Array Value->Array Value} {t':Nat} (I:Inv X pins σ H s) (hH:H l=some (.lst xs))
  (e:s.heap.get? l=some { cls:=.type "list",data:=.seq its.toArray n }) (hf:f its.toArray=its'.toArray) (hv:Vals ys its') (hz:ys.length <= sizeLine) :
  Inv X pins σ (upd H l (.lst ys)) { s with heap:=s.heap.update l (Obj.mapSeq f),toks:=t' }:=by
 have q:=PySem.IsL.update e f
 rw [hf] at q
 refine I.write (x:=l) (e:=l) (by rw [hH];exact trivial) (.inl rfl) (fun b' u hb hu=>(Heap.get?_update_other s.heap (Obj.mapSeq f) (Ne.symm hb)).trans hu) ⟨_,q⟩ ?_
 exact ⟨hz,its',_,hv,q⟩
theorem Inv.lnew {its:List Value} {t':Nat} (I:Inv X pins σ H s) (hv:Vals ys its) (hz:ys.length <= sizeLine) :
  Inv X pins σ (upd H s.heap.objs.size (.lst ys)) { s with heap:=s.heap.push { cls:=.type "list",data:=.seq its.toArray },toks:=t' } :=
 I.laid (fun _ _ q=>Heap.get?_push_of_some _ q) (yAA _) ⟨hz,its,0,hv,Heap.get?_push_size _ rfl⟩
theorem Inv.fresh (I:Inv X pins σ H s):H s.heap.objs.size=none:=I.hok.fresh (yAA _)
theorem Inv.lstM (I:Inv X pins σ H s) (hH:H l=some (.lst xs)):xs.length <= sizeLine /\ ∃ (its:List Value) (n:Nat),Vals xs its /\ xs.length=its.length /\ s.heap.get? l=some { cls:=.type "list",data:=.seq its.toArray n }:=by
 obtain ⟨z,its,n,r,e⟩:=I.hok l _ hH
 exact ⟨z,its,n,r,r.length,e⟩
theorem notLongL {n:Nat} (h:n <= sizeLine):Builtin.List.listTooLong n=false:=by
 unfold Builtin.List.listTooLong
 exact decide_eq_false (by omega)
end
section
variable {X:Cx}
def rAppend:V->List V->Hp->VK->Prop:=fun x vs H Q=>∃ l xs y,x=.ref l /\ vs=[y] /\ H l=some (.lst xs) /\ xs.length < sizeLine /\ Q .non (upd H l (.lst (xs++[y])))
theorem ZBc:MtM X "list.append" rAppend:=by
 intro pins s σ H x vs v us Q I rx rv h
 obtain ⟨l,xs,y,rfl,rfl,hH,hz,q⟩:=h
 cases rx
 obtain ⟨u,rfl,ru⟩:=rv.one
 obtain ⟨z,its,n,r,hl,e⟩:=I.lstM hH
 refine call_meets F.slot_list_append ⟨_,e,rfl⟩ F.entry_list_append (F.args_list_append_2 _ _) (PySem.list_append l its.toArray n u (by rw [yAK];omega)) ⟨e,?_⟩
 refine ⟨.non,_,I.lset (its':=its++[u]) hH e (by simp) (r.append (.cons ru .nil)) ?_,rfl,q⟩
 rw [yAB,yAN]
 omega
def rExtend:V->List V->Hp->VK->Prop:=fun x vs H Q=>∃ l b xs zs,x=.ref l /\ vs=[.ref b] /\ H l=some (.lst xs) /\ H b=some (.lst zs) /\ xs.length+zs.length <= sizeLine /\ Q .non (upd H l (.lst (xs++zs)))
theorem mt_extend:MtM X "list.extend" rExtend:=by
 intro pins s σ H x vs v us Q I rx rv h
 obtain ⟨l,b,xs,zs,rfl,rfl,hH,hB,hz,q⟩:=h
 cases rx
 obtain ⟨u,rfl,ru⟩:=rv.one
 cases ru
 obtain ⟨z,its,n,r,hl,e⟩:=I.lstM hH
 obtain ⟨z2,its2,n2,r2,hl2,e2⟩:=I.lstM hB
 have hsz:its.toArray.size+its2.toArray.size <= sizeLine:=by rw [yAK,yAK];omega
 have hlong:¬ (!its.toArray.isEmpty && Builtin.List.listTooLong (its.toArray.size+its2.toArray.size))=true:=by
  rw [notLongL hsz,Bool.and_false]
  exact yAW
 refine call_meets F.slot_list_extend ⟨_,e,rfl⟩ F.entry_list_extend (F.args_list_extend_2 _ _)
  (AutoSeq1.list_extend_list_list_0 l its.toArray n b its2.toArray n2 hlong (by rw [yAK];omega) (by omega)) ⟨e,e2,?_⟩
 refine ⟨.non,_,I.lset (its':=its++its2) hH e (by simp) (r.append r2) ?_,rfl,q⟩
 rw [yAB]
 omega
def rPopAt:V->List V->Hp->VK->Prop:=fun x vs H Q=>∃ l xs i k y,x=.ref l /\ vs=[.int i] /\ H l=some (.lst xs) /\ -(2 ^ 63) <= i /\ i < 2 ^ 63 /\ seqIndex? i xs.length=some k /\ xs[k]?=some y /\ Q y (upd H l (.lst (xs.eraseIdx k)))
theorem ZCu:MtM X "list.pop" rPopAt:=by
 intro pins s σ H x vs v us Q I rx rv h
 obtain ⟨l,xs,i,k,y,rfl,rfl,hH,h1,h2,hk,hy,q⟩:=h
 cases rx
 obtain ⟨u,rfl,ru⟩:=rv.one
 obtain ⟨t,rfl⟩:=ru
 obtain ⟨z,its,n,r,hl,e⟩:=I.lstM hH
 obtain ⟨w,hw,rw'⟩:=r.get hy
 refine call_meets F.slot_list_pop ⟨_,e,rfl⟩ F.entry_list_pop (F.args_list_pop_2 _ _)
  (MeetsSeq.list_pop_at l its.toArray n i t k w (fitsIndex_both h1 h2) (by rw [yAK,<- hl];exact hk) (by rw [<- Array.getElem?_toList];exact hw) (by rw [yAK];omega)) ⟨e,?_⟩
 refine ⟨y,_,I.lset (its':=its.eraseIdx k) hH e ?_ (r.eraseIdx k) ?_,rw',q⟩
 .show its.toArray.eraseIdxIfInBounds k=(its.eraseIdx k).toArray
  rw [List.eraseIdxIfInBounds_toArray]
 .have:=len_erase xs k
  omega
def rReverse:V->List V->Hp->VK->Prop:=fun x vs H Q=>∃ l xs,x=.ref l /\ vs=[] /\ H l=some (.lst xs) /\ Q .non (upd H l (.lst xs.reverse))
theorem mt_reverse:MtM X "list.reverse" rReverse:=by
 intro pins s σ H x vs v us Q I rx rv h
 obtain ⟨l,xs,rfl,rfl,hH,q⟩:=h
 cases rx
 have hus:=rv.zero
 subst hus
 obtain ⟨z,its,n,r,hl,e⟩:=I.lstM hH
 refine call_meets F.slot_list_reverse ⟨_,e,rfl⟩ F.entry_list_reverse (F.args_list_reverse_1 _) (AutoSeq1.list_reverse_list_0 l its.toArray n (by rw [yAK];omega)) ⟨e,?_⟩
 refine ⟨.non,_,I.lset (its':=its.reverse) hH e (by simp) r.reverse ?_,rfl,q⟩
 rw [List.length_reverse]
 omega
def rCat:R2:=fun x y H Q=>∃ l b xs zs,x=.ref l /\ y=.ref b /\ H l=some (.lst xs) /\ H b=some (.lst zs) /\ xs.length+zs.length <= sizeLine /\ ∀ p,H p=none->Q (.ref p) (upd H p (.lst (xs++zs)))
theorem ZDh:OpR X (binaryOp .Add) rCat:=by
 intro pins s σ H x y v u Q I rx ry h
 obtain ⟨l,b,xs,zs,rfl,rfl,hH,hB,hz,q⟩:=h
 cases rx
 cases ry
 obtain ⟨z,its,n,r,hl,e⟩:=I.lstM hH
 obtain ⟨z2,its2,n2,r2,hl2,e2⟩:=I.lstM hB
 refine PySem.P.add_list e e2 ?_ (by rw [yAK,yAK];omega)
 have ea:its.toArray++its2.toArray=(its++its2).toArray:=by simp
 rw [ea]
 exact ⟨.ref _,_,I.lnew (t':=s.toks) (r.append r2) (by rw [yAB];omega),rfl,q _ I.fresh⟩
end
section
variable {prog:Program} {w:World} {A:Around} {E:Value->Shared->Prop} {s:Shared}
set_option maxRecDepth 100000 in
end
section
variable {X:Cx}
end
end L2
namespace Att
open PySem PySem.W PySem.Calls PyProof.Rows
theorem ints_of_wellAll {P:Params} {h:Heap}:∀ (ns:List Int) (vs:List Value),WellAll P h vs (ns.map WData.int)->IntsAre vs ns:=by
 intro ns
 induction ns with
 | nil=>
  intro vs w
  rw [List.map_nil] at w
  cases w
  exact .nil
 | cons n ns ih=>
  intro vs w
  rw [yAX] at w
  cases w with
  | cons a b=>
   cases a
   exact .cons _ _ (ih _ b)
theorem script_of {l:OpenLaw} {n:Nat} (hn:l.most=some n) {P:Params} {h:Heap} {args:List WData} {vals:List Value}
  (hpre:l.row.toRowW.claim.pre args=true) (hwl:WellAll P h vals args) :
  ∃ a vs ns,vals=[Value.ref a] /\ args=[WData.list (ns.map WData.int)] /\ h.get? a=some { cls:=.type "list",data:=.seq vs.toArray } /\ IntsAre vs ns /\ ns.length <= n:=by
 have hsh:WShape.hasAll [] args [.list .int]=true:=(pre_splitW hpre).1
 have hc:l.pre.holds [] { args:=args }=true:=(pre_splitW hpre).2
 obtain ⟨d,r,rfl,h1,h2⟩:=hasAllW_cons hsh
 obtain rfl:=hasAllW_nil h2
 obtain ⟨xs,rfl,h3⟩:=hasW_list h1
 obtain ⟨ns,rfl⟩:=items_int h3
 have hlen:ns.length <= n:=by
  unfold OpenLaw.pre at hc
  have h4:(WTm.not (.lt (.lit (.int (n:Int))) (.len (.arg 0)))).holds [] { args:=[.list (ns.map .int)] }=true:=by
   have h4:=(holds_andW hc).1
   rw [hn] at h4
   exact h4
  have h5:=condW_of h4 (w_not (w_lt w_lit (w_len_list (w_arg rfl))))
  rw [yAD] at h5
  refine Nat.le_of_not_lt fun q=>?_
  have q':(n:Int) < ((ns.length:Nat):Int):=by omega
  first
   | (rw [decide_eq_true q'] at h5;exact absurd h5 (by decide))
   | (simp at h5;omega)
 cases hwl with
 | cons w1 w2=>
  cases w2
  cases w1 with
  | list ho hall=>exact ⟨_,_,ns,rfl,rfl,ho,ints_of_wellAll ns _ hall,hlen⟩
theorem post_true (l:OpenLaw) (args:List WData):l.row.toRowW.claim.post args (.bool true) args=true :=
 postW_of (r:=l.row.toRowW) (X:=(true == true))
  (show WShape.has [] (.bool true) .bool=true by first | rfl | decide | simp [WShape.has,WShape.arms,WShape.armsAll])
  (show (WTm.eq .res (.lit (.bool true))).value [] { args:=args,res:=some (.bool true),after:=args }=some (.bool (true == true)) from w_eq_bool (w_res rfl) w_lit) rfl
theorem attach_call {l:OpenLaw} {n:Nat} {q:Program} {loose:List Str} {XP:(Str->Option Value)->Heap->Prop} {YP:World->Heap->Prop} {d:DefRec}
  (hn:l.most=some n) (hdf:d.params.defaults=[])
  (call:∀ (w:World) (s₀ s₁:Shared) (mg mb:Str->Option Value) (fa:Addr) (o:Obj) (pm cd doc:Value) (a:Addr) (vs:List Value) (ns:List Int),
   Ground q loose [] XP w s₀ mg mb s₁.heap->YP w s₁.heap ->
   s₁.heap.get? fa=some o->o.data=.func (docDef d.name d.params d.body d.scope pm cd doc)->s₁.heap.CodeRec cd d.name->mg d.name=some (.ref fa) ->
   s₁.heap.get? a=some { cls:=.type "list",data:=.seq vs.toArray }->IntsAre vs ns->ns.length <= n->s₁.gens=#[] ->
   codeAny (model l.prog w) callerA (.call (.ref fa) ⟨[.ref a],[]⟩) (fun r s'=>r=.ok (.ret (.bool true)) /\ OldK s₁.heap s'.heap /\ s'.os=s₁.os /\ AllBare s'.gens) s₁) :
  WalkO q loose XP YP l.row.toRowW d [] (fun f vs=>PySem.call f vs):=by
 intro w s₀ s₁ mg mb G Y fa o pm cd doc dV kV ho hd hcd hD hmg hg args vals as hpre hlay hrd hwl hlo
 obtain rfl:dV=.none:=Dflts.none hD hdf
 obtain rfl:kV=.none:=Dflts.noKw hD
 obtain ⟨a,vs,ns,rfl,rfl,hobj,hints,hlen⟩:=script_of hn hpre hwl
 refine enter_call (codeAny_mono (call w s₀ s₁ mg mb fa o pm cd doc a vs ns G Y ho (fd_plain hd) hcd hmg hobj hints hlen hg) fun r s' hq=>?_)
 obtain ⟨rfl,h2,h3,h4⟩:=hq
 exact ⟨.inl ⟨.bool true,.bool true,[],rfl,fun _=>rfl,.bool true,post_true l _,fun _=>⟨List.Pairwise.nil,fun _ hm=>(nomatch hm)⟩⟩,h2,h3,h4⟩
section
variable {prog:Program} {w:World} {A:Around} {E:Value->Shared->Prop} {s:Shared} {K:Frag}
end
end Att
namespace L2
open PySem PySem.Spec PyProof.Rows
theorem ZCP:∀ {vs:List Value} {ns:List Int},IntsAre vs ns->Vals (ns.map V.int) vs
 | _,_,.nil=>.nil
 | _,_,.cons n t h=>.cons ⟨t,rfl⟩ (ZCP h)
end L2
namespace L2
open PySem PySem.Spec PyProof.Rows
def ZAp (s:Stmt) (j:Nat):Stmt:=match s with
 | .ClassDef _ _ _ body _ _ _ _ _ _ _=>body.getD j (.Pass ⟨0,0,0,0⟩)
 | _=>.Pass ⟨0,0,0,0⟩
def ZAL (s:Stmt):Arguments:=match s with
 | .FunctionDef _ a _ _ _ _ _ _ _ _=>a
 | _=>{ posonlyargs:=[],args:=[],vararg:=none,kwonlyargs:=[],kw_defaults:=[],kwarg:=none,defaults:=[] }
def ZAK (s:Stmt):List Stmt:=match s with
 | .FunctionDef _ _ b _ _ _ _ _ _ _=>b
 | _=>[]
def ZAC (s:Stmt):Scope:=match s with
 | .FunctionDef _ _ _ _ _ _ sc _ _ _=>sc
 | _=>{ kind:=.function,names:=[],isGenerator:=false,isCoroutine:=false }
abbrev CX0:CXT:=fun _ _ _ _ _ _=>False
abbrev E0:XK:=fun _ _ _=>False
theorem ZAa {X:Cx}:ZBh CX0 X E0:=fun _ _ _ _ _ _ _ h=>h.elim
structure Fun (K:W.Frag) (x qual:Str) (st:Stmt) (f:Addr) (fd:FuncData):Prop where
 ex:∃ (oc:Value) (od:Option Addr) (kV doc pm:Value) (an:Option Addr) (cdv ct:Value) (osl:Array (Option Value)),
  fd=W.fnOf x qual (ZAL st) (ZAK st) (ZAC st) .none kV doc pm an cdv ct /\ K.lookup f=some ⟨oc,od,.func fd,osl⟩ /\ W.codeIn K cdv qual=true
 kp:W.keepIn K (.ref f)=true
section
variable {P:Program} {w:World} {K:W.Frag} {mg:Str->Option Value} {base:Heap}
theorem Fun.ok {x qual:Str} {st:Stmt} {f:Addr} {fd:FuncData} {N ps:List Str} {k:Nat} {sp:Sp} (F:Fun K x qual st f fd) (S:FnScope N ps (ZAC st)) (len:∀ vs H Q E,sp vs H Q E->vs.length=ps.length)
  (hbody:∀ (cdv:Value) (A:Around) (outer:List Env) (s:Shared) (H:Hp) (vs:List V) (Q:VK) (E:XK),Room k (A.deeper (envOfC qual (ZAC st) s.heap.objs.size f cdv))->sp vs H Q E ->
   ∃ t,PSs (cxOf CX0 P w K mg base N qual (ZAC st) f cdv A outer s H E).nox (ZAK st) t /\ t { nx:=fun _ H'=>Q .non H',rt:=Q } (start N vs) H):FnOk P w K mg base CX0 (k+1) f fd ps sp:=by
 obtain ⟨oc,od,kV,doc,pm,an,cdv,ct,osl,rfl,lk,hcd⟩:=F.ex
 refine fn_of lk hcd S len fun A outer s H vs Q E hr hsp=>?_
 obtain ⟨t,h,q⟩:=hbody cdv A outer s H vs Q E hr hsp
 exact ⟨t,h.nox,q⟩
theorem Fun.binds {x qual:Str} {st:Stmt} {f:Addr} {fd:FuncData} {ps:List Str} (F:Fun K x qual st f fd)
  (h:∀ (kV doc pm:Value) (an:Option Addr) (cdv ct:Value) (us:List Value),us.length=ps.length->bindArgs (W.fnOf x qual (ZAL st) (ZAK st) (ZAC st) .none kV doc pm an cdv ct) ⟨us,[]⟩=pure (ps.zip us)):Binds K fd ps []:=by
 obtain ⟨oc,od,kV,doc,pm,an,cdv,ct,osl,rfl,lk,hcd⟩:=F.ex
 exact .all (h kV doc pm an cdv ct)
theorem ZAo {x qual:Str} {st:Stmt} {f:Addr} {oc:Value} {od an:Option Addr} {osl:Array (Option Value)} {kV doc pm cdv ct:Value} (l:K.lookup f=some ⟨oc,od,.func (W.fnOf x qual (ZAL st) (ZAK st) (ZAC st) .none kV doc pm an cdv ct),osl⟩)
  (c:W.codeIn K cdv qual=true) (k:W.keepIn K (.ref f)=true):Fun K x qual st f (W.fnOf x qual (ZAL st) (ZAK st) (ZAC st) .none kV doc pm an cdv ct):=⟨⟨oc,od,kV,doc,pm,an,cdv,ct,osl,rfl,l,c⟩,k⟩
end
theorem ZBW {n:Nat} (h:n <= 1000):n < sizeLine:=Nat.lt_of_le_of_lt h (by decide)
section
variable {X:Cx}
theorem pv (i:Nat) {x:Str} {pos:Pos} (hN:X.N[i]?=some x:=by rfl) (hv:Vis X.env.scope x:=by first | exact Or.inl rfl | exact Or.inr (Or.inl rfl) | exact Or.inr (Or.inr rfl)) (hd:(x == ("__debug__":Str))=false:=by decide)
  (hcd:(x == ("__classdict__":Str))=false:=by decide):PE X (.Name x pos) (tVar i):=pe_var hN hv hd hcd
end
def Same (H H':Hp):Prop:=∀ b o,H b=some o->H' b=some o
theorem Same.refl (H:Hp):Same H H:=fun _ _ h=>h
theorem Same.trans {H H1 H2:Hp} (a:Same H H1) (b:Same H1 H2):Same H H2:=fun c o h=>b c o (a c o h)
theorem Same.free {H H':Hp} (e:Same H H') {l:Addr} (h:H' l=Option.none):H l=Option.none:=by
 cases q:H l with
 | none=>rfl
 | some o=>
  rw [e l o q] at h
  cases h
theorem Same.seq {K:W.Frag} {H H':Hp} {a:Addr} {xs:List V} (e:Same H H') (h:SqL K H a xs):SqL K H' a xs:=by
 rcases h with (h | ⟨o,h⟩) | h
 .exact .inl (.inl (e _ _ h))
 .exact .inl (.inr ⟨o,e _ _ h⟩)
 .exact .inr h
end L2
set_option maxHeartbeats 4000000
namespace L2
open PySem PySem.Spec PyProof.Rows
theorem natlt {a b:Addr} (h:a < b):@LT.lt Nat _ a b:=h
theorem ZCa {a b:Addr} {n:Nat} (h:a < n) (k:n <= b):a≠b:=yAM (yAP h k)
theorem ZA4:∀ (names:List (Str×NameKind)) (n:Nat) (acc:List (Str×Addr)),cellsFrom n names acc=cellsFrom n names []++acc
 | [],_,_=>rfl
 | (x,k)::r,n,acc=>by
  unfold cellsFrom
  split
  .rw [ZA4 r (n+1) ((x,n)::acc),ZA4 r (n+1) [(x,n)],yAL];rfl
  .exact ZA4 r n acc
theorem ZBg:∀ (names:List (Str×NameKind)) (n:Nat) (acc:List (Str×Addr)) (y:Str) (c:Addr),(y,c)∈cellsFrom n names acc->(y,c)∈acc∨((y,NameKind.cell)∈names /\ n <= c)
 | [],_,_,_,_,h=>.inl h
 | (x,k)::r,n,acc,y,c,h=>by
  unfold cellsFrom at h
  split at h
  .rename_i hk
   have hk':k=.cell:=by simpa using hk
   rcases ZBg r (n+1) _ y c h with h | ⟨h,l⟩
   .rcases yAF.mp h with e | h
    .cases e;subst hk';exact .inr ⟨yAE,yAA _⟩
    .exact .inl h
   .exact .inr ⟨yAC _ h,Nat.le_of_succ_le l⟩
  .rcases ZBg r n _ y c h with h | ⟨h,l⟩
   .exact .inl h
   .exact .inr ⟨yAC _ h,l⟩
def closFrom (cells:List (Str×Addr)):List (Str×NameKind)->List (Str×Addr)->List (Str×Addr)
 | [],acc=>acc
 | (x,k)::r,acc=>if k == .free then closFrom cells r ((x,(cells.lookup x).getD 0)::acc) else closFrom cells r acc
theorem ZBR {cells:List (Str×Addr)}:∀ (names:List (Str×NameKind)) (acc:List (Str×Addr)) (y:Str) (c:Addr),(y,c)∈closFrom cells names acc->(y,c)∈acc∨((y,NameKind.free)∈names /\ c=(cells.lookup y).getD 0)
 | [],_,_,_,h=>.inl h
 | (x,k)::r,acc,y,c,h=>by
  unfold closFrom at h
  split at h
  .rename_i hk
   have hk':k=.free:=by simpa using hk
   rcases ZBR r _ y c h with h | ⟨h,l⟩
   .rcases yAF.mp h with e | h
    .cases e;subst hk';exact .inr ⟨yAE,rfl⟩
    .exact .inl h
   .exact .inr ⟨yAC _ h,l⟩
  .rcases ZBR r _ y c h with h | ⟨h,l⟩
   .exact .inl h
   .exact .inr ⟨yAC _ h,l⟩
theorem ZBl {cells:List (Str×Addr)}:∀ (names:List (Str×NameKind)) (acc:List (Str×Addr)) (p:Str×Addr),p∈acc->p∈closFrom cells names acc
 | [],_,_,h=>h
 | (x,k)::r,acc,p,h=>by
  unfold closFrom
  split
  .exact ZBl r _ p (yAC _ h)
  .exact ZBl r _ p h
theorem ZBS {cells:List (Str×Addr)}:∀ (names:List (Str×NameKind)) (acc:List (Str×Addr)) (y:Str),(y,NameKind.free)∈names->(y,(cells.lookup y).getD 0)∈closFrom cells names acc
 | [],_,_,h=>nomatch h
 | (x,k)::r,acc,y,h=>by
  unfold closFrom
  rcases yAF.mp h with e | h
  .cases e
   rw [if_pos (by rfl)]
   exact ZBl r _ _ yAE
  .split
   .exact ZBS r _ y h
   .exact ZBS r _ y h
theorem ZBK {α:Type}:∀ {l:List (Str×α)} {y:Str} {c:α},(y,c)∈l->∃ c',l.lookup y=some c'
 | (k,v)::r,y,c,h=>by
  rw [yBL]
  cases hb:y == k with
  | true=>exact ⟨v,rfl⟩
  | false=>
   rcases yAF.mp h with e | h
   .cases e;rw [beq_self_eq_true] at hb;cases hb
   .exact ZBK h
theorem ZBf {env:Env} (f:Str×NameKind->List (Str×Addr)->Sem (ForInStep (List (Str×Addr))))
  (hf:∀ name kind cs,f (name,kind) cs=if kind == .free then (do let a <- cellOf env name;pure (.yield ((name,a)::cs))) else pure (.yield cs)) :
  ∀ (names:List (Str×NameKind)) (acc:List (Str×Addr)),(∀ x,(x,NameKind.free)∈names->∃ c,env.cells.lookup x=some c)->forIn names acc f=(pure (closFrom env.cells names acc):Sem (List (Str×Addr)))
 | [],acc,_=>by rw [List.forIn_nil];rfl
 | (x,k)::r,acc,h=>by
  have hr:∀ x,(x,NameKind.free)∈r->∃ c,env.cells.lookup x=some c:=fun y hy=>h y (yAC _ hy)
  rw [List.forIn_cons,hf]
  unfold closFrom
  split
  .rename_i hk
   have hk':k=.free:=by simpa using hk
   subst hk'
   obtain ⟨c,hc⟩:=h x yAE
   have e:cellOf env x=(pure c:Sem Addr):=by unfold cellOf;rw [hc]
   rw [e,hc]
   exact ZBf f hf r ((x,c)::acc) hr
  .exact ZBf f hf r acc hr
theorem closureFor_eq {scope:Scope} {env:Env} (h:∀ x,(x,NameKind.free)∈scope.names->∃ c,env.cells.lookup x=some c):closureFor scope env=pure (closFrom env.cells scope.names []):=by
 simp only [closureFor]
 rw [ZBf _ (fun name kind cs=>by cases hk:kind == NameKind.free <;> simp [hk]) scope.names [] h]
 rfl
section
variable {M:Model} {A:Around} {E:Value->Shared->Prop} {s:Shared}
theorem newEnv_comp {scope:Scope} {globals:Addr} {cl:List (Str×Addr)} {qual:Str} {env:Env} {Q:Env->Shared->Prop}
  (hQ:Q { scope:=scope,locals:=s.heap.objs.size,globals:=globals,cells:=cellsFrom (s.heap.objs.size+1) scope.names cl,qual:=qual,func:=none,code:=env.code,frame:=env.frame,builtins:=env.builtins }
   { s with heap:=pushCells (s.heap.push { cls:=.type "dict",data:=.dict #[] }) scope.names }) :
  wpAny M A (newFunctionEnv scope globals cl [] qual none .none (some env)) Q E s:=by
 simp only [newFunctionEnv,Option.isSome_some,if_true]
 refine wpAny_bind (wpAny_alloc ?_)
 refine wpAny_bind (wpAny_layCells _ (fun name kind cells=>by cases hkc:kind == NameKind.cell <;> simp [hkc]) _ _ _ _ ?_)
 rw [show ({ s with heap:=s.heap.push { cls:=.type "dict",data:=.dict #[] } }:Shared).heap.objs.size=s.heap.objs.size+1 from Heap.size_push ..]
 rw [List.forIn_nil]
 exact wpAny_bind (wpAny_pure (wpAny_pure hQ))
end
theorem relabel_lookup {scope:Scope} {env:Env} (x:Str):(relabel scope env).names.lookup x=(scope.names.lookup x).map fun k=>if (k == .free && env.scope.kind == .function && env.kindOf x == some .cell)=true then NameKind.cell else k:=by
 unfold relabel
 dsimp only
 generalize scope.names=names
 induction names with
 | nil=>rfl
 | cons p r ih=>
  obtain ⟨n,k⟩:=p
  rw [yAX,yBL (as:=r)]
  cases hx:x == n with
  | true=>
   have e:x=n:=beq_iff_eq.mp hx
   subst e
   by_cases hc:(k == NameKind.free && env.scope.kind == .function && env.kindOf x == some .cell)=true
   .simp only [hc,if_true,yBL,hx,Option.map_some]
   .simp only [hc,Bool.false_eq_true,if_false,yBL,hx,Option.map_some]
  | false=>
   by_cases hc:(k == NameKind.free && env.scope.kind == .function && env.kindOf n == some .cell)=true
   .simp only [hc,if_true,yBL,hx];exact ih
   .simp only [hc,Bool.false_eq_true,if_false,yBL,hx];exact ih
def ZCz (N:List Str) (osc:Scope) (k:Nat) (js:List Nat) (N':List Str) (sc:Scope):Bool :=
 decide (sc.kind=.function) && decide (N'.length=k+js.length) && decide N'.Nodup &&
 sc.names.all (fun p=>decide (sc.names.lookup p.1=some p.2) && (decide (p.2≠.free) || decide (osc.names.lookup p.1=some .cell) || decide (osc.names.lookup p.1=some .free))) &&
 (List.range js.length).all (fun i=>decide (js[i]?.bind (fun j=>N[j]?)=N'[k+i]?) && decide ((N'[k+i]?).bind (fun y=>sc.names.lookup y)=some .free))
structure CmpOk (N:List Str) (osc:Scope) (k:Nat) (js:List Nat) (N':List Str) (sc:Scope):Prop where
 kind:sc.kind=.function
 len:N'.length=k+js.length
 nd:N'.Nodup
 look:∀ p∈sc.names,sc.names.lookup p.1=some p.2
 fr:∀ y,(y,NameKind.free)∈sc.names->osc.names.lookup y=some .cell∨osc.names.lookup y=some .free
 js:∀ i j,js[i]?=some j->∃ y,N'[k+i]?=some y /\ N[j]?=some y /\ sc.names.lookup y=some .free
theorem cmpOk {N:List Str} {osc:Scope} {k:Nat} {js:List Nat} {N':List Str} {sc:Scope} (h:ZCz N osc k js N' sc=true):CmpOk N osc k js N' sc:=by
 unfold ZCz at h
 simp only [Bool.and_eq_true,decide_eq_true_eq,List.all_eq_true,Bool.or_eq_true,List.mem_range] at h
 obtain ⟨⟨⟨⟨h1,h2⟩,h3⟩,h4⟩,h5⟩:=h
 refine ⟨h1,h2,h3,fun p hp=>(h4 p hp).1,fun y hy=>?_,fun i j hj=>?_⟩
 .rcases (h4 _ hy).2 with (z | z) | z
  .exact absurd rfl z
  .exact .inl z
  .exact .inr z
 .have hi:i < js.length:=(yAJ.mp hj).1
  obtain ⟨a,b⟩:=h5 i hi
  rw [hj] at a
  cases e:N'[k+i]? with
  | none=>rw [e] at b;cases b
  | some y=>
   rw [e] at a b
   exact ⟨y,rfl,a,b⟩
def ZCy (scope:Scope) (cl:List (Str×Addr)) (C:Addr) (env:Env):Env :=
 { scope:=relabel scope env,locals:=C,globals:=env.globals,cells:=cellsFrom (C+1) scope.names cl,qual:=env.qual,func:=none,code:=env.code,frame:=env.frame,builtins:=env.builtins }
def ZBv (X:Cx) (N':List Str) (scope:Scope) (C:Addr) (fp:List Addr) (s2:Shared) (H2:Hp):Cx where
 prog:=X.prog
 w:=X.w
 K:=X.K
 mg:=X.mg
 base:=X.base
 A:=X.A
 N:=N'
 s₀:=s2
 H₀:=H2
 env:=ZCy scope (closFrom X.env.cells scope.names []) C X.env
 outer:=X.stack
 stack:=X.stack
 ex:=fp
 fn:=fun x=>decide (scope.names.lookup x=some .cell)
 calm:=X.calm
 pn:=[]
 xe:=fun _ _=>False
def up (k:Nat) (js:List Nat) (σ:St):St:=List.replicate k none++js.map fun j=>(σ[j]?).getD none
section
variable {X:Cx} {pins:List (Addr×Obj)} {σ:St} {H:Hp} {s2:Shared} {k:Nat} {js:List Nat} {N':List Str} {scope:Scope} {fp:List Addr}
theorem comp_inv (hc:CmpOk X.N X.env.scope k js N' scope) (I:Inv X pins σ H s2) (hfp:∀ b∈fp,FpOk X pins H b) (hlt:∀ b∈fp,b < s2.heap.objs.size) {h3:Heap} (hz:h3.objs.size=s2.heap.objs.size+1) (hk3:∀ b o,s2.heap.get? b=some o->h3.get? b=some o) :
  Inv (ZBv X N' scope (s2.heap.objs.size+1) fp s2 H) [] (up k js σ) H { s2 with heap:=pushCells (h3.push { cls:=.type "dict",data:=.dict #[] }) scope.names }:=by
 have frLook:∀ y,(y,NameKind.free)∈scope.names->∃ c,X.env.cells.lookup y=some c:=fun y hy=>I.ok.has y (hc.fr y hy)
 have ok0:=cellsFrom_ok scope.names (h3.push { cls:=.type "dict",data:=.dict #[] }) (s2.heap.objs.size+2) [] ⟨fun _ _ hm=>(nomatch hm),List.Pairwise.nil⟩ (by rw [Heap.size_push,hz];exact yAA _)
 rw [Heap.size_push,hz] at ok0
 have parts:∀ y c,(ZCy scope (closFrom X.env.cells scope.names []) (s2.heap.objs.size+1) X.env).cells.lookup y=some c ->
   ((y,c)∈cellsFrom (s2.heap.objs.size+2) scope.names [] /\ (y,NameKind.cell)∈scope.names /\ s2.heap.objs.size+2 <= c)∨((y,NameKind.free)∈scope.names /\ X.env.cells.lookup y=some c):=fun y c e=>by
  have m:=PySem.mem_of_lookup e
  change (y,c)∈cellsFrom (s2.heap.objs.size+1+1) scope.names _ at m
  rw [ZA4] at m
  rcases yBC.mp m with m | m
  .rcases ZBg _ _ _ _ _ m with z | ⟨z,l⟩
   .cases z
   .exact .inl ⟨m,z,l⟩
  .rcases ZBR _ _ _ _ m with z | ⟨z,l⟩
   .cases z
   .obtain ⟨c',e'⟩:=frLook y z
    rw [e'] at l
    exact .inr ⟨z,by rw [e'];exact congrArg some l.symm⟩
 have old:∀ y c,X.env.cells.lookup y=some c->c < s2.heap.objs.size:=fun y c e=>by
  obtain ⟨v,q⟩:=I.cell y c e
  exact q.lt
 have freeAt:∀ y,(y,NameKind.free)∈scope.names->∀ c,X.env.cells.lookup y=some c->(ZCy scope (closFrom X.env.cells scope.names []) (s2.heap.objs.size+1) X.env).cells.lookup y=some c:=fun y hy c e=>by
  have m:(y,c)∈cellsFrom (s2.heap.objs.size+1+1) scope.names (closFrom X.env.cells scope.names []):=by
   rw [ZA4]
   have q:=ZBS (cells:=X.env.cells) scope.names [] y hy
   rw [e] at q
   exact yAV _ q
  obtain ⟨c',q⟩:=ZBK m
  rcases parts y c' q with ⟨_,z,_⟩ | ⟨_,z⟩
  .have z1:=hc.look _ z
   have z2:=hc.look _ hy
   rw [z1] at z2
   cases z2
  .rw [e] at z
   cases z
   exact q
 have keepAll:∀ b o,s2.heap.get? b=some o->(pushCells (h3.push { cls:=.type "dict",data:=.dict #[] }) scope.names).get? b=some o:=fun b o e=>pushCells_keeps _ _ b o (Heap.get?_push_of_some _ (hk3 b o e))
 refine ⟨⟨I.ok.mod,hc.kind,I.ok.glob,I.ok.blt,yAZ _,fun y z c h1 h2=>?_,fun y hy=>?_,fun y c h1 h2=>?_,I.ok.hd,I.ok.frames,.inl rfl,fun b hb=>⟨?_,fun y c e=>?_⟩,I.bs,yAI I.ok.bsz I.sz,fun b o e hb=>?_,fun b hb hs=>?_,I.stack,I.stkFree⟩,
  rfl,I.bare,Un.kept keepAll,⟨fun _=>none,?_,fun i y v e1 e2 e3=>?_⟩,fun y c e=>?_,I.hok.fresh (yAZ _),fun y c e=>?_,fun p hp=>absurd (show p∈([]:List (Addr×Obj)) from hp) (by simp),I.hok.kept keepAll,?_⟩
 .
  rcases parts y c h1 with ⟨a,_,l⟩ | ⟨_,a⟩ <;> rcases parts z c h2 with ⟨b,_,l'⟩ | ⟨_,b⟩
  .exact name_of_addr ok0.apart a b
  .have:=natlt (old z c b);omega
  .have:=natlt (old y c a);omega
  .exact I.ok.inj y z c a b
 .
  have hy':(relabel scope X.env).names.lookup y=some .cell∨(relabel scope X.env).names.lookup y=some .free:=hy
  rw [relabel_lookup] at hy'
  have q:scope.names.lookup y=some .cell∨scope.names.lookup y=some .free:=by
   cases e:scope.names.lookup y with
   | none=>rw [e] at hy';rcases hy' with z | z <;> cases z
   | some kk=>
    rw [e] at hy'
    cases kk <;> first | exact .inl rfl | exact .inr rfl | (rcases hy' with z | z <;> simp at z)
  rcases q with q | q
  .obtain ⟨c,e⟩:=ZCN (n:=s2.heap.objs.size+1+1) q
   have m:(y,c)∈cellsFrom (s2.heap.objs.size+1+1) scope.names (closFrom X.env.cells scope.names []):=by
    rw [ZA4]
    exact yBK _ (PySem.mem_of_lookup e)
   exact ZBK m
  .have m:=PySem.mem_of_lookup q
   obtain ⟨c,e⟩:=frLook y m
   exact ⟨c,freeAt y m c e⟩
 .
  have h1':scope.names.lookup y=some .cell:=of_decide_eq_true h1
  rcases parts y c h2 with ⟨_,_,l⟩ | ⟨z,_⟩
  .show s2.heap.objs.size <= c
   omega
  .have:=hc.look _ z
   rw [h1'] at this
   cases this
 .
  exact ZCa (hlt b hb) (yAZ _)
 .rcases parts y c e with ⟨_,_,l⟩ | ⟨_,z⟩
  .exact (ZCa (hlt b hb) (yAI (Nat.le_add_right _ 2) l)).symm
  .exact (hfp b hb).2.2.2.2.1 y c z
 .
  rcases (hfp b hb).2.2.2.1 with z | z
  .exact I.ok.noex b o e z
  .exact absurd (yAP (Heap.lt_size e) (yAI I.ok.bsz z)) (yBO _)
 .
  rcases yAF.mp (I.stkSub b hs) with z | z
  .exact (hfp b hb).2.1 z
  .exact (hfp b hb).2.2.1 z
 .
  have q:=(Heap.Ns.new h3 (.type "dict")).keeps (pushCells_keeps scope.names _)
  rw [hz] at q
  exact q
 .
  unfold up at e2
  have hik:k <= i:=by
   by_cases hi:i < k
   .rw [yAU (by simpa using hi),List.getElem?_replicate] at e2
    rw [if_pos hi] at e2
    cases e2
   .omega
  rw [yBD (by simpa using hik),yBQ,yAQ] at e2
  cases ej:js[i-k]? with
  | none=>rw [ej] at e2;cases e2
  | some j=>
   rw [ej] at e2
   have e2':(σ[j]?).getD none=some v:=Option.some.inj e2
   have e4:σ[j]?=some (some v):=by
    cases q:σ[j]? with
    | none=>rw [q] at e2';cases e2'
    | some z=>rw [q] at e2';exact congrArg some e2'
   obtain ⟨y',n1,n2,n3⟩:=hc.js _ _ ej
   rw [Nat.add_sub_cancel' hik] at n1
   have n0:N'[i]?=some y:=e1
   rw [n1] at n0
   cases n0
   have hm:=PySem.mem_of_lookup n3
   have hvis:Vis X.env.scope y:=.inr (hc.fr y hm)
   obtain ⟨m,hn,hl⟩:=I.loc
   obtain ⟨u,r,l⟩:=hl j y v n2 e4 hvis
   refine ⟨u,r,?_⟩
   rcases l with ⟨kk,_⟩ | ⟨kk,c,ec,ic⟩
   .have kk':X.env.scope.names.lookup y=some .local:=kk
    rcases hc.fr y hm with z | z <;> (rw [kk'] at z;cases z)
   .refine .inr ⟨?_,c,freeAt y hm c ec,ic.keeps keepAll⟩
    show (relabel scope X.env).names.lookup y=some .cell∨(relabel scope X.env).names.lookup y=some .free
    rw [relabel_lookup,n3]
    simp only [Option.map_some]
    split
    .exact .inl rfl
    .exact .inr rfl
 .
  rcases parts y c e with ⟨a,_,_⟩ | ⟨_,a⟩
  .exact ⟨none,(ok0.empty y c a).1⟩
  .obtain ⟨v,q⟩:=I.cell y c a
   exact ⟨v,q.keeps keepAll⟩
 .rcases parts y c e with ⟨_,_,l⟩ | ⟨_,a⟩
  .exact I.hok.fresh (by omega)
  .exact I.freeC y c a
 .unfold up
  show _=N'.length
  rw [yAB,yBQ,yAD,hc.len]
theorem comp_end {σ':St} {H':Hp} {s':Shared} {C D:Addr} {its:List Value} {n:Nat} {ys:List V} (I:Inv X pins σ H s2) (hfp:∀ b∈fp,FpOk X pins H b) (hC:s2.heap.objs.size <= C) (hD:s2.heap.objs.size <= D) (hDC:D≠C)
  (I':Inv (ZBv X N' scope C fp s2 H) [(D,{ cls:=.type "list",data:=.seq its.toArray n })] σ' H' s') (hv:Vals ys its) (hz:ys.length <= sizeLine) :
  H' D=none /\ ∀ h',Heap.SameBut C s'.heap h'->Inv X pins σ (upd H' D (.lst ys)) { s' with heap:=h' }:=by
 obtain ⟨eD,nD,_,_,_⟩:=I'.pin (D,{ cls:=.type "list",data:=.seq its.toArray n }) (yAV _ yAE)
 dsimp only at eD nD
 have nC:H' C=none:=I'.free
 refine ⟨nD,fun h' hs=>?_⟩
 have neC:∀ b o,s2.heap.get? b=some o->b≠C:=fun b o e=>ZCa (Heap.lt_size e) hC
 have neD:∀ b o,s2.heap.get? b=some o->b≠D:=fun b o e=>ZCa (Heap.lt_size e) hD
 have tr:∀ b u,H' b=some u->b≠D:=fun b u e z=>by rw [z,nD] at e;cases e
 have trC:∀ b u,H' b=some u->b≠C:=fun b u e z=>by rw [z,nC] at e;cases e
 have B:=I'.base
 refine I.call' (s':={ s' with heap:=h' }) (ch:=fp) I'.os ⟨fun b o e nn hb hx=>?_,fun b o e nn hb hx=>?_,fun b o e nn hx=>?_,fun b o e hx=>?_,fun b xs e=>?_,fun b o u e=>?_,fun b ps e=>?_⟩ (fun b u e=>?_) I'.bare fun b hb=>?_
 .exact (hs.2 b (neC b o e)).trans (B.keep b o e nn hb hx)
 .obtain ⟨sl,q⟩:=B.slot b o e nn hb hx
  exact ⟨sl,(hs.2 b (neC b o e)).trans q⟩
 .rw [ZAF (neD b o e)]
  exact B.free b o e nn hx
 .obtain ⟨o',q⟩:=B.there b o e hx
  exact ⟨o',(hs.2 b (neC b o e)).trans q⟩
 .have q:=B.tups b xs e
  rw [ZAF (tr b _ q)]
  exact q
 .have q:=B.frzs b o u e
  rw [ZAF (tr b _ q)]
  exact q
 .obtain ⟨more,q⟩:=B.tbls b ps e
  exact ⟨more,by rw [ZAF (tr b _ q)];exact q⟩
 .by_cases hb:b=D
  .subst hb
   rw [ZAH] at e
   cases e
   exact ⟨hz,its,n,hv,(hs.2 b hDC).trans eD⟩
  .rw [ZAF hb] at e
   refine (I'.hok b u e).stay (fun c v hcc q=>(hs.2 c ?_).trans q) (fun c q=>by rw [ZAF (tr c _ q)];exact q) fun c xs q=>by rw [ZAF (tr c _ q)];exact q
   rcases hcc with rfl | hcc
   .exact trC c _ e
   .exact trC c _ hcc
 .obtain ⟨_,f1,_,f3,f4,f5⟩:=hfp b hb
  exact ⟨f3,f1,f4,f5⟩
end
section
variable {prog:Program} {w:World} {A:Around} {R:Result->Shared->Prop} {s:Shared}
theorem codeAny_compLoop_any {elt target iter:Expr} {ifs:List Expr} {scope:Scope} {pos:Pos} {it acc:Value} {env:Env} (I:Nat->Shared->Prop)
  (turn:∀ n s,I n s->wpAny (model prog w) A (pyNext it) (fun r s₁=>match r with
   | none=>R (.ok .next) s₁
   | some v=>wpAny (model prog w) A (letOwnedTupleGo target it v) (fun _ s₁'=>wpAny (model prog w) A (assign target env v) (fun _ s₂=>
     wpAny (model prog w) A (forIn ifs true fun c r=>if r=true then do let ok <- isTrue c env (eval c env);pure (ForInStep.yield ok) else pure (ForInStep.yield r)) (fun ok s₃=>
      if ok=true then wpAny (model prog w) A (eval elt env) (fun x s₄=>
       wpAny (model prog w) A (call (.builtin "list.append") [acc,x]) (fun _ s₅=>∃ m,m < n /\ I m s₅) (notedBy (model prog w) A env fun e s'=>R (.error e) s') s₄) (notedBy (model prog w) A env fun e s'=>R (.error e) s') s₃
      else ∃ m,m < n /\ I m s₃) (notedBy (model prog w) A env fun e s'=>R (.error e) s') s₂) (notedBy (model prog w) A env fun e s'=>R (.error e) s') s₁') (notedBy (model prog w) A env fun e s'=>R (.error e) s') s₁) (notedBy (model prog w) A env fun e s'=>R (.error e) s') s)
  (n:Nat) (h:I n s) :
  codeAny (model prog w) A (.compLoop (.ListComp elt [⟨target,iter,ifs,0⟩] scope pos) 0 it acc env) R s:=by
 refine codeAny_loop rfl I (fun n s hI=>?_) n h
 show wpAny _ A ((compTurn (.ListComp elt [⟨target,iter,ifs,0⟩] scope pos) 0 it acc env).onRaise (fun x=>do noteFrame x env;theTreesLotGoes x)) _ _ s
 refine wpAny_noted ?_
 rw [compTurn_list]
 refine wpAny_bind (wpAny_standAt (wpAny_bind (wpAny_mono (turn n s hI) (fun r s₁ h₁=>?_) fun _ _ h'=>h')))
 cases r with
 | none=>exact wpAny_pure h₁
 | some v=>
  refine wpAny_bind (wpAny_mono h₁ (fun _ s₁' h₁'=>?_) fun _ _ h'=>h')
  refine wpAny_bind (wpAny_mono h₁' (fun _ s₂ h₂=>wpAny_bind (wpAny_mono h₂ (fun ok s₃ h₃=>?_) fun _ _ h'=>h')) fun _ _ h'=>h')
  cases ok with
  | false=>exact wpAny_pure ⟨rfl,h₃⟩
  | true=>exact wpAny_bind (wpAny_bind (wpAny_mono h₃ (fun x s₄ h₄=>wpAny_bind (wpAny_mono h₄ (fun _ s₅ h₅=>wpAny_pure (wpAny_pure ⟨rfl,h₅⟩)) fun _ _ h'=>h')) fun _ _ h'=>h'))
end
def PIfs (X:Cx) (ifs:List Expr) (t:TT):Prop :=
 ∀ (pins:List (Addr×Obj)) (s:Shared) (σ:St) (H:Hp) (Q:Bool->Hp->Prop),Inv X pins σ H s->t σ H Q ->
  wpAny (model X.prog X.w) X.A (forIn ifs true fun c r=>if r=true then do let ok <- isTrue c X.env (eval c X.env);pure (ForInStep.yield ok) else pure (ForInStep.yield r)) (TP X pins σ Q) X.xe s
def tYes:TT:=fun _ H Q=>Q true H
theorem pifs_nil {X:Cx}:PIfs X [] tYes:=fun _ _ _ H _ I h=>wpAny_tests_nil ⟨H,I,h⟩
theorem pifs_one {X:Cx} {c:Expr} {t:TT} (hc:PT X c t):PIfs X [c] t:=fun pins s σ H Q I h=>wpAny_tests_one (hc pins s σ H Q I h)
def ZC4 (k:Nat) (js:List Nat) (wi:TI) (g:TG) (tt:TT) (te:TE):TE:=fun σ H Q=>wi σ H fun J H1=>∃ W:Nat->Nat->List V->St->Hp->Prop,(∃ m,W 0 m [] (up k js σ) H1) /\ ∀ i m ys σ H,W i m ys σ H ->
 (J.stop i H /\ ys.length <= sizeLine /\ ∀ p,H p=none->Q (.ref p) (upd H p (.lst ys))) ∨
 (J.go i H /\ ys.length < sizeLine /\ ∀ x H',J.yld i H x H'->g x σ H' fun σ2 H2=>tt σ2 H2 fun b H3=>if b=true then te σ2 H3 fun y H4=>∃ m',m' < m /\ W (i+1) m' (ys++[y]) σ2 H4 else ∃ m',m' < m /\ W (i+1) m' ys σ2 H3)
section
variable {X:Cx} {k:Nat} {js:List Nat} {N':List Str} {scope:Scope} {tg iter elt:Expr} {ifs:List Expr} {wi:TI} {g:TG} {tt:TT} {te:TE} {pos:Pos}
theorem comp_core {use:Option (Value->Sem Unit)} {Q':Value->Shared->Prop} (hcalm:X.calm=true) (hc:CmpOk X.N X.env.scope k js N' scope) (hi:PI X tg iter wi)
  (hg:∀ C fp s2 H2,PG (ZBv X N' scope C fp s2 H2) tg g) (ht:∀ C fp s2 H2,PIfs (ZBv X N' scope C fp s2 H2) ifs tt) (he:∀ C fp s2 H2,PE (ZBv X N' scope C fp s2 H2) elt te)
  {pins:List (Addr×Obj)} {s:Shared} {σ:St} {H:Hp} {Q:VK} (I:Inv X pins σ H s) (h:ZC4 k js wi g tt te σ H Q)
  (fin:∀ (C D:Addr) (s':Shared) (m:Str->Option Value) (H':Hp) (ys:List V),s'.heap.Ns C m->C≠X.env.locals->C∉X.fs->D≠C->H' C=none->X.s₀.heap.objs.size <= C->(∀ x c,X.env.cells.lookup x=some c->c≠C)->(∀ p∈X.pn++pins,p.1≠C)->(∀ h',Heap.SameBut C s'.heap h'->Inv X pins σ (upd H' D (.lst ys)) { s' with heap:=h' })->Q (.ref D) (upd H' D (.lst ys)) ->
   compPost (model X.prog X.w) X.A X.xe use Q' (.ref D) C (.ok .next) s')
  (hs:∀ x,foldedSetIterable iter X.env x=pure x) (p':Pos) :
  wpAny (model X.prog X.w) X.A (comprehension (.ListComp elt [⟨tg,iter,ifs,0⟩] scope pos) scope X.env p' (newList []) false (eval iter X.env) use) Q' X.xe s:=by
 have hclos:closureFor scope X.env=pure (closFrom X.env.cells scope.names []):=closureFor_eq fun y hy=>I.ok.has y (hc.fr y hy)
 refine wpAny_comprehension_free (g:=⟨tg,iter,ifs,0⟩) (gs:=[]) rfl hs hclos hc.kind (fun x hx hl=>by rw [hc.look x hx,hl]) ?_
 refine thn (hi pins s σ H _ I h) fun v s1 h1=>thn h1 fun itv s2 h2=>?_
 obtain ⟨it,fp,tn,J,H2,e,I2,T,st2,f2,W,⟨m0,w0⟩,turn⟩:=h2
 subst e
 have hlt:∀ b∈fp,b < s2.heap.objs.size:=fun b hb=>by
  obtain ⟨o,e,_⟩:=T.obj _ _ st2 b hb
  exact Heap.lt_size e
 refine wpAny_newObj_type (newEnv_comp ?_)
 have hz3:(s2.heap.push { cls:=.type "list",dict:=none,data:=.seq ([]:List Value).toArray }).objs.size=s2.heap.objs.size+1:=Heap.size_push ..
 have I3:=comp_inv (h3:=s2.heap.push { cls:=.type "list",dict:=none,data:=.seq ([]:List Value).toArray }) hc I2 f2 hlt hz3 (fun b o e=>Heap.get?_push_of_some _ e)
 dsimp only
 rw [hz3]
 generalize hS4:({ s2 with heap:=pushCells ((s2.heap.push { cls:=.type "list",dict:=none,data:=.seq ([]:List Value).toArray }).push { cls:=.type "dict",data:=.dict #[] }) scope.names }:Shared)=s4 at I3 ⊢
 have keep4:∀ b o,s2.heap.get? b=some o->s4.heap.get? b=some o:=fun b o e=>by
  rw [<- hS4]
  exact pushCells_keeps _ _ b o (Heap.get?_push_of_some _ (Heap.get?_push_of_some _ e))
 have eD4:s4.heap.get? s2.heap.objs.size=some { cls:=.type "list",data:=.seq ([]:List Value).toArray 0 }:=by
  rw [<- hS4]
  exact pushCells_keeps _ _ _ _ (Heap.get?_push_of_some _ (Heap.get?_push_size _ rfl))
 generalize hX':ZBv X N' scope (s2.heap.objs.size+1) fp s2 H2=X' at I3
 have hC':X'.env.locals=s2.heap.objs.size+1:=by rw [<- hX'];rfl
 have hfs':X'.fs=frs X.stack:=by rw [<- hX'];rfl
 have nofsD:∀ a,s2.heap.objs.size <= a->a∉frs X.stack:=fun a ha hb=>by
  rcases yAF.mp (I2.stkSub a hb) with z | z
  .exact absurd z.symm (ZCa I2.lt ha)
  .exact I2.nofs ha z
 have cellD:∀ x c,X'.env.cells.lookup x=some c->c≠s2.heap.objs.size:=fun x c e z=>by
  obtain ⟨v,o,ho,hd⟩:=I3.cell x c e
  rw [z,eD4] at ho
  cases ho
  cases hd
 have pinD:∀ {σ':St} {H':Hp} {s':Shared} {its:List Value} {n:Nat},Inv X' [] σ' H' s'->s'.heap.get? s2.heap.objs.size=some { cls:=.type "list",data:=.seq its.toArray n }->H' s2.heap.objs.size=none ->
   Inv X' [(s2.heap.objs.size,{ cls:=.type "list",data:=.seq its.toArray n })] σ' H' s':=fun {σ' H' s' its n} J e nn=>J.pins_of fun p hp=>by
  have e':p=(s2.heap.objs.size,{ cls:=.type "list",data:=.seq its.toArray n }):=by simpa using hp
  subst e'
  refine ⟨e,nn,?_,?_,fun v z=>nomatch z⟩
  .rw [hC'];exact yAM (yBP _)
  .rw [hfs'];exact nofsD _ (yAA _)
 have I4:=pinD I3 eD4 (I2.hok.fresh (yAA _))
 have stat:∀ {H':Hp} {o:Obj},(∀ b∈fp,H' b=none)->∀ b∈fp,FpOk X' [(s2.heap.objs.size,o)] H' b:=fun {H' o} hn b hb=>by
  have hb':=hlt b hb
  refine ⟨hn b hb,?_,?_,.inl (by rw [<- hX'];exact hb),fun x c e z=>?_,fun p hp z=>?_⟩
  .rw [hC'];exact ZCa hb' (yAZ _)
  .rw [hfs']
   intro z
   rcases yAF.mp (I2.stkSub b z) with q | q
   .exact (f2 b hb).2.1 q
   .exact (f2 b hb).2.2.1 q
  .have q:=I3.ok.exf b (by rw [<- hX'];exact hb)
   exact q.2 x c e z
  .rw [show X'.pn=[] by rw [<- hX'];rfl] at hp
   have e':p=(s2.heap.objs.size,o):=by simpa using hp
   subst e'
   exact absurd hb' (by rw [<- z];exact yBO _)
 have hfin:∀ {σ':St} {H':Hp} {s':Shared} {its:List Value} {n:Nat} {ys:List V},Inv X' [(s2.heap.objs.size,{ cls:=.type "list",data:=.seq its.toArray n })] σ' H' s'->Vals ys its->ys.length <= sizeLine->(∀ p,H' p=none->Q (.ref p) (upd H' p (.lst ys))) ->
   compPost (model X.prog X.w) X.A X.xe use Q' (.ref s2.heap.objs.size) (s2.heap.objs.size+1) (.ok .next) s':=fun {σ' H' s' its n ys} J hv hz hq=>by
  obtain ⟨m,hn,_⟩:=id J.loc
  rw [hC'] at hn
  have nC:H' (s2.heap.objs.size+1)=none:=by rw [<- hC'];exact J.free
  have J':Inv (ZBv X N' scope (s2.heap.objs.size+1) fp s2 H2) [(s2.heap.objs.size,{ cls:=.type "list",data:=.seq its.toArray n })] σ' H' s':=by rw [hX'];exact J
  obtain ⟨nD,E⟩:=comp_end I2 f2 (yAZ _) (yAA _) (yAM (yBP _)) J' hv hz
  refine fin _ _ s' m H' ys hn ?_ (I2.nofs (yAZ _)) (yAM (yBP _)) nC (yAI I2.sz (yAZ _)) (fun x c e z=>?_) (fun p hp z=>?_) E (hq _ nD)
  .exact (ZCa I2.lt (yAZ _)).symm
  .obtain ⟨v,q⟩:=I2.cell x c e
   exact absurd z (ZCa q.lt (yAZ _))
  .exact absurd z (ZCa (Heap.lt_size (I2.pin p hp).1) (yAZ _))
 have hprog:X'.prog=X.prog:=by rw [<- hX'];rfl
 have hw:X'.w=X.w:=by rw [<- hX'];rfl
 have hK:X'.K=X.K:=by rw [<- hX'];rfl
 have hcalm':X'.calm=true:=by rw [<- hX'];exact hcalm
 have hA:X'.A=X.A:=by rw [<- hX'];rfl
 have henv:ZCy scope (closFrom X.env.cells scope.names []) (s2.heap.objs.size+1) X.env=X'.env:=by rw [<- hX'];rfl
 have hgX:=hg (s2.heap.objs.size+1) fp s2 H2
 have htX:=ht (s2.heap.objs.size+1) fp s2 H2
 have heX:=he (s2.heap.objs.size+1) fp s2 H2
 rw [hX'] at hgX htX heX
 have hxe:∀ e s',X'.xe e s'->False:=fun e s' z=>by rw [<- hX'] at z;exact z
 have hXA:X'.pn=[]:=by rw [<- hX'];rfl
 have hs0:X'.s₀.heap.objs.size=s2.heap.objs.size:=by rw [<- hX'];rfl
 have loop:codeAny (model X.prog X.w) X.A (.compLoop (.ListComp elt [⟨tg,iter,ifs,0⟩] scope pos) 0 (.ref it) (.ref s2.heap.objs.size) X'.env) (compPost (model X.prog X.w) X.A X.xe use Q' (.ref s2.heap.objs.size) (s2.heap.objs.size+1)) s4:=by
  refine codeAny_compLoop_any (fun n s'=>∃ i σ' H' its nn ys,Inv X' [(s2.heap.objs.size,{ cls:=.type "list",data:=.seq its.toArray nn })] σ' H' s' /\ tn i s'.heap /\ (∀ b∈fp,H' b=none) /\ Vals ys its /\ W i n ys σ' H') ?_ m0
   ⟨0,_,H2,[],0,[],I4,T.keep _ _ _ st2 (fun b _ o e=>keep4 b o e),fun b hb=>(f2 b hb).1,.nil,w0⟩
  rintro n s5 ⟨i,σ5,H5,its,nn,ys,I5,st5,fr5,hv,w5⟩
  rcases turn i n ys σ5 H5 w5 with ⟨stop,hz,hq⟩ | ⟨go,hz,step⟩
  .have d:=T.done X' hprog hw hK hcalm' i _ s5 σ5 H5 (fun _ _=>False) I5 (stat fr5) st5 stop
   rw [hA] at d
   refine wpAny_mono d (fun r s6 ⟨hr,I6⟩=>?_) fun _ _ z=>z.elim
   subst hr
   exact hfin I6 hv hz hq
  .have d:=T.item X' hprog hw hK hcalm' i _ s5 σ5 H5 (fun _ _=>False) I5 (stat fr5) st5 go
   rw [hA] at d
   refine wpAny_mono d (fun r s6 ⟨u,hr,h6⟩=>?_) fun _ _ z=>z.elim
   subst hr
   refine wpAny_mono h6 (fun _ s7 ⟨x,H7,I7,r7,y7,st7,fr7⟩=>?_) fun _ _ z=>z.elim
   have I7':=I7.pinned (stat fr7) (T.obj _ _ st7)
   have a1:=hgX _ s7 σ5 H7 x u _ I7' r7 (step x H7 y7)
   rw [hprog,hw,hA] at a1
   refine wpAny_mono a1 (fun _ s8 ⟨σ8,H8,I8,q8⟩=>?_) fun _ _ z=>(hxe _ _ z).elim
   have a2:=htX _ s8 σ8 H8 _ I8 q8
   rw [hprog,hw,hA] at a2
   refine wpAny_mono a2 (fun ok s9 ⟨H9,I9,q9⟩=>?_) fun _ _ z=>(hxe _ _ z).elim
   have back:∀ {σ':St} {H':Hp} {s':Shared},Inv X' ([(s2.heap.objs.size,({ cls:=.type "list",data:=.seq its.toArray nn }:Obj))]++ZC1 fp s7.heap) σ' H' s'->tn (i+1) s'.heap /\ (∀ b∈fp,H' b=none):=fun {σ' H' s'} J=>by
    refine ⟨T.keep _ _ _ st7 fun b hb o e=>(J.pin (b,o) (yAV _ (yAV _ (ZBp hb e)))).1,fun b hb=>?_⟩
    obtain ⟨o,e,d⟩:=T.obj _ _ st7 b hb
    exact (J.pin (b,o) (yAV _ (yAV _ (ZBp hb e)))).2.1
   cases ok with
   | false=>
    rw [if_neg yAW] at q9 ⊢
    obtain ⟨m',hm,w9⟩:=q9
    obtain ⟨t9,f9⟩:=back I9
    exact ⟨m',hm,i+1,σ8,H9,its,nn,ys,I9.unpinned,t9,f9,hv,w9⟩
   | true=>
    rw [if_pos rfl] at q9 ⊢
    have a3:=heX _ s9 σ8 H9 _ I9 q9
    rw [hprog,hw,hA] at a3
    refine wpAny_mono a3 (fun uy s10 ⟨y,H10,I10,r10,m',hm,w10⟩=>?_) fun _ _ z=>(hxe _ _ z).elim
    obtain ⟨t10,f10⟩:=back I10
    have I11:=I10.unpinned
    obtain ⟨eD,nD,_,_,_⟩:=I11.pin (s2.heap.objs.size,{ cls:=.type "list",data:=.seq its.toArray nn }) (yAV _ yAE)
    dsimp only at eD nD
    have hsz:its.length < sizeLine:=by rw [<- hv.length];exact hz
    refine wpAny_list_append_plain ⟨nn,eD⟩ (fun h' hpl hsb=>?_) (by rw [yAK];omega)
    obtain ⟨n',e'⟩:=hpl
    have e'':h'.get? s2.heap.objs.size=some { cls:=.type "list",data:=.seq (its++[uy]).toArray n' }:=by rw [e'];simp
    have I12:Inv X' [] σ8 H10 s10:=I11.pins_of fun p hp=>absurd hp (by simp)
    have I13:=I12.turned (h':=h') (t':=s10.toks) (it:=s2.heap.objs.size) (fun b o hb e=>(hsb.2 b hb).trans e) nD (by rw [hC'];exact yAM (yBP _)) (.inr (by rw [hs0];exact yAA _)) cellD (fun p hp=>absurd hp (by rw [hXA];simp))
    refine ⟨m',hm,i+1,σ8,H10,its++[uy],n',ys++[y],pinD I13 e'' nD,T.keep _ _ _ t10 fun b hb o e=>?_,f10,hv.append (.cons r10 .nil),w10⟩
    exact (hsb.2 b (ZCa (hlt b hb) (yAA _))).trans e
 have hst:codeAny (model X.prog X.w) X.A (.compStart (.ListComp elt [⟨tg,iter,ifs,0⟩] scope pos) 0 (.ref it) (.ref s2.heap.objs.size) X'.env) (compPost (model X.prog X.w) X.A X.xe use Q' (.ref s2.heap.objs.size) (s2.heap.objs.size+1)) s4 :=
  codeAny_compStart_list loop (T.self X.A 0 s4 _ _ (T.keep _ _ _ st2 (fun b _ o e=>keep4 b o e)) loop)
 rw [<- henv] at hst
 exact hst
theorem ZDA (hcalm:X.calm=true) (hc:ZCz X.N X.env.scope k js N' scope=true) (hi:PI X tg iter wi)
  (hg:∀ C fp s2 H2,PG (ZBv X N' scope C fp s2 H2) tg g) (ht:∀ C fp s2 H2,PIfs (ZBv X N' scope C fp s2 H2) ifs tt) (he:∀ C fp s2 H2,PE (ZBv X N' scope C fp s2 H2) elt te)
  (hs:∀ x,foldedSetIterable iter X.env x=pure x:=by intro _;rfl):PE X (.ListComp elt [⟨tg,iter,ifs,0⟩] scope pos) (ZC4 k js wi g tt te):=by
 intro pins s σ H Q I h
 rw [eval_ListComp]
 refine comp_core (use:=none) hcalm (cmpOk hc) hi hg ht he I h (fun C D s' m H' ys hn _ _ _ _ _ _ _ E q=>?_) hs _
 exact ⟨m,hn,fun h' hsb=>⟨.ref D,_,E h' hsb,rfl,q⟩⟩
end
mutual
def Dp (K:W.Frag) (H:Hp):PyData->V->Prop
 | .none,v=>v=.non
 | .bool b,v=>v=.bl b
 | .int i,v=>v=.int i
 | .str x,v=>v=.str x
 | .list ds,v=>∃ a xs,v=.ref a /\ SqL K H a xs /\ DpAll K H ds xs
 | .tuple ds,v=>∃ a xs,v=.ref a /\ SqT K H a xs /\ DpAll K H ds xs
 | .dict _,_=>False
def DpAll (K:W.Frag) (H:Hp):List PyData->List V->Prop
 | [],vs=>vs=[]
 | d::ds,vs=>∃ v r,vs=v::r /\ Dp K H d v /\ DpAll K H ds r
end
theorem DpAll.nil {K:W.Frag} {H:Hp}:DpAll K H [] []:=by unfold DpAll;rfl
theorem DpAll.cons {K:W.Frag} {H:Hp} {d:PyData} {ds:List PyData} {v:V} {vs:List V} (a:Dp K H d v) (t:DpAll K H ds vs):DpAll K H (d::ds) (v::vs):=by unfold DpAll;exact ⟨v,vs,rfl,a,t⟩
theorem DpAll.ints {K:W.Frag} {H:Hp}:∀ (ns:List Int),DpAll K H (ns.map PyData.int) (ns.map V.int)
 | []=>.nil
 | n::r=>.cons (by unfold Dp;rfl) (DpAll.ints r)
theorem dp_lst {K:W.Frag} {H:Hp} {a:Addr} {xs:List V} {ds:List PyData} (h:SqL K H a xs) (t:DpAll K H ds xs):Dp K H (.list ds) (.ref a):=by unfold Dp;exact ⟨a,xs,rfl,h,t⟩
section
variable {X:Cx} {pins:List (Addr×Obj)} {σ:St} {H:Hp} {s:Shared}
mutual
theorem Inv.reads (I:Inv X pins σ H s):∀ {d:PyData} {v:V} {u:Value},Dp X.K H d v->RelV v u->∃ as,Reads s.heap u d as
 | .none,_,_,h,r=>by unfold Dp at h;subst h;cases (show _=Value.none from r);exact ⟨_,.none⟩
 | .bool b,_,_,h,r=>by unfold Dp at h;subst h;cases (show _=Value.bool b from r);exact ⟨_,.bool b⟩
 | .int i,_,_,h,r=>by unfold Dp at h;subst h;obtain ⟨t,q⟩:=(show ∃ t,_=Value.int i t from r);subst q;exact ⟨_,.int i t⟩
 | .str x,_,_,h,r=>by unfold Dp at h;subst h;obtain ⟨t,q⟩:=(show ∃ t,_=Value.str x t from r);subst q;exact ⟨_,.str x t⟩
 | .list ds,_,_,h,r=>by
  unfold Dp at h
  obtain ⟨a,xs,q,sq,t⟩:=h
  subst q
  cases (show _=Value.ref a from r)
  obtain ⟨its,rv,pl,_⟩:=I.list sq
  obtain ⟨as,ra⟩:=Inv.readsAll I t rv
  obtain ⟨o,n,e1,e2,_,e3⟩:=pl
  exact ⟨_,.list e1 e2 e3 (by simpa using ra)⟩
 | .tuple ds,_,_,h,r=>by
  unfold Dp at h
  obtain ⟨a,xs,q,sq,t⟩:=h
  subst q
  cases (show _=Value.ref a from r)
  obtain ⟨its,rv,pl,_⟩:=I.tuple sq
  obtain ⟨as,ra⟩:=Inv.readsAll I t rv
  obtain ⟨o,e1,e2,n,e3⟩:=pl
  exact ⟨_,.tuple e1 e2 e3 (by simpa using ra)⟩
 | .dict _,_,_,h,_=>by unfold Dp at h;exact h.elim
theorem Inv.readsAll (I:Inv X pins σ H s):∀ {ds:List PyData} {vs:List V} {us:List Value},DpAll X.K H ds vs->Vals vs us->∃ as,ReadsAll s.heap us ds as
 | [],_,_,h,r=>by unfold DpAll at h;subst h;cases r;exact ⟨_,.nil⟩
 | _::_,_,_,h,r=>by
  unfold DpAll at h
  obtain ⟨v,q,e,a,t⟩:=h
  subst e
  cases r with
  | cons r1 r2=>
   obtain ⟨as,h1⟩:=Inv.reads I a r1
   obtain ⟨bs,h2⟩:=Inv.readsAll I t r2
   exact ⟨_,.cons h1 h2⟩
end
def rNeD (K:W.Frag):R2:=fun x y H Q=>∃ d e,Dp K H d x /\ Dp K H e y /\ d.canLay0=true /\ e.canLay0=true /\ d.depth <= 64 /\ Q (.bl (!PyData.eqv d e)) H
theorem ZDg (hu:X.A.units+64 < cLine):OpR X (compareOp .NotEq) (rNeD X.K):=by
 intro pins s σ H x y v u Q I rx ry h
 obtain ⟨d,e,h1,h2,c1,c2,dp,q⟩:=h
 obtain ⟨as,ra⟩:=I.reads h1 rx
 obtain ⟨bs,rb⟩:=I.reads h2 ry
 exact SeqAt.compareNe_reads ra rb c1 c2 (by omega) ⟨.bl _,H,I,rfl,q⟩
end
section
variable {X:Cx} {x:Str} {pos:Pos}
theorem ZBH {y:Int} (hg:Gl X x) (h:∃ t,X.mg x=some (.int y t)) (hd:(x == ("__debug__":Str))=false:=by decide):PE X (.Name x pos) (tC (.int y)):=by
 obtain ⟨t,e⟩:=h
 exact pe_glob hg e ⟨t,rfl⟩ hd
end
structure Fn (P:Program) (w:World) (K:W.Frag) (mg:Str->Option Value) (base:Heap) (CX:CXT) (x:Str) (k:Nat) (ps:List Str) (sp:Sp):Prop where
 ex:∃ f fd,FnOk P w K mg base CX k f fd ps sp /\ Binds K fd ps [] /\ W.keepIn K (.ref f)=true /\ mg x=some (.ref f)
structure Mt (P:Program) (w:World) (K:W.Frag) (mg:Str->Option Value) (base:Heap) (CX:CXT) (C:Addr) (m:Str) (k:Nat) (ps:List Str) (sp:Sp):Prop where
 cl:Cls K C
 ex:∃ f fd,FnOk P w K mg base CX k f fd ps sp /\ Binds K fd ps [] /\ Meth K C m f
structure Kl (P:Program) (w:World) (K:W.Frag) (mg:Str->Option Value) (base:Heap) (CX:CXT) (x:Str) (C:Addr) (k:Nat) (ps:List Str) (sp:Sp):Prop where
 mgC:mg x=some (.ref C)
 ex:∃ f fd,FnOk P w K mg base CX k f fd ps sp /\ Binds K fd ps [] /\ Mk K C f
section
variable {X:Cx} {CX:CXT} {k:Nat} {ps:List Str} {sp:Sp} {E:XK} {x m:Str} {C:Addr} {p pos apos:Pos} {e o:Expr} {es:List Expr} {ta:TE} {t:TA}
theorem ZB8 (F:Fn X.prog X.w X.K X.mg X.base CX x k ps sp) (hr:Room k X.A) (hg:Gl X x) (hx:ZBh CX X E) (ha:PA X (e::es) t) (hdb:(x == ("__debug__":Str))=false:=by decide) (he:starEach (e::es) X.env=(false,eval e X.env)::starEach es X.env:=by rfl) (hpl:(backTo pos (starEach es X.env)).any (·.1)=false:=by rfl) :
  PE X (.Call (.Name x p) (e::es) [] pos) (ZDm sp [] E t):=by
 obtain ⟨f,fd,h1,h2,h3,h4⟩:=F.ex
 exact pe_call h1 hr hg h4 h3 h2 .nil hx ha hdb he hpl
theorem ZBI {pl:Sem Bool} (F:Mt X.prog X.w X.K X.mg X.base CX C m k ps sp) (hr:Room k X.A) (hx:ZBh CX X E) (he:PE X o ta) (ha:PA X (e::es) t)
  (hst:starEach (e::es) X.env=(false,eval e X.env)::starEach es X.env:=by rfl) (hpl:(backTo pos (starEach es X.env)).any (·.1)=false:=by rfl)
  (ht:eval (.Call (.Attribute o m apos) (e::es) [] pos) X.env=(do
   let ov <- eval o X.env
   standAt apos.atName
   let (f,first) <- holding [ov] (getMethod ov m pl)
   callWith pos f first (backTo pos (starEach (e::es) X.env)) (backToKw pos (keywordEach [] X.env))):=by rfl) :
  PE X (.Call (.Attribute o m apos) (e::es) [] pos) (ZDT C m sp [] E ta t):=by
 obtain ⟨f,fd,h1,h2,h3⟩:=F.ex
 exact pe_meth he F.cl h3 h1 hr h2 .nil hx ha hst hpl ht
theorem ZBj {pl:Sem Bool} (F:Mt X.prog X.w X.K X.mg X.base CX C m k ps sp) (hr:Room k X.A) (hx:ZBh CX X E) (he:PE X o ta)
  (ht:eval (.Call (.Attribute o m apos) [] [] pos) X.env=(do
   let ov <- eval o X.env
   standAt apos.atName
   let (f,first) <- holding [ov] (getMethod ov m pl)
   callWith pos f first (backTo pos (starEach [] X.env)) (backToKw pos (keywordEach [] X.env))):=by rfl) :
  PE X (.Call (.Attribute o m apos) [] [] pos) (ZDT C m sp [] E ta tNil):=by
 obtain ⟨f,fd,h1,h2,h3⟩:=F.ex
 exact pe_meth0 he F.cl h3 h1 hr h2 .nil hx ht
theorem pe_mk (F:Kl X.prog X.w X.K X.mg X.base CX x C k ps sp) (hr:Room (k+1) X.A) (hg:Gl X x) (hx:ZBh CX X E) (ha:PA X (e::es) t) (hdb:(x == ("__debug__":Str))=false:=by decide) (he:starEach (e::es) X.env=(false,eval e X.env)::starEach es X.env:=by rfl) (hpl:(backTo pos (starEach es X.env)).any (·.1)=false:=by rfl) :
  PE X (.Call (.Name x p) (e::es) [] pos) (ZDa C sp [] E t):=by
 obtain ⟨f,fd,h1,h2,h3⟩:=F.ex
 exact pe_make h3 h1 hr hg F.mgC h2 .nil hx ha hdb he hpl
end
section
variable {X:Cx}
end
theorem ZAf {v:V} {σ:St} {H:Hp} {Q:VK}:tVar 0 (some v::σ) H Q=Q v H:=by
 apply propext;unfold tVar;simp
theorem ZAi {i:Nat} {a:Option V} {σ:St} {H:Hp} {Q:VK}:tVar (i+1) (a::σ) H Q=tVar i σ H Q:=by
 apply propext;unfold tVar;simp
theorem rI0_int {g:Int->Int->V} {i j:Int} {H:Hp} {Q:VK}:rI0 g (.int i) (.int j) H Q=Q (g i j) H:=by
 apply propext;unfold rI0;simp
theorem rI_int {C:Int->Int->Prop} {g:Int->Int->V} {i j:Int} {H:Hp} {Q:VK}:rI C g (.int i) (.int j) H Q=(C i j /\ Q (g i j) H):=by
 apply propext;unfold rI;simp
theorem rU_int {g:Int->V} {i:Int} {H:Hp} {Q:VK}:rU g (.int i) H Q=Q (g i) H:=by
 apply propext;unfold rU;simp
theorem rEq_int {i j:Int} {H:Hp} {Q:VK}:rEq (.int i) (.int j) H Q=Q (.bl (decide (i=j))) H:=by
 apply propext;unfold rEq;simp [scal]
theorem rNe_int {i j:Int} {H:Hp} {Q:VK}:rNe (.int i) (.int j) H Q=Q (.bl (!decide (i=j))) H:=by
 apply propext;unfold rNe;simp [scal]
theorem rEq_bl {i j:Bool} {H:Hp} {Q:VK}:rEq (.bl i) (.bl j) H Q=Q (.bl (decide (i=j))) H:=by
 apply propext;unfold rEq;simp [scal]
theorem rNe_bl {i j:Bool} {H:Hp} {Q:VK}:rNe (.bl i) (.bl j) H Q=Q (.bl (!decide (i=j))) H:=by
 apply propext;unfold rNe;simp [scal]
theorem rEq_str {i j:Str} {H:Hp} {Q:VK}:rEq (.str i) (.str j) H Q=Q (.bl (decide (i=j))) H:=by
 apply propext;unfold rEq;simp [scal]
theorem rNe_str {i j:Str} {H:Hp} {Q:VK}:rNe (.str i) (.str j) H Q=Q (.bl (!decide (i=j))) H:=by
 apply propext;unfold rNe;simp [scal]
theorem ex_bl {c:Bool} {Q:Bool->Prop}:(∃ k,V.bl c=V.bl k /\ Q k)=Q c:=by
 apply propext;simp
theorem ex_int {c:Int} {Q:Int->Prop}:(∃ k,V.int c=V.int k /\ Q k)=Q c:=by
 apply propext;simp
theorem ZAd {n:Nat} (h:n <= 1000):n <= sizeLine:=yBI (ZBW h)
theorem ZAR {H:Hp} {p:Addr} (h:H p=none) (o:HO):Same H (upd H p o):=fun b u q=>by rw [ZAF (ZAD q h)];exact q
def getF (K:W.Frag) (f:Str) (x:V) (H:Hp) (Q:VK):Prop:=∃ a C dx fs v,x=.ref a /\ H a=some (.ins C dx fs) /\ Cls K C /\ NoAttr K C f /\ fs.lookup f=some v /\ Q v H
theorem tFld_eq {K:W.Frag} {ta:TE} {f:Str} {σ:St} {H:Hp} {Q:VK}:tFld K ta f σ H Q=ta σ H (fun x H1=>getF K f x H1 Q):=rfl
theorem getF_of {K:W.Frag} {f:Str} {a C dx:Addr} {fs:List (Str×V)} {v:V} {H:Hp} {Q:VK} (h:H a=some (.ins C dx fs)) (cl:Cls K C) (n:NoAttr K C f) (l:fs.lookup f=some v) (q:Q v H):getF K f (.ref a) H Q:=⟨a,C,dx,fs,v,rfl,h,cl,n,l,q⟩
def setF (K:W.Frag) (f:Str) (x y:V) (H:Hp) (Q:Hp->Prop):Prop:=∃ a C dx fs,x=.ref a /\ H a=some (.ins C dx fs) /\ Cls K C /\ NoAttr K C f /\ fs.length < 1000 /\ Q (upd H a (.ins C dx (putF f y fs)))
theorem sFld_eq {K:W.Frag} {ta tv:TE} {f:Str} {D:Ends} {σ:St} {H:Hp}:sFld K ta tv f D σ H=tv σ H (fun y H1=>ta σ H1 fun x H2=>setF K f x y H2 (D.nx σ)):=rfl
theorem setF_of {K:W.Frag} {f:Str} {a C dx:Addr} {fs:List (Str×V)} {y:V} {H:Hp} {Q:Hp->Prop} (h:H a=some (.ins C dx fs)) (cl:Cls K C) (n:NoAttr K C f) (l:fs.length < 1000) (q:Q (upd H a (.ins C dx (putF f y fs)))):setF K f (.ref a) y H Q:=⟨a,C,dx,fs,rfl,h,cl,n,l,q⟩
theorem ZA2 {K:W.Frag} {p:Addr} {xs:List V} {i:Int} {v:V} {H:Hp} {Q:VK} (h:SqL K H p xs) (e:atI xs i=some v) (q:Q v H):rIxL K (.ref p) (.int i) H Q:=⟨p,xs,i,v,rfl,rfl,h,e,q⟩
theorem ZAv {K:W.Frag} {p:Addr} {xs:List V} {i:Int} {v:V} {H:Hp} {Q:VK} (h:SqT K H p xs) (e:atI xs i=some v) (q:Q v H):rIxT K (.ref p) (.int i) H Q:=⟨p,xs,i,v,rfl,rfl,h,e,q⟩
theorem ZAh {α:Type} {xs:List α} {i:Int} {v:α} (h0:0 <= i) (h:xs[i.toNat]?=some v):atI xs i=some v:=by
 have q:=atI_nat h
 rwa [Int.toNat_of_nonneg h0] at q
theorem atI_ints {xs:List Int} {i:Int} {v:Int} (h0:0 <= i) (h:xs[i.toNat]?=some v):atI (xs.map V.int) i=some (.int v):=ZAh h0 (by rw [yAQ,h];rfl)
def Nxt (P:Nat->List V->St->Hp->Prop) (n i:Nat) (ys:List V) (σ:St) (H:Hp):Prop:=∃ m',m' < n-i /\ m'=n-(i+1) /\ i+1 <= n /\ P (i+1) ys σ H
theorem Nxt.of {P:Nat->List V->St->Hp->Prop} {n i:Nat} {ys:List V} {σ:St} {H:Hp} (h:i < n) (p:P (i+1) ys σ H):Nxt P n i ys σ H:=⟨n-(i+1),by omega,rfl,h,p⟩
theorem comp_list {K:W.Frag} {a:Addr} {xs:List V} {g:TG} {tt:TT} {te:TE} {Q:VK} {σ0:St} {H:Hp} (P:Nat->List V->St->Hp->Prop) (h0:P 0 [] σ0 H) (hl:∀ i ys σ H,i <= xs.length->P i ys σ H->SqL K H a xs /\ ys.length <= i) (hz:xs.length <= sizeLine)
  (hs:∀ i ys x σ H,i < xs.length->xs[i]?=some x->P i ys σ H->g x σ H fun σ2 H2=>tt σ2 H2 fun b H3=>if b=true then te σ2 H3 fun y H4=>Nxt P xs.length i (ys++[y]) σ2 H4 else Nxt P xs.length i ys σ2 H3)
  (hd:∀ ys σ H,P xs.length ys σ H->∀ p,H p=none->Q (.ref p) (upd H p (.lst ys))) :
  ∃ W:Nat->Nat->List V->St->Hp->Prop,(∃ m,W 0 m [] σ0 H) /\ ∀ i m ys σ H,W i m ys σ H ->
   ((Itl K a).stop i H /\ ys.length <= sizeLine /\ ∀ p,H p=none->Q (.ref p) (upd H p (.lst ys))) ∨
   ((Itl K a).go i H /\ ys.length < sizeLine /\ ∀ x H',(Itl K a).yld i H x H'->g x σ H' fun σ2 H2=>tt σ2 H2 fun b H3=>if b=true then te σ2 H3 fun y H4=>∃ m',m' < m /\ W (i+1) m' (ys++[y]) σ2 H4 else ∃ m',m' < m /\ W (i+1) m' ys σ2 H3):=by
 refine ⟨fun i m ys σ H=>m=xs.length-i /\ i <= xs.length /\ P i ys σ H,⟨xs.length,by simp,yAH _,h0⟩,?_⟩
 rintro i m ys σ H ⟨rfl,hi,p⟩
 obtain ⟨q,ly⟩:=hl i ys σ H hi p
 by_cases hlt:i < xs.length
 .refine .inr ⟨⟨xs,xs[i],q,by simp [hlt]⟩,by omega,fun x H' y=>?_⟩
  obtain ⟨e,y⟩:=y
  subst e
  exact hs i ys x σ _ hlt (y xs q) p
 .have e:i=xs.length:=by omega
  subst e
  exact .inl ⟨⟨xs,q,yAA _⟩,by omega,hd ys σ H p⟩
theorem Same.upd {H H':Hp} {p:Addr} {o:HO} (e:Same H H') (h:H p=none):Same H (upd H' p o):=fun b u q=>by rw [ZAF (ZAD q h)];exact e b u q
theorem Same.new {H H':Hp} {p:Addr} {o:HO} (e:Same H H') (h:H' p=none):Same H (L2.upd H' p o):=e.upd (e.free h)
theorem cutV_ints (ns:List Int) (lo hi:Option Int):cutV (ns.map V.int) lo hi=(((ns.drop (HT.sIx ns.length 0 lo)).take (HT.sIx ns.length ns.length hi-HT.sIx ns.length 0 lo)).map V.int):=by
 unfold cutV
 rw [yAD,List.map_take,List.map_drop]
theorem ixN_of {n:Nat} {i:Int} (h0:0 <= i) (h:i < n):ixN n i=some i.toNat:=by unfold ixN;rw [if_pos h0,if_pos h]
theorem slL_of {K:W.Frag} {a:Addr} {xs:List V} {lo hi:Option Int} {H:Hp} {Q:VK} (h:SqL K H a xs) (q:∀ p,H p=none->Q (.ref p) (upd H p (.lst (cutV xs lo hi)))):rSlL K (.ref a) lo hi H Q:=⟨a,xs,rfl,h,q⟩
def forL (K:W.Frag) (g:TG) (tb:TS) (D:Ends) (σ:St) (x:V) (H1:Hp):Prop:=∃ a,x=.ref a /\ (∃ xs,SqL K H1 a xs) /\ ∃ W:Nat->Nat->St->Hp->Prop,(∃ m,W 0 m σ H1) /\ ∀ i m σ H,W i m σ H ->
 ((Itl K a).stop i H /\ D.nx σ H)∨((Itl K a).go i H /\ ∃ N:St->Hp->Prop,(∀ σ' H',N σ' H'->∃ m',m' < m /\ W (i+1) m' σ' H') /\ ∀ x H',(Itl K a).yld i H x H'->g x σ H' fun σ2 H2=>tb { D with nx:=N,ct:=N,bk:=D.nx } σ2 H2)
theorem tForL_eq {K:W.Frag} {tl:TE} {g:TG} {tb:TS} {D:Ends} {σ:St} {H:Hp}:tFor (ZD6 K tl) g tb D σ H=tl σ H (fun x H1=>forL K g tb D σ x H1):=rfl
theorem forL_of {K:W.Frag} {g:TG} {tb:TS} {D:Ends} {σ:St} {H:Hp} {a:Addr} {xs:List V} (h:SqL K H a xs) (Pv:Nat->St->Hp->Prop) (h0:Pv 0 σ H) (hl:∀ i σ H,i <= xs.length->Pv i σ H->SqL K H a xs)
  (hs:∀ i x σ H,xs[i]?=some x->Pv i σ H->g x σ H fun σ2 H2=>tb { D with nx:=Pv (i+1),ct:=Pv (i+1),bk:=D.nx } σ2 H2) (hd:∀ σ H,Pv xs.length σ H->D.nx σ H):forL K g tb D σ (.ref a) H :=
 ⟨a,rfl,⟨xs,h⟩,for_list Pv h0 hl hs hd⟩
def forR (lo:Int) (g:TG) (tb:TS) (D:Ends) (σ:St) (n:Nat) (H1:Hp):Prop:=∃ W:Nat->Nat->St->Hp->Prop,(∃ m,W 0 m σ H1) /\ ∀ i m σ H,W i m σ H ->
 ((Itr lo n).stop i H /\ D.nx σ H)∨((Itr lo n).go i H /\ ∃ N:St->Hp->Prop,(∀ σ' H',N σ' H'->∃ m',m' < m /\ W (i+1) m' σ' H') /\ ∀ x H',(Itr lo n).yld i H x H'->g x σ H' fun σ2 H2=>tb { D with nx:=N,ct:=N,bk:=D.nx } σ2 H2)
def forR1 (g:TG) (tb:TS) (D:Ends) (σ:St) (x:V) (H1:Hp):Prop:=∃ j:Int,[x]=[.int j] /\ -(2 ^ 62) <= j /\ j < 2 ^ 62 /\ forR 0 g tb D σ j.toNat H1
def forR2 (g:TG) (tb:TS) (D:Ends) (σ:St) (x y:V) (H1:Hp):Prop:=∃ i j:Int,[x,y]=[.int i,.int j] /\ (-(2 ^ 62) <= i /\ i < 2 ^ 62 /\ -(2 ^ 62) <= j /\ j < 2 ^ 62) /\ forR i g tb D σ (j-i).toNat H1
theorem tForR1_eq {t:TE} {g:TG} {tb:TS} {D:Ends} {σ:St} {H:Hp}:tFor (iRng1 (ZBs t tNil)) g tb D σ H=t σ H (fun x H1=>forR1 g tb D σ x H1):=rfl
theorem tForR2_eq {t u:TE} {g:TG} {tb:TS} {D:Ends} {σ:St} {H:Hp}:tFor (ZD5 (ZBs t (ZBs u tNil))) g tb D σ H=t σ H (fun x H1=>u σ H1 fun y H2=>forR2 g tb D σ x y H2):=rfl
theorem forR_of {lo:Int} {n:Nat} {g:TG} {tb:TS} {D:Ends} {σ:St} {H:Hp} (Pv:Nat->St->Hp->Prop) (h0:Pv 0 σ H)
  (hs:∀ i σ H,i < n->Pv i σ H->g (.int (lo+i)) σ H fun σ2 H2=>tb { D with nx:=Pv (i+1),ct:=Pv (i+1),bk:=D.nx } σ2 H2) (hd:∀ σ H,Pv n σ H->D.nx σ H):forR lo g tb D σ n H:=for_range Pv h0 hs hd
theorem forR2_of {i j:Int} {g:TG} {tb:TS} {D:Ends} {σ:St} {H:Hp} (h:-1000 <= i /\ i <= 1000 /\ -1000 <= j /\ j <= 1000) (q:forR i g tb D σ (j-i).toNat H):forR2 g tb D σ (.int i) (.int j) H:=⟨i,j,rfl,by omega,q⟩
def compL (K:W.Frag) (g:TG) (tt:TT) (te:TE) (σ0:St) (Q:VK) (x:V) (H1:Hp):Prop:=∃ a,x=.ref a /\ (∃ xs,SqL K H1 a xs) /\ ∃ W:Nat->Nat->List V->St->Hp->Prop,(∃ m,W 0 m [] σ0 H1) /\ ∀ i m ys σ H,W i m ys σ H ->
 ((Itl K a).stop i H /\ ys.length <= sizeLine /\ ∀ p,H p=none->Q (.ref p) (upd H p (.lst ys))) ∨
 ((Itl K a).go i H /\ ys.length < sizeLine /\ ∀ x H',(Itl K a).yld i H x H'->g x σ H' fun σ2 H2=>tt σ2 H2 fun b H3=>if b=true then te σ2 H3 fun y H4=>∃ m',m' < m /\ W (i+1) m' (ys++[y]) σ2 H4 else ∃ m',m' < m /\ W (i+1) m' ys σ2 H3)
theorem tCompL_eq {k:Nat} {js:List Nat} {K:W.Frag} {tl:TE} {g:TG} {tt:TT} {te:TE} {σ:St} {H:Hp} {Q:VK}:ZC4 k js (ZD6 K tl) g tt te σ H Q=tl σ H (fun x H1=>compL K g tt te (up k js σ) Q x H1):=rfl
def compR (lo:Int) (g:TG) (tt:TT) (te:TE) (σ0:St) (Q:VK) (n:Nat) (H1:Hp):Prop:=∃ W:Nat->Nat->List V->St->Hp->Prop,(∃ m,W 0 m [] σ0 H1) /\ ∀ i m ys σ H,W i m ys σ H ->
 ((Itr lo n).stop i H /\ ys.length <= sizeLine /\ ∀ p,H p=none->Q (.ref p) (upd H p (.lst ys))) ∨
 ((Itr lo n).go i H /\ ys.length < sizeLine /\ ∀ x H',(Itr lo n).yld i H x H'->g x σ H' fun σ2 H2=>tt σ2 H2 fun b H3=>if b=true then te σ2 H3 fun y H4=>∃ m',m' < m /\ W (i+1) m' (ys++[y]) σ2 H4 else ∃ m',m' < m /\ W (i+1) m' ys σ2 H3)
def compR1 (g:TG) (tt:TT) (te:TE) (σ0:St) (Q:VK) (x:V) (H1:Hp):Prop:=∃ j:Int,[x]=[.int j] /\ -(2 ^ 62) <= j /\ j < 2 ^ 62 /\ compR 0 g tt te σ0 Q j.toNat H1
theorem tCompR1_eq {k:Nat} {js:List Nat} {t:TE} {g:TG} {tt:TT} {te:TE} {σ:St} {H:Hp} {Q:VK}:ZC4 k js (iRng1 (ZBs t tNil)) g tt te σ H Q=t σ H (fun x H1=>compR1 g tt te (up k js σ) Q x H1):=rfl
def CDivB (i j:Int):Prop:=0 < j /\ j < 2 ^ 250
section
variable {X:Cx}
theorem op_fdivB:OpR X (binaryOp .FloorDiv) (rI CDivB fun i j=>.int (i / j)):=opI fun i j _ _ _ _ _ hc q=>by
 have h1:(0:Int) < j:=hc.1
 have h2:j < 2 ^ 250:=hc.2
 have h3:j.natAbs < 2 ^ 250:=by
  have e:(j.natAbs:Int)=j:=Int.natAbs_of_nonneg (by omega)
  have e2:((2 ^ 250:Nat):Int)=2 ^ 250:=by rfl
  omega
 have h4:j.natAbs.log2 < 250:=(Nat.log2_lt (by omega)).mpr h3
 exact floordiv_int (by omega) (by rw [Int.fdiv_eq_ediv_of_nonneg i (by omega)];exact q) (.inl (PyProof.noPylong_of_log2 (by omega)))
end
theorem gCons_eq {t:TG} {u:TGs} {v:V} {r:List V} {σ:St} {H:Hp} {Q:St->Hp->Prop}:ZD8 t u (v::r) σ H Q=t v σ H (fun σ' H'=>u r σ' H' Q):=by
 apply propext;unfold ZD8;constructor
 .rintro ⟨v',r',e,q⟩;cases e;exact q
 .exact fun q=>⟨v,r,rfl,q⟩
theorem gNil_eq {σ:St} {H:Hp} {Q:St->Hp->Prop}:gNil [] σ H Q=Q σ H:=by
 apply propext;unfold gNil;simp
theorem gTup_of {K:W.Frag} {n:Nat} {t:TGs} {a:Addr} {xs:List V} {σ:St} {H:Hp} {Q:St->Hp->Prop} (h:SqT K H a xs) (l:xs.length=n) (q:t xs σ H Q):gTup K n t (.ref a) σ H Q:=⟨a,xs,rfl,h,l,q⟩
section
variable {X:Cx} {tg l e o:Expr} {es:List Expr} {tl te to:TE} {t:TA} {pos apos cpos:Pos} {f:Str}
theorem ix_listK (K:W.Frag) (h:X.K=K:=by rfl):IxR X (rIxL K):=h ▸ ZAe
theorem ix_tupK (K:W.Frag) (h:X.K=K:=by rfl):IxR X (rIxT K):=h ▸ ZAw
theorem pg_tupK (K:W.Frag) {k:Nat} {tgs:TGs} {n:Nat} (hc:X.calm=true) (hg:PGs X es tgs)
  (hn:(assignEach es X.env).length=n:=by rfl) (hst:(assignEach es X.env).findIdx? (·.1)=none:=by rfl) (h:X.K=K:=by rfl):PG X (.Tuple es k pos) (gTup K n tgs):=h ▸ pg_tup hc hg hn hst
end
section
variable {X:Cx}
def rBits:V->List V->Hp->VK->Prop:=fun x vs H Q=>∃ i,x=.int i /\ vs=[] /\ Q (.int (Builtin.Int.intBits i:Nat)) H
theorem mt_bitlen:MtR X "int.bit_length" rBits:=by
 intro pins s σ H x vs v us Q I rx rv h
 obtain ⟨i,rfl,rfl,q⟩:=h
 obtain ⟨t,rfl⟩:=rx
 cases rv.zero
 refine call_gives F.slot_int_bit_length (typeIs_int s i t) F.entry_int_bit_length (F.args_int_bit_length_1 _) (PySem.AutoIntG2.int_bit_length_int_0 i t) ?_
 exact ⟨.int (Builtin.Int.intBits i:Nat),_,I.tok _,⟨_,rfl⟩,q⟩
theorem bits_nat (n:Nat) (h:n≠0):Builtin.Int.intBits (n:Int)=n.log2+1:=by
 unfold Builtin.Int.intBits
 rw [if_neg (by simpa using h)]
 rfl
theorem tAug_eq {i:Nat} {te:TE} {ti:TIp} {D:Ends} {σ:St} {H:Hp}:tAug i te ti D σ H=tVar i σ H (fun x H0=>te σ H0 fun y H1=>ti x y H1 fun z H2=>D.nx (σ.set i (some z)) H2):=rfl
theorem ipI_int {f:Int->Int->Int} {i j:Int} {H:Hp} {Q:VK}:ipI f (.int i) (.int j) H Q=Q (.int (f i j)) H:=by
 refine propext ⟨?_,fun q=>⟨i,j,rfl,rfl,q⟩⟩
 rintro ⟨a,b,e1,e2,q⟩
 cases e1;cases e2;exact q
theorem cx_K {CX:CXT} {P:Program} {w:World} {K:W.Frag} {mg:Str->Option Value} {base:Heap} {N:List Str} {qual:Str} {scope:Scope} {f:Addr} {cd:Value} {A:Around} {outer:List Env} {s:Shared} {H:Hp} {E:XK}:(cxOf CX P w K mg base N qual scope f cd A outer s H E).K=K:=rfl
def wBody (W:Nat->St->Hp->Prop) (m:Nat) (tb:TS) (D:Ends) (σ:St) (H1:Hp):Prop:=∃ N:St->Hp->Prop,(∀ σ' H',N σ' H'->∃ m',m' < m /\ W m' σ' H') /\ tb { D with nx:=N,ct:=N,bk:=D.nx } σ H1
theorem ZBP {W:Nat->St->Hp->Prop} {m:Nat} {tb:TS} {D:Ends} {σ:St} {H1:Hp} (h:tb { D with nx:=fun σ' H'=>∃ m',m' < m /\ W m' σ' H',ct:=fun σ' H'=>∃ m',m' < m /\ W m' σ' H',bk:=D.nx } σ H1):wBody W m tb D σ H1:=⟨_,fun _ _ q=>q,h⟩
theorem ZBO {c:TT} {tb:TS} {D:Ends} {σ:St} {H:Hp} (W:Nat->St->Hp->Prop) (h0:∃ m,W m σ H) (hs:∀ m σ H,W m σ H->c σ H fun b H1=>if b=true then wBody W m tb D σ H1 else D.nx σ H1):tWhile c tb D σ H:=⟨W,h0,hs⟩
def insV (xs:List V) (i:Int) (y:V):List V:=let k:=if i < 0 then (i+(xs.length:Int)).toNat else min i.toNat xs.length;xs.take k++y::xs.drop k
def rInsert:V->List V->Hp->VK->Prop:=fun x vs H Q=>∃ l xs i y,x=.ref l /\ vs=[.int i,y] /\ H l=some (.lst xs) /\ xs.length < sizeLine /\ (-(2 ^ 62) <= i /\ i < 2 ^ 62) /\ Q .non (upd H l (.lst (insV xs i y)))
theorem ins_arr (its:List Value) (k:Nat) (u:Value) (hk:k <= its.length):(its.toArray.extract 0 k).push u++its.toArray.extract k=(its.take k++u::its.drop k).toArray:=by
 apply Array.ext'
 simp
 exact List.take_of_length_le (by rw [yBE];exact yAA _)
theorem insV_length (xs:List V) (i:Int) (y:V):(insV xs i y).length=xs.length+1:=by
 unfold insV
 dsimp only
 rw [yAB,yAG,yBB,yBE]
 omega
theorem Vals.ins {xs:List V} {us:List Value} {y:V} {u:Value} (r:Vals xs us) (q:RelV y u) (k:Nat):Vals (xs.take k++y::xs.drop k) (us.take k++u::us.drop k):=(r.take k).append (.cons q (r.drop k))
theorem mt_insert:MtM X "list.insert" rInsert:=by
 intro pins s σ H x vs v us Q I rx rv h
 obtain ⟨l,xs,i,y,rfl,rfl,hH,hz,hi,q⟩:=h
 cases rx
 obtain ⟨u,u2,rfl,ru,ru2⟩:=rv.two
 obtain ⟨t,rfl⟩:=ru
 obtain ⟨z,its,n,r,hl,e⟩:=I.lstM hH
 have hc0:¬(!Builtin.List.listFitsIndex i)=true:=by
  unfold Builtin.List.listFitsIndex
  have:(decide (-(2 ^ 63:Int) <= i) && decide (i < 2 ^ 63))=true:=by
   rw [Bool.and_eq_true];exact ⟨decide_eq_true (by omega),decide_eq_true (by omega)⟩
  simpa using this
 refine call_meets F.slot_list_insert ⟨_,e,rfl⟩ F.entry_list_insert (F.args_list_insert_3 _ _ _) (PySem.AutoListH.list_insert_list_int_val_1 l its.toArray n i t u2 hc0 (by rw [yAK];omega)) ⟨e,?_⟩
 have hk:(if i < 0 then (i+(its.length:Int)).toNat else min i.toNat its.length) <= its.length:=by split <;> omega
 refine ⟨.non,_,I.lset (its':=its.take (if i < 0 then (i+(its.length:Int)).toNat else min i.toNat its.length)++u2::its.drop (if i < 0 then (i+(its.length:Int)).toNat else min i.toNat its.length)) hH e ?_ (ys:=insV xs i y) ?_ ?_,rfl,q⟩
 .show (its.toArray.extract 0 _).push u2++its.toArray.extract _=_
  rw [yAK]
  exact ins_arr its _ u2 hk
 .unfold insV
  rw [hl]
  exact r.ins ru2 _
 .rw [insV_length];omega
end
structure Enc {α:Type} [DecidableEq α] (e:α->PyData) (n:Nat):Prop where
 eq:∀ a b,PyData.eqv (e a) (e b)=decide (a=b)
 lay:∀ a,(e a).canLay0=true
 dep:∀ a,(e a).depth <= n
theorem Enc.int:Enc PyData.int 0:=⟨fun a b=>by unfold PyData.eqv;rw [Bool.eq_iff_iff];simp,fun a=>by unfold PyData.canLay0;rfl,fun a=>by unfold PyData.depth;exact yAA _⟩
section
variable {α β γ:Type} [DecidableEq α] [DecidableEq β] [DecidableEq γ] {e:α->PyData} {f:β->PyData} {g:γ->PyData} {n m k:Nat}
theorem Enc.all (h:Enc e n):∀ xs ys:List α,PyData.eqvAll (xs.map e) (ys.map e)=decide (xs=ys)
 | [],[]=>by simp [PyData.eqvAll]
 | x::xs,[]=>by simp [PyData.eqvAll]
 | [],y::ys=>by simp [PyData.eqvAll]
 | x::xs,y::ys=>by
  rw [yAX,yAX]
  unfold PyData.eqvAll
  rw [h.eq,h.all xs ys,<- Bool.decide_and]
  exact decide_eq_decide.mpr (by rw [List.cons.injEq])
theorem Enc.layAll (h:Enc e n):∀ xs:List α,PyData.canLayAll0 (xs.map e)=true
 | []=>by simp [PyData.canLayAll0]
 | x::xs=>by rw [yAX];unfold PyData.canLayAll0;rw [h.lay,h.layAll xs];rfl
theorem Enc.depAll (h:Enc e n):∀ xs:List α,PyData.depthAll (xs.map e) <= n
 | []=>by simp [PyData.depthAll]
 | x::xs=>by
  rw [yAX];unfold PyData.depthAll
  have a:=h.dep x
  have b:=h.depAll xs
  omega
theorem Enc.list (h:Enc e n):Enc (fun xs:List α=>PyData.list (xs.map e)) (n+1) :=
 ⟨fun a b=>by unfold PyData.eqv;exact h.all a b,fun a=>by unfold PyData.canLay0;exact h.layAll a,fun a=>by unfold PyData.depth;have:=h.depAll a;omega⟩
theorem neD_of {K:W.Frag} {H:Hp} {x y:V} {a b:α} {Q:VK} (h:Enc e n) (hn:n <= 64) (dx:Dp K H (e a) x) (dy:Dp K H (e b) y) (q:Q (.bl (!decide (a=b))) H):rNeD K x y H Q :=
 ⟨_,_,dx,dy,h.lay a,h.lay b,yAI (h.dep a) hn,by rw [h.eq];exact q⟩
end
theorem ZCx {K:W.Frag} {H:Hp} {a:Addr} {xs:List Int} (h:SqL K H a (xs.map V.int)):Dp K H (.list (xs.map PyData.int)) (.ref a):=dp_lst h (DpAll.ints xs)
section
variable {K:W.Frag} {H:Hp} {R:Bool->Prop}
end
structure FunD (K:W.Frag) (x qual:Str) (st:Stmt) (f:Addr) (fd:FuncData) (dv:List Value):Prop where
 ex:∃ (oc:Value) (od:Option Addr) (T:Addr) (kV doc pm:Value) (an:Option Addr) (cdv ct:Value) (osl:Array (Option Value)),
  fd=W.fnOf x qual (ZAL st) (ZAK st) (ZAC st) (.ref T) kV doc pm an cdv ct /\ K.lookup f=some ⟨oc,od,.func fd,osl⟩ /\ W.codeIn K cdv qual=true /\ ∃ o n,K.lookup T=some o /\ o.data=.seq dv.toArray n
 kp:W.keepIn K (.ref f)=true
section
variable {P:Program} {w:World} {K:W.Frag} {mg:Str->Option Value} {base:Heap}
theorem FunD.ok {x qual:Str} {st:Stmt} {f:Addr} {fd:FuncData} {dv:List Value} {N ps:List Str} {k:Nat} {sp:Sp} (F:FunD K x qual st f fd dv) (S:FnScope N ps (ZAC st)) (len:∀ vs H Q E,sp vs H Q E->vs.length=ps.length)
  (hbody:∀ (cdv:Value) (A:Around) (outer:List Env) (s:Shared) (H:Hp) (vs:List V) (Q:VK) (E:XK),Room k (A.deeper (envOfC qual (ZAC st) s.heap.objs.size f cdv))->sp vs H Q E ->
   ∃ t,PSs (cxOf CX0 P w K mg base N qual (ZAC st) f cdv A outer s H E).nox (ZAK st) t /\ t { nx:=fun _ H'=>Q .non H',rt:=Q } (start N vs) H):FnOk P w K mg base CX0 (k+1) f fd ps sp:=by
 obtain ⟨oc,od,T,kV,doc,pm,an,cdv,ct,osl,rfl,lk,hcd,_⟩:=F.ex
 refine fn_of lk hcd S len fun A outer s H vs Q E hr hsp=>?_
 obtain ⟨t,h,q⟩:=hbody cdv A outer s H vs Q E hr hsp
 exact ⟨t,h.nox,q⟩
theorem FunD.binds {x qual:Str} {st:Stmt} {f:Addr} {fd:FuncData} {dv ds:List Value} {ps:List Str} (F:FunD K x qual st f fd dv)
  (h:∀ (T:Addr) (kV doc pm:Value) (an:Option Addr) (cdv ct:Value) (us:List Value),(us++ds).length=ps.length->∃ k,bindArgs (W.fnOf x qual (ZAL st) (ZAK st) (ZAC st) (.ref T) kV doc pm an cdv ct) ⟨us,[]⟩=seqItems? (.ref T) >>= k /\ k (some dv.toArray)=pure (ps.zip (us++ds))):Binds K fd ps ds:=by
 obtain ⟨oc,od,T,kV,doc,pm,an,cdv,ct,osl,rfl,lk,hcd,o,n,hT,ho⟩:=F.ex
 intro s us KX hl
 obtain ⟨k,h1,h2⟩:=h T kV doc pm an cdv ct us hl
 exact PySem.W.binds_K KX rfl hT ho h1 h2
theorem ZCv {x qual:Str} {st:Stmt} {f T:Addr} {oc:Value} {od an:Option Addr} {osl:Array (Option Value)} {kV doc pm cdv ct:Value} {dv:List Value} {ocT:Value} {odT:Option Addr} {nT:Nat} {slT:Array (Option Value)} (l:K.lookup f=some ⟨oc,od,.func (W.fnOf x qual (ZAL st) (ZAK st) (ZAC st) (.ref T) kV doc pm an cdv ct),osl⟩)
  (c:W.codeIn K cdv qual=true) (k:W.keepIn K (.ref f)=true) (t:K.lookup T=some ⟨ocT,odT,.seq dv.toArray nT,slT⟩):FunD K x qual st f (W.fnOf x qual (ZAL st) (ZAK st) (ZAC st) (.ref T) kV doc pm an cdv ct) dv:=⟨⟨oc,od,T,kV,doc,pm,an,cdv,ct,osl,rfl,l,c,_,nT,t,rfl⟩,k⟩
end
structure KlD (P:Program) (w:World) (K:W.Frag) (mg:Str->Option Value) (base:Heap) (CX:CXT) (x:Str) (C:Addr) (k:Nat) (ps:List Str) (sp:Sp) (dvs:List V):Prop where
 mgC:mg x=some (.ref C)
 ex:∃ f fd ds,FnOk P w K mg base CX k f fd ps sp /\ Binds K fd ps ds /\ Vals dvs ds /\ Mk K C f
section
variable {X:Cx} {CX:CXT} {k:Nat} {ps:List Str} {sp:Sp} {dvs:List V} {E:XK} {x m:Str} {C:Addr} {p pos apos:Pos} {e o:Expr} {es:List Expr} {ta:TE} {t:TA}
theorem pe_mkD (F:KlD X.prog X.w X.K X.mg X.base CX x C k ps sp dvs) (hr:Room (k+1) X.A) (hg:Gl X x) (hx:ZBh CX X E) (ha:PA X (e::es) t) (hdb:(x == ("__debug__":Str))=false:=by decide) (he:starEach (e::es) X.env=(false,eval e X.env)::starEach es X.env:=by rfl) (hpl:(backTo pos (starEach es X.env)).any (·.1)=false:=by rfl) :
  PE X (.Call (.Name x p) (e::es) [] pos) (ZDa C sp dvs E t):=by
 obtain ⟨f,fd,ds,h1,h2,hv,h3⟩:=F.ex
 exact pe_make h3 h1 hr hg F.mgC h2 hv hx ha hdb he hpl
end
section
variable {X:Cx}
theorem rng_ok {P:Program} {w:World} {H:Hp} {h:Heap} {a:Addr} {lo hi:Int} {t u v:Tok} (e:h.get? a=some { cls:=.type "range",data:=.fields #[.int lo t,.int hi u,.int 1 v] }):ObjOk P w H h a (.rng lo hi):=⟨t,u,v,e⟩
theorem ZCW:ZCb X (.type "range") (fun xs H Q=>∃ n:Int,xs=[.int n] /\ ∀ p,H p=none->Q (.ref p) (upd H p (.rng 0 n))):=by
 intro pins s σ H xs us Q I r h
 obtain ⟨n,rfl,q⟩:=h
 obtain ⟨u,rfl,rx⟩:=ZDS r
 obtain ⟨t,rfl⟩:=rx
 exact call_range_1 ⟨.ref s.heap.objs.size,_,I.laid (fun b o e=>Heap.get?_push_of_some _ e) (yAA _) (rng_ok (Heap.get?_push_size _ rfl)),rfl,q _ (I.hok.fresh (yAA _))⟩
theorem call_rng2:ZCb X (.type "range") (fun xs H Q=>∃ m n:Int,xs=[.int m,.int n] /\ ∀ p,H p=none->Q (.ref p) (upd H p (.rng m n))):=by
 intro pins s σ H xs us Q I r h
 obtain ⟨m,n,rfl,q⟩:=h
 obtain ⟨u,w',rfl,rx,ry⟩:=ZDs r
 obtain ⟨t,rfl⟩:=rx
 obtain ⟨t',rfl⟩:=ry
 exact call_range_2 ⟨.ref s.heap.objs.size,_,I.laid (fun b o e=>Heap.get?_push_of_some _ e) (yAA _) (rng_ok (Heap.get?_push_size _ rfl)),rfl,q _ (I.hok.fresh (yAA _))⟩
def ZBz (lo hi:Int):List Int:=(List.range (hi-lo).toNat).map fun i:Nat=>lo+(i:Int)
theorem ZBi (lo hi:Int):(ZBz lo hi).length=(hi-lo).toNat:=by unfold ZBz;rw [yAD,List.length_range]
theorem rints_get {lo hi:Int} {i:Nat} (h:i < (hi-lo).toNat):(ZBz lo hi)[i]?=some (lo+i):=by unfold ZBz;rw [yAQ,List.getElem?_range h];rfl
theorem ZBD (hc:X.calm=true):ZCb X (.type "list") (fun xs H Q=>∃ (p:Addr) (lo hi:Int),xs=[.ref p] /\ H p=some (.rng lo hi) /\ (-1000 <= lo /\ lo <= 1000 /\ -1000 <= hi /\ hi <= 1000) /\ ∀ l,H l=none->Q (.ref l) (upd H l (.lst ((ZBz lo hi).map V.int)))):=by
 intro pins s σ H xs us Q I r h
 obtain ⟨p,lo,hi,rfl,hp,hb,q⟩:=h
 obtain ⟨u,rfl,rx⟩:=ZDS r
 cases rx
 obtain ⟨t,u,v,e⟩:=I.hok p _ hp
 have hh:X.A.handled=none:=I.ok.hd hc
 refine call_list_range (n:=(hi-lo).toNat) hh e (small_one (by omega) (by omega) (by omega) (by omega)) (by rw [rangeSize_one];split <;> omega) (by omega) fun h' tk acc' c' hk hS hacc=>?_
 have hz:(ZBz lo hi).length <= 1000 * 2:=by rw [ZBi];omega
 refine ⟨.ref s.heap.objs.size,_,I.laid (t':=tk) hk (yAA _) (o:=.lst ((ZBz lo hi).map V.int)) ⟨?_,acc'.toList,c',?_,by simpa using hS⟩,rfl,q _ (I.hok.fresh (yAA _))⟩
 .rw [yAD]
  exact yAI hz (by decide)
 .have hsz:acc'.size=(hi-lo).toNat:=hacc.1
  have gen:∀ (vs:List Value) (k:Nat) (zs:List Int),vs.length=zs.length->(∀ (j:Nat) v z,vs[j]?=some v->zs[j]?=some z->∃ t,v=Value.int z t)->Vals (zs.map V.int) vs:=by
   intro vs
   induction vs with
   | nil=>intro k zs h1 _;cases zs with
    | nil=>exact .nil
    | cons _ _=>cases h1
   | cons v r ih=>intro k zs h1 h2;cases zs with
    | nil=>cases h1
    | cons z zr=>exact .cons (h2 0 v z rfl rfl) (ih 0 zr (by simpa using h1) fun j v' z' a b=>h2 (j+1) v' z' (by simpa using a) (by simpa using b))
  refine gen acc'.toList 0 (ZBz lo hi) (by rw [ZBi,Array.length_toList,hsz]) fun j v z a b=>?_
  have a':acc'[j]?=some v:=by simpa using a
  obtain ⟨t,rfl⟩:=hacc.2 j v a'
  have hj:j < (hi-lo).toNat:=by have:=(Array.getElem?_eq_some_iff.mp a').1;omega
  rw [rints_get hj] at b
  cases b
  exact ⟨t,by rw [Int.mul_one]⟩
theorem call_sorted:ZCb X (.builtin "sorted") (fun xs H Q=>∃ (p:Addr) (ns:List Int),xs=[.ref p] /\ SqL X.K H p (ns.map V.int) /\ ns.length < 64 /\ ∀ (l:Addr) (ms:List Int),H l=none->ms.Perm ns->ms.Pairwise (· <= ·)->Q (.ref l) (upd H l (.lst (ms.map V.int)))):=by
 intro pins s σ H xs us Q I r h
 obtain ⟨p,ns,rfl,hq,hn,q⟩:=h
 obtain ⟨u,rfl,rx⟩:=ZDS r
 cases rx
 obtain ⟨its,r',pl,hz⟩:=I.list hq
 have hlen:=r'.length
 rw [yAD] at hlen
 refine sorted_ints pl.isList (intsAre_of r') (by omega) fun out ns' a1 a2 a3=>?_
 obtain ⟨e,he⟩:=sortedAll_at s.heap its out
 have hl':ns'.length=ns.length:=a2.length_eq
 refine ⟨.ref (s.heap.objs.size+1),_,I.laid (t':=s.toks) (fun b o e=>sortedAll_old e) (yAZ _) (o:=.lst (ns'.map V.int)) ⟨?_,out.toList,e,ZCP a1,by simpa using he⟩,rfl,q _ ns' (I.hok.fresh (yAZ _)) a2 a3⟩
 rw [yAD]
 exact yAI (show ns'.length <= 1000 by omega) (by decide)
end
theorem Same.get {H H':Hp} {b:Addr} {o:HO} (s:Same H H') (h:H b=some o):H' b=some o:=s b o h
theorem newH {H:Hp} {p:Addr} (h:H p=none) (o:HO):∃ H',upd H p o=H' /\ Same H H' /\ H' p=some o:=⟨_,rfl,ZAR h o,ZAH⟩
section
variable {K:W.Frag} {a:Addr} {xs:List V} {te:TE} {Q:VK} {σ0 rest:St} {H:Hp}
end
section
variable {X:Cx} {pins:List (Addr×Obj)} {σ:St} {H:Hp} {s:Shared}
theorem Inv.turn2 (I:Inv X pins σ H s) {ch:List Addr} {h':Heap} {p:Addr} {o:HO} {t':Nat} (hf:∀ b∈ch,FpOk X pins H b) (k:∀ b ob,b∉ch->s.heap.get? b=some ob->h'.get? b=some ob)
  (hp:s.heap.objs.size <= p) (new:ObjOk X.prog X.w (upd H p o) h' p o):Inv X pins σ (upd H p o) { s with heap:=h',toks:=t' }:=by
 have hn:H p=none:=I.hok.fresh hp
 have tr:∀ b u,H b=some u->b∉ch:=fun b u e z=>by rw [(hf b z).1] at e;cases e
 refine I.call (g':=s.gens) (t':=t') (d':=s.drawn) (ch:=ch) ⟨fun b ob e n _ hx=>k b ob hx e,fun b ob e n _ hx=>⟨ob.slots,k b ob hx e⟩,fun b ob e n _=>?_,fun b ob e hx=>⟨ob,k b ob hx e⟩,fun b xs e=>?_,fun b ob u e=>?_,fun b qs e=>⟨#[],?_⟩⟩ (fun b u e=>?_) I.bare fun b hb=>?_
 .rw [ZAF (yAM (yAP (Heap.lt_size e) hp))];exact n
 .rw [ZAF (ZAD e hn)];exact e
 .rw [ZAF (ZAD e hn)];exact e
 .rw [ZAF (ZAD e hn),e];simp
 .by_cases hb:b=p
  .subst hb;rw [ZAH] at e;cases e;exact new
  .rw [ZAF hb] at e
   refine (I.hok b u e).stay (fun c v hc q=>k c v ?_ q) (fun c q=>by rw [ZAF (ZAD q hn)];exact q) fun c xs q=>by rw [ZAF (ZAD q hn)];exact q
   rcases hc with z | z
   .rw [z];exact tr b u e
   .exact tr c _ z
 .obtain ⟨a1,a2,a3,a4,a5,a6⟩:=hf b hb
  exact ⟨a4,a2,a5,a6⟩
end
def Ite (K:W.Frag) (a:Addr):It :=
 ⟨fun i H=>∃ xs x,SqL K H a xs /\ xs[i]?=some x,fun i H v H'=>∃ p x,H p=none /\ (∀ xs,SqL K H a xs->xs[i]?=some x) /\ H'=upd H p (.tup [.int i,x]) /\ v=.ref p,fun i H=>∃ xs,SqL K H a xs /\ xs.length <= i⟩
theorem turn_enum {P:Program} {w:World} {K:W.Frag} {elts:List Expr} {x1} {tpos:Pos} (a e it:Addr) (hne:e≠it):Turn P w K (.Tuple elts x1 tpos) (Ite K a) [e,it] e (fun i h=>(∃ old,IsEnum h e it ((i:Nat):Int) old) /\ h.IsListIter it a i) where
 mem:=by simp
 obj:=fun i h st b hb=>by
  obtain ⟨⟨old,he⟩,o,e2,c,d⟩:=st
  have hb':b=e∨b=it:=by simpa using hb
  rcases hb' with rfl | rfl
  .exact ⟨_,he,fun v z=>by cases z⟩
  .exact ⟨o,e2,fun v z=>by rw [d] at z;cases z⟩
 keep:=fun i h h' st k=>⟨let ⟨old,he⟩:=st.1;⟨old,k e (by simp) _ he⟩,st.2.at fun o q=>k it (by simp) o q⟩
 item:=by
  intro X hP hw hK hc i pins s σ H E I hf st hg
  subst hP hw hK
  obtain ⟨xs,x,hq,hx⟩:=hg
  obtain ⟨its,rv,p,hz⟩:=I.list hq
  obtain ⟨u,hu,ru⟩:=rv.get hx
  obtain ⟨⟨old,he⟩,hit⟩:=st
  refine wpAny_pyNext_enum_item he hit p.isList (x:=u) (by simpa using hu) hne fun h1 heo hit1 ht1 hz1 hk1=>⟨_,rfl,?_⟩
  refine wpAny_letOwnedTupleGo_enum heo fun h2 he2 hs2=>?_
  replace hs2:Heap.SameBut e h1 h2:=hs2
  have hel:e < s.heap.objs.size:=Heap.lt_size he
  have ht2:h2.get? s.heap.objs.size=some { cls:=.type "tuple",data:=.seq #[.int i s.toks,u] }:=(hs2.2 _ (Nat.ne_of_gt hel)).trans ht1
  have hnew:H s.heap.objs.size=none:=I.hok.fresh (yAA _)
  refine ⟨.ref s.heap.objs.size,upd H s.heap.objs.size (.tup [.int i,x]),I.turn2 (ch:=[e,it]) (t':=s.toks+1) hf (fun b ob hb q=>?_) (yAA _) ?_,rfl,⟨_,x,hnew,fun ys hy=>by rw [I.list_inj hy hq];exact hx,rfl,rfl⟩,⟨⟨u,?_⟩,?_⟩,fun b hb=>?_⟩
  .have hbe:b≠e:=fun z=>hb (by simp [z])
   have hbi:b≠it:=fun z=>hb (by simp [z])
   exact (hs2.2 b hbe).trans (hk1 b ob hbe hbi q)
  .exact ⟨ZAd (show 2 <= 1000 by decide),[.int i s.toks,u],.cons ⟨_,rfl⟩ (.cons ru .nil),_,ht2,rfl,0,rfl⟩
  .have:((i+1:Nat):Int)=(i:Int)+1:=by push_cast;rfl
   rw [this];exact he2
  .exact hit1.at fun o q=>(hs2.2 it (Ne.symm hne)).trans q
  .have hn:=(hf b hb).1
   have hb':b=e∨b=it:=by simpa using hb
   obtain ⟨oi,hoi,_⟩:=hit
   have hlt:b < s.heap.objs.size:=by
    rcases hb' with rfl | rfl
    .exact hel
    .exact Heap.lt_size hoi
   rw [ZAF (yAM hlt)];exact hn
 done:=by
  intro X hP hw hK hc i pins s σ H E I hf st hg
  subst hP hw hK
  obtain ⟨xs,hq,hx⟩:=hg
  obtain ⟨its,rv,p,hz⟩:=I.list hq
  obtain ⟨⟨old,he⟩,hit⟩:=st
  obtain ⟨f0,f1,f2,f3,f4,f5⟩:=hf it (by simp)
  have hl:=rv.length
  exact wpAny_pyNext_enum_end (I.ok.hd hc) he hit p.isList (by rw [List.getElem?_toArray];exact yBJ (by omega)) fun h' eb=>⟨rfl,I.turned (t':=s.toks) (fun b o hb e=>eb b o hb e) f0 f1 f3 f4 f5⟩
 self:=fun _ _ _ _ _ st h=>let ⟨_,he⟩:=st.1;wpAny_pyIter_enum he h
section
variable {X:Cx}
def ZD7 (K:W.Frag) (ta:TA):TI:=fun σ H R=>ta σ H fun vs H1=>∃ a,vs=[.ref a] /\ (∃ xs,SqL K H1 a xs) /\ R (Ite K a) H1
theorem pi_enum {elts:List Expr} {x1} {tpos:Pos} {l:Expr} {ta:TA} {p pos:Pos} (hg:Gl X "enumerate") (hm:X.mg "enumerate"=none) (ha:PA X [l] ta) (hs:starEach [l] X.env=[(false,eval l X.env)]:=by rfl) :
  PI X (.Tuple elts x1 tpos) (.Call (.Name "enumerate" p) [l] [] pos) (ZD7 X.K ta):=by
 intro pins s σ H R I h
 refine Call_ (ZDO I hg hm boot_enumerate (PyProof.Rows.callWith_type1 (thn (ha pos pins s σ H _ I h) fun us s1 ⟨vs,H1,I1,r1,q1⟩=>?_) hs rfl))
 obtain ⟨a,e,⟨xs,hq⟩,q⟩:=q1
 subst e
 obtain ⟨u,rfl,ru⟩:=ZDS r1
 cases ru
 obtain ⟨its,rv,pl,hz⟩:=I1.list hq
 refine call_enumerate_list pl.isList fun h' he hit hsz hk=>wpAny_pyIter_enum he ?_
 have I2:Inv X pins σ H1 { s1 with heap:=h' }:=I1.kept (t':=s1.toks) hk
 refine ⟨s1.heap.objs.size+1,[s1.heap.objs.size+1,s1.heap.objs.size],_,Ite X.K a,H1,rfl,I2,turn_enum a _ _ (Nat.succ_ne_self _),⟨⟨_,he⟩,hit⟩,fun b hb=>?_,q⟩
 have hb':b=s1.heap.objs.size+1∨b=s1.heap.objs.size:=by simpa using hb
 have hle:s1.heap.objs.size <= b:=by
  rcases hb' with rfl | rfl
  .exact yAZ _
  .exact yAA _
 exact I1.fpOk hle (I1.hok.fresh hle)
end
section
variable {K:W.Frag} {a:Addr} {xs:List V} {g:TG} {tb:TS} {D:Ends} {σ:St} {H:Hp}
def forE (K:W.Frag) (g:TG) (tb:TS) (D:Ends) (σ:St) (x:V) (H1:Hp):Prop:=∃ a,[x]=[.ref a] /\ (∃ xs,SqL K H1 a xs) /\ ∃ W:Nat->Nat->St->Hp->Prop,(∃ m,W 0 m σ H1) /\ ∀ i m σ H,W i m σ H ->
 ((Ite K a).stop i H /\ D.nx σ H)∨((Ite K a).go i H /\ ∃ N:St->Hp->Prop,(∀ σ' H',N σ' H'->∃ m',m' < m /\ W (i+1) m' σ' H') /\ ∀ x H',(Ite K a).yld i H x H'->g x σ H' fun σ2 H2=>tb { D with nx:=N,ct:=N,bk:=D.nx } σ2 H2)
theorem tForE_eq {t:TE}:tFor (ZD7 K (ZBs t tNil)) g tb D σ H=t σ H (fun x H1=>forE K g tb D σ x H1):=rfl
variable {tt:TT} {te:TE} {Q:VK} {σ0:St}
def compE (K:W.Frag) (g:TG) (tt:TT) (te:TE) (σ0:St) (Q:VK) (x:V) (H1:Hp):Prop:=∃ a,[x]=[.ref a] /\ (∃ xs,SqL K H1 a xs) /\ ∃ W:Nat->Nat->List V->St->Hp->Prop,(∃ m,W 0 m [] σ0 H1) /\ ∀ i m ys σ H,W i m ys σ H ->
 ((Ite K a).stop i H /\ ys.length <= sizeLine /\ ∀ p,H p=none->Q (.ref p) (upd H p (.lst ys))) ∨
 ((Ite K a).go i H /\ ys.length < sizeLine /\ ∀ x H',(Ite K a).yld i H x H'->g x σ H' fun σ2 H2=>tt σ2 H2 fun b H3=>if b=true then te σ2 H3 fun y H4=>∃ m',m' < m /\ W (i+1) m' (ys++[y]) σ2 H4 else ∃ m',m' < m /\ W (i+1) m' ys σ2 H3)
theorem tCompE_eq {k:Nat} {js:List Nat} {t:TE}:ZC4 k js (ZD7 K (ZBs t tNil)) g tt te σ H Q=t σ H (fun x H1=>compE K g tt te (up k js σ) Q x H1):=rfl
theorem compE_of (h:SqL K H a xs) (hz:xs.length <= 1000) (P:Nat->List V->St->Hp->Prop) (h0:P 0 [] σ0 H) (hl:∀ i ys σ H,i <= xs.length->P i ys σ H->SqL K H a xs /\ ys.length <= i)
  (hs:∀ (i:Nat) ys x σ H p,i < xs.length->xs[i]?=some x->P i ys σ H->H p=none->g (.ref p) σ (upd H p (.tup [.int i,x])) fun σ2 H2=>tt σ2 H2 fun b H3=>if b=true then te σ2 H3 fun y H4=>Nxt P xs.length i (ys++[y]) σ2 H4 else Nxt P xs.length i ys σ2 H3)
  (hd:∀ ys σ H,P xs.length ys σ H->∀ p,H p=none->Q (.ref p) (upd H p (.lst ys))):compE K g tt te σ0 Q (.ref a) H:=by
 have hz':=ZAd hz
 refine ⟨a,rfl,⟨xs,h⟩,fun i m ys σ H=>m=xs.length-i /\ i <= xs.length /\ P i ys σ H,⟨xs.length,by simp,yAH _,h0⟩,?_⟩
 rintro i m ys σ H ⟨rfl,hi,p⟩
 obtain ⟨q,ly⟩:=hl i ys σ H hi p
 by_cases hlt:i < xs.length
 .refine .inr ⟨⟨xs,xs[i],q,by simp [hlt]⟩,by omega,fun x H' y=>?_⟩
  obtain ⟨pp,x',hn,y,rfl,rfl⟩:=y
  exact hs i ys x' σ _ pp hlt (y xs q) p hn
 .have e:i=xs.length:=by omega
  subst e
  exact .inl ⟨⟨xs,q,yAA _⟩,by omega,hd ys σ H p⟩
end
abbrev FZ (o:Obj):HO:=.frz o (.ext fun _=>True)
theorem ZDj {P:Program} {w:World} {H:Hp} {h:Heap} {a:Addr} {o:Obj} (e:h.get? a=some o):ObjOk P w H h a (FZ o):=⟨e,trivial,⟨o,e⟩,fun _ _ _ _=>trivial⟩
theorem ZCe {P:Program} {w:World} {H:Hp} {h:Heap} {a:Addr} {o:Obj} (x:HOk P w H h) (e:H a=some (FZ o)):h.get? a=some o:=(x a _ e).1
def CodeAt (H:Hp) (c:Addr) (qual:Str):Prop:=∃ oc vs t,H c=some (FZ oc) /\ oc.data=.fields vs /\ vs[1]?=some (.str qual t)
theorem CodeAt.rec {P:Program} {w:World} {H:Hp} {h:Heap} {c:Addr} {qual:Str} (x:HOk P w H h) (k:CodeAt H c qual):h.CodeRec (.ref c) qual :=
 let ⟨oc,vs,t,e,d,v⟩:=k;⟨c,oc,vs,t,rfl,ZCe x e,d,v⟩
structure CloL (H:Hp) (g:Addr) (iname iq:Str) (ip:Arguments) (ib:List Stmt) (isc:Scope) (fr:List Str) (cs:List V) (cl:List (Str×Addr)):Prop where
 obj:∃ (doc pm ctv:Value) (c':Addr),H g=some (FZ (PySem.W.fnMade iname iq ip ib isc cl doc pm c' ctv)) /\ CodeAt H c' iq
 keys:∀ x c,cl.lookup x=some c->x∈fr
 inj:∀ x y c,cl.lookup x=some c->cl.lookup y=some c->x=y
 cell:∀ (i:Nat) (x:Str),fr[i]?=some x->∃ v c u o,cs[i]?=some v /\ cl.lookup x=some c /\ RelV v u /\ H c=some (FZ o) /\ o.data=.cell (some u)
 len:cs.length=fr.length
def Clo (H:Hp) (g:Addr) (iname iq:Str) (ip:Arguments) (ib:List Stmt) (isc:Scope) (fr:List Str) (cs:List V):Prop:=∃ cl,CloL H g iname iq ip ib isc fr cs cl
def ZDR (H H':Hp):Prop:=∀ b o,H b=some (FZ o)->H' b=some (FZ o)
theorem CodeAt.mono {H H':Hp} {c:Addr} {q:Str} (e:ZDR H H') (k:CodeAt H c q):CodeAt H' c q:=let ⟨oc,vs,t,a,d,v⟩:=k;⟨oc,vs,t,e _ _ a,d,v⟩
theorem CloL.mono {H H':Hp} {g:Addr} {iname iq:Str} {ip:Arguments} {ib:List Stmt} {isc:Scope} {fr:List Str} {cs:List V} {cl:List (Str×Addr)} (e:ZDR H H') (k:CloL H g iname iq ip ib isc fr cs cl):CloL H' g iname iq ip ib isc fr cs cl where
 obj:=let ⟨doc,pm,ctv,c',a,b⟩:=k.obj;⟨doc,pm,ctv,c',e _ _ a,b.mono e⟩
 keys:=k.keys
 inj:=k.inj
 cell:=fun i x h=>let ⟨v,c,u,o,a1,a2,a3,a4,a5⟩:=k.cell i x h;⟨v,c,u,o,a1,a2,a3,e _ _ a4,a5⟩
 len:=k.len
theorem Clo.mono {H H':Hp} {g:Addr} {iname iq:Str} {ip:Arguments} {ib:List Stmt} {isc:Scope} {fr:List Str} {cs:List V} (e:ZDR H H') (k:Clo H g iname iq ip ib isc fr cs):Clo H' g iname iq ip ib isc fr cs:=let ⟨cl,x⟩:=k;⟨cl,x.mono e⟩
theorem CloL.inj' {H:Hp} {g:Addr} {iname iq:Str} {ip:Arguments} {ib:List Stmt} {isc:Scope} {fr:List Str} {cs cs':List V} {cl cl':List (Str×Addr)} (k:CloL H g iname iq ip ib isc fr cs cl) (k':CloL H g iname iq ip ib isc fr cs' cl'):cs=cs':=by
 obtain ⟨d1,p1,t1,c1,e1,_⟩:=k.obj
 obtain ⟨d2,p2,t2,c2,e2,_⟩:=k'.obj
 rw [e1] at e2
 have ecl:cl=cl':=by
  have:=Option.some.inj e2
  injection this with h1 h2
  injection h1 with h3 h4 h5
  injection h5 with h6
  injection h6
 subst ecl
 refine List.ext_getElem? fun i=>?_
 by_cases hi:i < fr.length
 .obtain ⟨v,c,u,o,a1,a2,a3,a4,a5⟩:=k.cell i _ (yAR hi)
  obtain ⟨v',c',u',o',b1,b2,b3,b4,b5⟩:=k'.cell i _ (yAR hi)
  rw [a2] at b2
  cases b2
  rw [a4] at b4
  have eo:o=o':=by
   have:=Option.some.inj b4
   injection this
  subst eo
  rw [a5] at b5
  have eu:u=u':=by injection b5 with h;injection h
  subst eu
  rw [a1,b1,a3.inj b3]
 .rw [yBJ (by rw [k.len];omega),yBJ (by rw [k'.len];omega)]
open Classical in
noncomputable def hid (cl:List (Str×Addr)) (H:Hp):Hp:=fun b=>if ∃ x,cl.lookup x=some b then none else H b
open Classical in
noncomputable def back (cl:List (Str×Addr)) (H H1:Hp):Hp:=fun b=>if ∃ x,cl.lookup x=some b then H b else H1 b
theorem ZDE {cl:List (Str×Addr)} {H:Hp} {x:Str} {b:Addr} (h:cl.lookup x=some b):hid cl H b=none:=by unfold hid;rw [if_pos ⟨x,h⟩]
theorem ZCV {cl:List (Str×Addr)} {H:Hp} {b:Addr} (h:¬ ∃ x,cl.lookup x=some b):hid cl H b=H b:=by unfold hid;rw [if_neg h]
theorem ZCf {cl:List (Str×Addr)} {H H1:Hp} {x:Str} {b:Addr} (h:cl.lookup x=some b):back cl H H1 b=H b:=by unfold back;rw [if_pos ⟨x,h⟩]
theorem ZBw {cl:List (Str×Addr)} {H H1:Hp} {b:Addr} (h:¬ ∃ x,cl.lookup x=some b):back cl H H1 b=H1 b:=by unfold back;rw [if_neg h]
theorem hid_le {cl:List (Str×Addr)} {H:Hp} {b:Addr} {o:HO} (h:hid cl H b=some o):H b=some o:=by
 by_cases q:∃ x,cl.lookup x=some b
 .obtain ⟨x,q⟩:=q;rw [ZDE q] at h;cases h
 .rw [ZCV q] at h;exact h
def ZEB (cl:List (Str×Addr)) (H:Hp):Prop:=∀ x c,cl.lookup x=some c->∃ u o,H c=some (FZ o) /\ o.data=.cell u
theorem CloL.cells {H:Hp} {g:Addr} {iname iq:Str} {ip:Arguments} {ib:List Stmt} {isc:Scope} {fr:List Str} {cs:List V} {cl:List (Str×Addr)} (k:CloL H g iname iq ip ib isc fr cs cl):ZEB cl H:=fun x c h=>by
 obtain ⟨i,hi⟩:=List.getElem?_of_mem (k.keys x c h)
 obtain ⟨v,c2,u,o,_,h2,_,h4,h5⟩:=k.cell i x hi
 rw [h] at h2
 cases h2
 exact ⟨_,o,h4,h5⟩
theorem ZBq {cl:List (Str×Addr)} {H:Hp} {b:Addr} {o:HO} (C:ZEB cl H) (h:H b=some o) (n:∀ ob,o≠FZ ob):hid cl H b=some o:=by
 rw [ZCV,h]
 rintro ⟨x,q⟩
 obtain ⟨u,ob,e,_⟩:=C x b q
 rw [h] at e
 exact n ob (Option.some.inj e)
theorem hid_none {cl:List (Str×Addr)} {H:Hp} {b:Addr} (C:ZEB cl H) (h:hid cl H b=none) (n:¬ ∃ x,cl.lookup x=some b):H b=none:=by rw [ZCV n] at h;exact h
theorem back_upd {cl:List (Str×Addr)} {H H1:Hp} {l:Addr} {o:HO} (n:¬ ∃ x,cl.lookup x=some l):back cl H (upd H1 l o)=upd (back cl H H1) l o:=by
 funext b
 by_cases q:∃ x,cl.lookup x=some b
 .have:b≠l:=fun e=>n (e ▸ q)
  obtain ⟨x,q⟩:=q
  rw [ZCf q,ZAF this,ZCf q]
 .rw [ZBw q]
  by_cases e:b=l
  .subst e;rw [ZAH,ZAH]
  .rw [ZAF e,ZAF e,ZBw q]
theorem back_hid {cl:List (Str×Addr)} {H:Hp}:back cl H (hid cl H)=H:=by
 funext b
 by_cases q:∃ x,cl.lookup x=some b
 .obtain ⟨x,q⟩:=q;rw [ZCf q]
 .rw [ZBw q,ZCV q]
def NoC (cl:List (Str×Addr)) (H:Hp):Prop:=∀ x c,cl.lookup x=some c->H c=none
structure CloScope (N ps fr:List Str) (sc:Scope):Prop where
 kind:sc.kind=.function
 co:sc.isCoroutine=false
 gen:sc.isGenerator=false
 nd:N.Nodup
 pre:N.take ps.length=ps
 suf:N.drop (N.length-fr.length)=fr
 two:ps.length+fr.length <= N.length
 par:∀ x∈ps,sc.names.lookup x=some .local
 nocell:∀ y∈sc.names,y.2≠.cell
 free:∀ x∈fr,sc.names.lookup x=some .free
 only:∀ x,sc.names.lookup x=some .free->x∈fr
def ZB3 (N:List Str) (vs cs:List V):St:=vs.map some++(List.replicate (N.length-vs.length-cs.length) none++cs.map some)
def ZDX (P:Program) (w:World) (K:W.Frag) (mg:Str->Option Value) (base:Heap) (N:List Str) (qual:Str) (scope:Scope) (f:Addr) (cd:Value) (cl:List (Str×Addr)) (A:Around) (outer:List Env) (s:Shared) (H:Hp):Cx where
 prog:=P
 w:=w
 K:=K
 mg:=mg
 base:=base
 A:=A.deeper (PySem.W.envX qual scope s.heap.objs.size f cd cl)
 N:=N
 s₀:=s
 H₀:=H
 env:=PySem.W.envX qual scope s.heap.objs.size f cd cl
 outer:=outer
 stack:=PySem.W.envX qual scope s.heap.objs.size f cd cl::outer
 ex:=[]
 calm:=true
 fn:=fun _=>false
 pn:=[]
 xe:=fun _ _=>False
theorem startC_get {N:List Str} {vs cs:List V} {i:Nat} {v:V} (hl:vs.length+cs.length <= N.length) (h:(ZB3 N vs cs)[i]?=some (some v)) :
  vs[i]?=some v∨(N.length-cs.length <= i /\ cs[i-(N.length-cs.length)]?=some v):=by
 unfold ZB3 at h
 by_cases h1:i < vs.length
 .rw [yAU (by simpa using h1),yAQ] at h
  cases e:vs[i]? with
  | none=>rw [e] at h;cases h
  | some a=>rw [e] at h;cases h;exact .inl rfl
 .rw [yBD (by simpa using Nat.le_of_not_lt h1),yAD] at h
  by_cases h2:i-vs.length < N.length-vs.length-cs.length
  .rw [yAU (by simpa using h2),List.getElem?_replicate,if_pos h2] at h
   cases h
  .rw [yBD (by simpa using Nat.le_of_not_lt h2),yBQ,yAQ] at h
   right
   refine ⟨by omega,?_⟩
   rw [show i-(N.length-cs.length)=i-vs.length-(N.length-vs.length-cs.length) by omega]
   cases e:cs[i-vs.length-(N.length-vs.length-cs.length)]? with
   | none=>rw [e] at h;cases h
   | some a=>rw [e] at h;cases h;rfl
theorem zip_fst_sub:∀ (ps:List Str) (us:List Value),((ps.zip us).map (·.1)).Sublist ps
 | [],_=>by simp
 | p::ps,[]=>by simp
 | p::ps,u::us=>by rw [List.zip_cons_cons,yAX];exact (zip_fst_sub ps us).cons₂ p
theorem lookup_nodup {α:Type}:∀ {cs:List (Str×α)} {n:Str} {c:α},(cs.map (·.1)).Nodup->(n,c)∈cs->cs.lookup n=some c
 | (m,d)::r,n,c,hn,h=>by
  rw [yAX] at hn
  have hn':=List.nodup_cons.mp hn
  rw [yBL]
  rcases yAF.mp h with e | h
  .cases e;simp
  .have:n≠m:=fun z=>hn'.1 (z ▸ List.mem_map_of_mem (f:=(·.1)) h)
   have:(n == m)=false:=by simpa using this
   rw [this]
   exact lookup_nodup hn'.2 h
theorem zip_lookup {ps:List Str} {us:List Value} (nd:ps.Nodup) {i:Nat} {x:Str} {u:Value} (h1:ps[i]?=some x) (h2:us[i]?=some u):((ps.zip us).reverse).lookup x=some u:=by
 have hm:(x,u)∈(ps.zip us).reverse:=by
  rw [List.mem_reverse]
  refine yAO (i:=i) ?_
  rw [List.getElem?_zip_eq_some]
  exact ⟨h1,h2⟩
 have hnd:((ps.zip us).reverse.map (·.1)).Nodup:=by
  rw [List.map_reverse]
  exact List.pairwise_reverse.mpr (List.Pairwise.imp (fun h=>Ne.symm h) (nd.sublist (zip_fst_sub ps us)))
 exact lookup_nodup hnd hm
section
variable {P:Program} {w:World} {K:W.Frag} {mg:Str->Option Value} {base:Heap} {A:Around} {outer:List Env} {s:Shared} {H:Hp} {g:Addr} {iname iq:Str} {ip:Arguments} {ib:List Stmt} {isc:Scope} {N ps fr:List Str} {cs vs:List V} {us:List Value} {cl:List (Str×Addr)} {k:Nat}
theorem clo_call {Q:VK} (C:CloL H g iname iq ip ib isc fr cs cl) (S:CloScope N ps fr isc) (hr:Room (k+1) A) (e0:Env0 P w K mg base A outer s H) (hl:vs.length=ps.length) (r:Vals vs us)
  (hbind:∀ (doc pm ctv:Value) (c':Addr),bindArgs (PySem.W.fnX iname iq ip ib isc cl .none .none doc pm none (.ref c') ctv) ⟨us,[]⟩=pure (ps.zip us))
  (hbody:∀ (cd:Value) (A':Around),Room k A'->∃ t,PSs (ZDX P w K mg base N iq isc g cd cl A outer s (hid cl H)) ib t /\ t { nx:=fun _ H'=>NoC cl H'->Q .non (back cl H H'),rt:=fun v H'=>NoC cl H'->Q v (back cl H H') } (ZB3 N vs cs) (hid cl H)) :
  codeAny (model P w) A (.call (.ref g) ⟨us,[]⟩) (fun r s'=>match r with | .ok (.ret u)=>CE outer P w H s Q u s' | _=>False) s:=by
 obtain ⟨doc,pm,ctv,c',hg,hc⟩:=C.obj
 have hget:=ZCe e0.hok hg
 have lim:s.heap.NoLimit:=e0.mod.nolimit.keeps fun b o e=>(e0.bs b o e).1
 have hnd:ps.Nodup:=by rw [<- S.pre];exact S.nd.sublist (List.take_sublist _ _)
 refine codeAny_call_def (o:=PySem.W.fnMade iname iq ip ib isc cl doc pm c' ctv) (fd:=PySem.W.fnX iname iq ip ib isc cl .none .none doc pm none (.ref c') ctv) (body:=ib) (binds:=ps.zip us) hr.depth hget rfl lim (hc.rec e0.hok) rfl (.of_eq (hbind doc pm ctv c')) S.nocell (fun y hy=>S.par _ (List.of_mem_zip hy).1) (fun h₁ hns hk₁=>?_) S.co S.gen S.kind
 obtain ⟨t,ht,hq⟩:=hbody (.ref c') _ (hr.deeper (PySem.W.envX iq isc s.heap.objs.size g (.ref c') cl))
 have cellAt:∀ x c,cl.lookup x=some c->∃ o u,H c=some (FZ o) /\ s.heap.get? c=some o /\ o.data=.cell u:=fun x c h=>by
  obtain ⟨u,o,e,d⟩:=C.cells x c h
  exact ⟨o,u,e,ZCe e0.hok e,d⟩
 have cfs:∀ x c,cl.lookup x=some c->c∉frs outer:=fun x c h hb=>by
  obtain ⟨o,u,e,_⟩:=cellAt x c h
  rw [e0.frf c hb] at e;cases e
 have hpl:ps.length <= N.length:=by have:=S.two;omega
 have I:Inv (ZDX P w K mg base N iq isc g (.ref c') cl A outer s (hid cl H)) [] (ZB3 N vs cs) (hid cl H) { s with heap:=h₁,toks:=s.toks+(ps.zip us).length }:=by
  refine ⟨⟨e0.mod,S.kind,rfl,rfl,yAA _,C.inj,fun x hx=>?_,fun y c h=>absurd h (by simp [ZDX]),fun _=>hr.hd,Around.frames_deeper e0.frames,.inr ⟨rfl,rfl⟩,fun b z=>absurd (show b∈([]:List Addr) from z) (by simp),fun b o e=>?_,e0.bsz,fun b _ _ z=>absurd (show b∈([]:List Addr) from z) (by simp),fun b z=>absurd (show b∈([]:List Addr) from z) (by simp),e0.funs,fun b hb=>?_⟩,
   rfl,e0.bare,Un.kept hk₁,⟨_,hns,fun i x v h1 h2 h3=>?_⟩,fun x c h=>?_,?_,fun x c h=>ZDE h,fun p hp=>absurd (show p∈([]:List (Addr×Obj)) from hp) (by simp),?_,?_⟩
  .have hx:isc.names.lookup x=some .cell∨isc.names.lookup x=some .free:=hx
   rcases hx with hx | hx
   .exact absurd rfl (S.nocell _ (PySem.mem_of_lookup hx))
   .obtain ⟨i,hi⟩:=List.getElem?_of_mem (S.only x hx)
    obtain ⟨v,c,u,o,_,h2,_⟩:=C.cell i x hi
    exact ⟨c,h2⟩
  .refine ⟨(e0.bs b o e).1,?_⟩
   show hid cl H b=none
   by_cases q:∃ x,cl.lookup x=some b
   .obtain ⟨x,q⟩:=q;exact ZDE q
   .rw [ZCV q];exact (e0.bs b o e).2
  .show hid cl H b=none
   rw [ZCV]
   .exact e0.frf b hb
   .rintro ⟨x,q⟩;exact cfs x b q hb
  .have h1:N[i]?=some x:=h1
   have hcl:=C.len
   rcases startC_get (by rw [hl,hcl];exact S.two) h2 with h4 | ⟨h4,h5⟩
   .obtain ⟨u,hu,rv⟩:=r.get h4
    have hi:i < vs.length:=(yAJ.mp h4).1
    have hp:ps[i]?=some x:=by rw [<- S.pre,List.getElem?_take_of_lt (by omega)];exact h1
    exact ⟨u,rv,.inl ⟨S.par x (yAO hp),zip_lookup hnd hp hu⟩⟩
   .have hf:fr[i-(N.length-cs.length)]?=some x:=by
     rw [<- S.suf,List.getElem?_drop,<- hcl,show N.length-cs.length+(i-(N.length-cs.length))=i by omega]
     exact h1
    obtain ⟨v',c,u,o,a1,a2,a3,a4,a5⟩:=C.cell _ x hf
    rw [h5] at a1
    cases a1
    refine ⟨u,a3,.inr ⟨.inr (S.free x (yAO hf)),c,a2,o,hk₁ _ _ (ZCe e0.hok a4),a5⟩⟩
  .obtain ⟨o,u,e,e2,d⟩:=cellAt x c h
   exact ⟨u,o,hk₁ _ _ e2,d⟩
  .show hid cl H s.heap.objs.size=none
   have hn:=e0.hok.fresh (yAA _)
   rw [ZCV]
   .exact hn
   .rintro ⟨x,q⟩
    obtain ⟨o,u,e,_⟩:=cellAt x _ q
    rw [hn] at e;cases e
  .intro b o e
   have e':=hid_le e
   refine (e0.hok b o e').stay (fun c v _ q=>hk₁ c v q) (fun c q=>?_) fun c xs q=>?_
   .exact ZBq C.cells q (fun ob z=>by cases z)
   .exact ZBq C.cells q (fun ob z=>by cases z)
  .unfold ZB3
   show _=N.length
   have:=S.two
   have:=C.len
   simp only [yAB,yAD,yBQ]
   omega
 refine wpAny_mono (ht [] _ (ZB3 N vs cs) (hid cl H) _ I hq) (fun fl s' hs=>?_) fun e s' hs=>False.elim hs
 have fin:∀ {σ':St} {H':Hp} {v:V} {u:Value},Inv (ZDX P w K mg base N iq isc g (.ref c') cl A outer s (hid cl H)) [] σ' H' s'->RelV v u->(NoC cl H'->Q v (back cl H H'))->CE outer P w H s Q u s' :=
  fun {σ' H' v u} J rv q=>by
   have un:Un (frs outer) [] (hid cl H) H' s.heap s'.heap:=J.base
   have nex:∀ b:Addr,b∉([]:List Addr):=fun b=>by simp
   have keepC:∀ x c o,cl.lookup x=some c->s.heap.get? c=some o->s'.heap.get? c=some o:=fun x c o h e=>un.keep c o e (ZDE h) (cfs x c h) (nex c)
   have freeC:∀ x c,cl.lookup x=some c->H' c=none:=fun x c h=>by
    obtain ⟨o,u,e,e2,d⟩:=cellAt x c h
    exact un.free c o e2 (ZDE h) (nex c)
   refine ⟨v,back cl H H',J.os,J.bare,⟨fun b o e n hb hx=>?_,fun b o e n hb hx=>?_,fun b o e n hx=>?_,un.there,fun b xs e=>?_,fun b o u' e=>?_,fun b ps' e=>?_⟩,fun b o e=>?_,rv,q freeC⟩
   .refine un.keep b o e ?_ hb hx
    by_cases q:∃ x,cl.lookup x=some b
    .obtain ⟨x,q⟩:=q;exact ZDE q
    .rw [ZCV q];exact n
   .refine un.slot b o e ?_ hb hx
    by_cases q:∃ x,cl.lookup x=some b
    .obtain ⟨x,q⟩:=q;exact ZDE q
    .rw [ZCV q];exact n
   .have nc:¬ ∃ x,cl.lookup x=some b:=by
     rintro ⟨x,q⟩
     obtain ⟨o,u,e,_⟩:=cellAt x b q
     rw [n] at e;cases e
    rw [ZBw nc]
    exact un.free b o e (by rw [ZCV nc];exact n) hx
   .have e2:=un.tups b xs (ZBq C.cells e (fun ob z=>by cases z))
    rw [ZBw]
    .exact e2
    .rintro ⟨x,q⟩;rw [freeC x b q] at e2;cases e2
   .by_cases q:∃ x,cl.lookup x=some b
    .obtain ⟨x,q⟩:=q;rw [ZCf q];exact e
    .rw [ZBw q];exact un.frzs b o u' (by rw [ZCV q];exact e)
   .obtain ⟨more,e2⟩:=un.tbls b ps' (ZBq C.cells e (fun ob z=>by cases z))
    refine ⟨more,?_⟩
    rw [ZBw]
    .exact e2
    .rintro ⟨x,q⟩;rw [freeC x b q] at e2;cases e2
   .have up:∀ c oc,H' c=some oc->back cl H H' c=some oc:=fun c oc q=>by
     rw [ZBw]
     .exact q
     .rintro ⟨x,z⟩;rw [freeC x c z] at q;cases q
    by_cases q:∃ x,cl.lookup x=some b
    .obtain ⟨x,q⟩:=q
     rw [ZCf q] at e
     obtain ⟨o2,u2,e2,e3,d⟩:=cellAt x b q
     rw [e] at e2
     cases e2
     exact ZDj (keepC x b _ q e3)
    .rw [ZBw q] at e
     exact (J.hok b o e).stay (fun c v _ q=>q) (fun c q=>up c _ q) fun c xs q=>up c _ q
 cases fl with
 | ret u=>
  obtain ⟨v,σ',H',J,rv,q⟩:=hs
  exact fin J rv q
 | next=>
  obtain ⟨σ',H',J,q⟩:=hs
  exact fin (v:=V.non) (u:=Value.none) J rfl q
 | brk=>
  obtain ⟨_,_,_,q⟩:=hs
  exact False.elim q
 | cont=>
  obtain ⟨_,_,_,q⟩:=hs
  exact False.elim q
end
def ZDb (r:V->List V->Hp->VK->Prop) (ta:TE) (t:TA):TE:=fun σ H Q=>ta σ H fun f H1=>(∃ g o,f=.ref g /\ H1 g=some (FZ o) /\ ∃ fd,o.data=.func fd) /\ t σ H1 fun vs H2=>r f vs H2 Q
def CloR (X:Cx) (r:V->List V->Hp->VK->Prop):Prop :=
 ∀ (pins:List (Addr×Obj)) (s:Shared) (σ:St) (H:Hp) (f:Addr) (vs:List V) (us:List Value) (Q:VK),Inv X pins σ H s->Vals vs us->r (.ref f) vs H Q ->
  PySem.W.FnAt f s.heap /\ wpAny (model X.prog X.w) X.A (call (.ref f) us) (EP X pins σ Q) X.xe s
theorem fnAt_of {h:Heap} {g:Addr} {o:Obj} {fd:FuncData} (e:h.get? g=some o) (d:o.data=.func fd):PySem.W.FnAt g h:=by
 obtain ⟨oc,od,dt,sl⟩:=o
 have d':dt=.func fd:=d
 subst d'
 exact ⟨oc,od,fd,sl,e⟩
theorem pe_callV {X:Cx} {x:Str} {p pos:Pos} {e:Expr} {es:List Expr} {ta:TE} {t:TA} {r:V->List V->Hp->VK->Prop} (hc:CloR X r) (hx:PE X (.Name x p) ta) (ha:PA X (e::es) t)
  (he:starEach (e::es) X.env=(false,eval e X.env)::starEach es X.env:=by rfl) (hpl:(backTo pos (starEach es X.env)).any (·.1)=false:=by rfl):PE X (.Call (.Name x p) (e::es) [] pos) (ZDb r ta t):=by
 intro pins s σ H Q I h
 refine wpAny_Call_Name_kw (thn (hx pins s σ H _ I h) fun v s1 ⟨f,H1,I1,rf,⟨g,o,eg,hg,fd,hd⟩,q⟩=>?_)
 subst eg
 cases rf
 refine PySem.W.callWith_F (fnAt_of (ZCe I1.hok hg) hd) (thn (ha pos pins s1 σ H1 _ I1 q) fun us s2 ⟨vs,H2,I2,r2,q2⟩=>?_) he hpl
 exact hc pins s2 σ H2 g vs us Q I2 r2 q2
structure CloOk (P:Program) (w:World) (K:W.Frag) (mg:Str->Option Value) (base:Heap) (k:Nat) (r:V->List V->Hp->VK->Prop):Prop where
 run:∀ (A:Around) (outer:List Env) (s:Shared) (H:Hp) (f:Addr) (vs:List V) (us:List Value) (Q:VK),Room k A->Env0 P w K mg base A outer s H->Vals vs us->r (.ref f) vs H Q ->
  PySem.W.FnAt f s.heap /\ codeAny (model P w) A (.call (.ref f) ⟨us,[]⟩) (fun r s'=>match r with | .ok (.ret u)=>CE outer P w H s Q u s' | _=>False) s
theorem CloOk.at {X:Cx} {k:Nat} {r:V->List V->Hp->VK->Prop} (C:CloOk X.prog X.w X.K X.mg X.base k r) (hr:Room k X.A):CloR X r:=by
 intro pins s σ H f vs us Q I rv h
 obtain ⟨h1,h2⟩:=C.run X.A X.stack s H f vs us Q hr I.env0 rv h
 refine ⟨h1,wpAny_call (codeAny_mono h2 fun r s' hq=>?_)⟩
 cases r with
 | error e=>exact False.elim hq
 | ok fl=>
  cases fl with
  | ret u=>exact I.after hq
  | next=>exact False.elim hq
  | brk=>exact False.elim hq
  | cont=>exact False.elim hq
theorem Clo.fnAt {P:Program} {w:World} {H:Hp} {h:Heap} {g:Addr} {iname iq:Str} {ip:Arguments} {ib:List Stmt} {isc:Scope} {fr:List Str} {cs:List V} {cl:List (Str×Addr)} (x:HOk P w H h) (C:CloL H g iname iq ip ib isc fr cs cl):PySem.W.FnAt g h:=by
 obtain ⟨doc,pm,ctv,c',e,_⟩:=C.obj
 exact fnAt_of (ZCe x e) rfl
theorem clo_of {P:Program} {w:World} {K:W.Frag} {mg:Str->Option Value} {base:Heap} {iname iq:Str} {ip:Arguments} {ib:List Stmt} {isc:Scope} {N ps fr:List Str} {k:Nat} {r:V->List V->Hp->VK->Prop} (S:CloScope N ps fr isc)
  (hcl:∀ f vs H Q,r f vs H Q->∃ g cs,f=.ref g /\ Clo H g iname iq ip ib isc fr cs) (len:∀ f vs H Q,r f vs H Q->vs.length=ps.length)
  (hbind:∀ (cl:List (Str×Addr)) (doc pm ctv:Value) (c':Addr) (us:List Value),us.length=ps.length->bindArgs (PySem.W.fnX iname iq ip ib isc cl .none .none doc pm none (.ref c') ctv) ⟨us,[]⟩=pure (ps.zip us))
  (hbody:∀ (g:Addr) (cs:List V) (cl:List (Str×Addr)) (cd:Value) (A:Around) (outer:List Env) (s:Shared) (H:Hp) (vs:List V) (Q:VK),Room k (A.deeper (PySem.W.envX iq isc s.heap.objs.size g cd cl))->CloL H g iname iq ip ib isc fr cs cl->r (.ref g) vs H Q ->
   ∃ t,PSs (ZDX P w K mg base N iq isc g cd cl A outer s (hid cl H)) ib t /\ t { nx:=fun _ H'=>NoC cl H'->Q .non (back cl H H'),rt:=fun v H'=>NoC cl H'->Q v (back cl H H') } (ZB3 N vs cs) (hid cl H)):CloOk P w K mg base (k+1) r:=by
 refine ⟨fun A outer s H f vs us Q hr e0 rv h=>?_⟩
 obtain ⟨g,cs,eg,cl,C⟩:=hcl _ _ _ _ h
 cases eg
 have hl:=len _ _ _ _ h
 refine ⟨Clo.fnAt e0.hok C,clo_call (k:=k) C S hr e0 hl rv (fun doc pm ctv c'=>hbind cl doc pm ctv c' us (by rw [<- rv.length];exact hl)) fun cd A' hr'=>?_⟩
 exact hbody f cs cl cd A outer s H vs Q (hr.deeper _) C h
theorem NoC.ne {cl:List (Str×Addr)} {H:Hp} {b:Addr} {o:HO} (n:NoC cl H) (h:H b=some o):¬ ∃ x,cl.lookup x=some b:=fun ⟨x,e⟩=>by rw [n x b e] at h;cases h
def TabSt (H:Hp) (Pt:Addr) (pos:Pos) (iq:Str):Prop:=H Pt=some (.tbl #[])∨∃ c',H Pt=some (.tbl #[rawInt pos.line,rawInt pos.col,.ref c']) /\ CodeAt H c' iq
theorem TabSt.mono {H H':Hp} {Pt:Addr} {pos:Pos} {iq:Str} (e:H' Pt=H Pt) (f:ZDR H H') (k:TabSt H Pt pos iq):TabSt H' Pt pos iq:=by
 rcases k with k | ⟨c',k,q⟩
 .exact .inl (e.trans k)
 .exact .inr ⟨c',e.trans k,q.mono f⟩
def ZC3 (mg:Str->Option Value) (h:Heap):Prop:=∃ bm ob,mg "__builtins__"=some (.ref bm) /\ bm≠builtinsNs /\ h.get? bm=some ob /\ ob.cls=.type "module" /\ ob.dict=some builtinsNs /\ ob.data=.plain
structure MadeDef (H H':Hp) (Pt:Addr) (pos:Pos) (g:Addr) (iname iq:Str) (ip:Arguments) (ib:List Stmt) (isc:Scope) (fr:List Str) (cs:List V):Prop where
 same:∀ b o,b≠Pt->H b=some o->H' b=some o
 tab:TabSt H' Pt pos iq
 clo:Clo H' g iname iq ip ib isc fr cs
 fresh:H g=none
section
variable {X:Cx} {pins:List (Addr×Obj)} {σ:St} {H:Hp} {s:Shared}
structure MadeMid (H H':Hp) (Pt:Addr) (pos:Pos) (g:Addr) (iname iq:Str) (ip:Arguments) (ib:List Stmt) (isc:Scope) (cl:List (Str×Addr)):Prop where
 same:∀ b o,b≠Pt->H b=some o->H' b=some o
 tab:TabSt H' Pt pos iq
 obj:∃ (doc pm ctv:Value) (c':Addr),H' g=some (FZ (PySem.W.fnMade iname iq ip ib isc cl doc pm c' ctv)) /\ CodeAt H' c' iq
 fresh:H g=none
theorem Inv.made3 (I:Inv X pins σ H s) {Pt c':Addr} {ps more:Array Value} {h':Heap} {oc fo:Obj} {tk:Nat} (hP:H Pt=some (.tbl ps)) (hx:Heap.ExtBut Pt s.heap h') (hge:s.heap.objs.size <= c') (hlt:c' < h'.objs.size) (hoc:h'.get? c'=some oc)
  (hPt:h'.get? Pt=some (PySem.W.tabObj (ps++more))) (hfo:fo.isFreed=false):Inv X pins σ (upd (upd (upd H Pt (.tbl (ps++more))) c' (FZ oc)) h'.objs.size (FZ fo)) { s with heap:=h'.push fo,toks:=tk }:=by
 have gn:∀ b o,s.heap.get? b=some o->b≠h'.objs.size /\ b≠c':=fun b o e=>by
  have l:=Heap.lt_size e
  exact ⟨yAM (Nat.lt_trans (yAP l hge) hlt),yAM (yAP l hge)⟩
 have gt:∀ b o,H b=some o->b≠h'.objs.size /\ b≠c':=fun b o e=>by
  have l:=I.hok.lt e
  exact ⟨yAM (Nat.lt_trans (yAP l hge) hlt),yAM (yAP l hge)⟩
 have np:∀ b,H b=none->b≠Pt:=fun b n z=>by rw [z,hP] at n;cases n
 have cg:c'≠h'.objs.size:=yAM hlt
 have old:∀ b o,b≠Pt->H b=some o->upd (upd (upd H Pt (.tbl (ps++more))) c' (FZ oc)) h'.objs.size (FZ fo) b=some o:=fun b o n e=>by
  rw [ZAF (gt b o e).1,ZAF (gt b o e).2,ZAF n];exact e
 have atP:upd (upd (upd H Pt (.tbl (ps++more))) c' (FZ oc)) h'.objs.size (FZ fo) Pt=some (.tbl (ps++more)):=by
  rw [ZAF (gt Pt _ hP).1,ZAF (gt Pt _ hP).2,ZAH]
 refine I.un (h':=h'.push fo) (t':=tk) ⟨fun b o e n _ _=>?_,fun b o e n _ _=>?_,fun b o e n _=>?_,fun b o e _=>?_,fun b xs e=>?_,fun b o u e=>?_,fun b qs e=>?_⟩ fun b o e=>?_
 .exact Heap.get?_push_of_some _ (hx b o (np b n) e)
 .exact ⟨o.slots,Heap.get?_push_of_some _ (hx b o (np b n) e)⟩
 .rw [ZAF (gn b o e).1,ZAF (gn b o e).2,ZAF (np b n)];exact n
 .by_cases q:b=Pt
  .subst q;exact ⟨_,Heap.get?_push_of_some _ hPt⟩
  .exact ⟨o,Heap.get?_push_of_some _ (hx b o q e)⟩
 .exact old b _ (fun z=>by rw [z,hP] at e;cases e) e
 .exact old b _ (fun z=>by rw [z,hP] at e;cases e) e
 .by_cases q:b=Pt
  .subst q
   rw [hP] at e
   cases e
   exact ⟨more,atP⟩
  .exact ⟨#[],by rw [old b _ q e];simp⟩
 .by_cases q1:b=h'.objs.size
  .subst q1;rw [ZAH] at e;cases e;exact ZDj (Heap.get?_push_size _ hfo)
  .rw [ZAF q1] at e
   by_cases q2:b=c'
   .subst q2;rw [ZAH] at e;cases e;exact ZDj (Heap.get?_push_of_some _ hoc)
   .rw [ZAF q2] at e
    by_cases q3:b=Pt
    .subst q3;rw [ZAH] at e;cases e;exact Heap.get?_push_of_some _ hPt
    .rw [ZAF q3] at e
     refine (I.hok b o e).stay (fun c u hc q=>?_) (fun c q=>?_) fun c xs q=>?_
     .refine Heap.get?_push_of_some _ (hx c u ?_ q)
      rcases hc with z | z
      .rw [z];exact q3
      .intro z2;rw [z2,hP] at z;cases z
     .exact old c _ (fun z=>by rw [z,hP] at q;cases q) q
     .exact old c _ (fun z=>by rw [z,hP] at q;cases q) q
theorem Inv.made1 (I:Inv X pins σ H s) {h':Heap} {fo:Obj} {tk:Nat} (hk:∀ b o,s.heap.get? b=some o->h'.get? b=some o) (hsz:s.heap.objs.size <= h'.objs.size) (hfo:fo.isFreed=false):Inv X pins σ (upd H h'.objs.size (FZ fo)) { s with heap:=h'.push fo,toks:=tk } :=
 I.laid (fun b u q=>Heap.get?_push_of_some _ (hk b u q)) hsz (ZDj (Heap.get?_push_size _ hfo))
def tDef (i:Nat) (Pt:Addr) (pos:Pos) (iname iq:Str) (ip:Arguments) (ib:List Stmt) (isc:Scope) (cl:List (Str×Addr)):TS:=fun D σ H=>TabSt H Pt pos iq /\ ∀ g H',MadeMid H H' Pt pos g iname iq ip ib isc cl->D.nx (σ.set i (some (.ref g))) H'
theorem ps_def {i:Nat} {Pt c:Addr} {pos:Pos} {iname iq:Str} {ip:Arguments} {ib:List Stmt} {isc:Scope} (hN:X.N.Nodup) (hi:X.N[i]?=some iname) (hx:Loc X.env.scope iname) (hf:X.fn iname=true∨X.env.scope.names.lookup iname=some .local)
  (hcode:X.env.code=.ref c) (C:PySem.W.CodeHd X.base c Pt) (B:ZC3 X.mg X.base) (hq:qualnameIn X.env iname iname=iq) (hd0:ip.defaults=[]) (hk0:ip.kw_defaults=[]) (ha:annTrees ip none X.env=[])
  (hfr:∀ x,(x,NameKind.free)∈isc.names->∃ c,X.env.cells.lookup x=some c) :
  PS X (.FunctionDef iname ip ib [] none [] isc none iname pos) (tDef i Pt pos iname iq ip ib isc (closFrom X.env.cells isc.names [])):=by
 intro pins s σ H D I h
 obtain ⟨ht,h⟩:=h
 refine PySem.W.nestDef_K hd0 hk0 ha ?_
 rw [hq]
 have hgs:=I.ok.mod.glob.keeps I.bk
 have hC:=C.keeps I.bk
 have hcl:=closureFor_eq (scope:=isc) (env:=X.env) hfr
 obtain ⟨bm,ob,b1,b2,b3,b4,b5,b6⟩:=B
 have hbG:bm≠mainGlobals:=fun q=>by
  obtain ⟨o,es,ep,e,hd,_⟩:=I.ok.mod.glob
  rw [q,e] at b3;cases b3;rw [hd] at b6;cases b6
 have apart:∀ {qs:Array Value},s.heap.get? Pt=some (PySem.W.tabObj qs)->mainGlobals≠Pt /\ s.heap.BuiltinsAt X.mg Pt:=fun {qs} hm=>by
  refine ⟨fun q=>?_,bm,ob,b1,b2,hbG,fun q=>?_,I.bk _ _ b3,b4,b5,b6⟩
  .obtain ⟨o,es,ep,e,hd,_⟩:=hgs
   rw [q,hm] at e;cases e;cases hd
  .have e:=I.bk _ _ b3
   rw [q,hm] at e;cases e;cases b4
 have fin:∀ {g:Addr} {H':Hp} {s':Shared},Inv X pins σ H' s'->MadeMid H H' Pt pos g iname iq ip ib isc (closFrom X.env.cells isc.names []) ->
   wpAny (model X.prog X.w) X.A (storeName X.env iname (.ref g)) (fun _ s''=>SP X pins D .next s'') X.xe s':=fun {g H' s'} J M=>
  ZCK J hN hi hx (v:=.ref g) rfl (fun s'' J'=>⟨_,H',J',h g H' M⟩) hf
 rcases ht with ht | ⟨c1,ht,hc1⟩
 .have hP:s.heap.get? Pt=some (PySem.W.tabObj #[]):=I.hok Pt _ ht
  obtain ⟨a1,a2⟩:=apart hP
  refine PySem.W.makeFunction_K hcl I.ok.glob hgs hcode hC hP trivial rfl a1 a2 fun c' ctv doc h' tk hx2 hge hlt hrec htb=>?_
  obtain ⟨c2,oc,vs,t,e2,hoc,hd,hv⟩:=hrec
  cases e2
  have J:=I.made3 (tk:=tk) (fo:=PySem.W.fnMade iname iq ip ib isc (closFrom X.env.cells isc.names []) doc ((X.mg "__name__").getD .none) c' ctv) ht hx2 hge hlt hoc htb rfl
  have gt:∀ b o,H b=some o->b≠h'.objs.size /\ b≠c':=fun b o e=>by
   have l:=I.hok.lt e
   exact ⟨yAM (Nat.lt_trans (yAP l hge) hlt),yAM (yAP l hge)⟩
  have hcc:CodeAt (upd (upd (upd H Pt (.tbl (#[]++#[rawInt pos.line,rawInt pos.col,.ref c']))) c' (FZ oc)) h'.objs.size (FZ (PySem.W.fnMade iname iq ip ib isc (closFrom X.env.cells isc.names []) doc ((X.mg "__name__").getD .none) c' ctv))) c' iq :=
   ⟨oc,vs,t,by rw [ZAF (yAM hlt),ZAH],hd,hv⟩
  refine fin J ⟨fun b o n e=>?_,.inr ⟨c',?_,hcc⟩,⟨doc,_,ctv,c',ZAH,hcc⟩,?_⟩
  .rw [ZAF (gt b o e).1,ZAF (gt b o e).2,ZAF n];exact e
  .rw [ZAF (gt Pt _ ht).1,ZAF (gt Pt _ ht).2,ZAH];rfl
  .exact I.hok.fresh (yAI hge (yBI hlt))
 .have hP:s.heap.get? Pt=some (PySem.W.tabObj #[rawInt pos.line,rawInt pos.col,.ref c1]):=I.hok Pt _ ht
  obtain ⟨a1,a2⟩:=apart hP
  refine PySem.W.makeFunction_hit (cv:=.ref c1) hcl I.ok.glob hgs hcode hC hP trivial ?_ a2 fun ctv doc h' tk hk hsz=>?_
  .simp [codeAmong,rawInt]
  have J:=I.made1 (tk:=tk) (fo:=PySem.W.fnMade iname iq ip ib isc (closFrom X.env.cells isc.names []) doc ((X.mg "__name__").getD .none) c1 ctv) hk hsz rfl
  have gt:∀ b o,H b=some o->b≠h'.objs.size:=fun b o e=>yAM (yAP (I.hok.lt e) hsz)
  have old:∀ b o,H b=some o->upd H h'.objs.size (FZ (PySem.W.fnMade iname iq ip ib isc (closFrom X.env.cells isc.names []) doc ((X.mg "__name__").getD .none) c1 ctv)) b=some o:=fun b o e=>by rw [ZAF (gt b o e)];exact e
  have hcc:=hc1.mono (H':=upd H h'.objs.size (FZ (PySem.W.fnMade iname iq ip ib isc (closFrom X.env.cells isc.names []) doc ((X.mg "__name__").getD .none) c1 ctv))) fun b o e=>old b _ e
  exact fin J ⟨fun b o _ e=>old b o e,.inr ⟨c1,old _ _ ht,hcc⟩,⟨doc,_,ctv,c1,ZAH,hcc⟩,I.hok.fresh hsz⟩
end
def ZDH (Pt:Addr) (pos:Pos) (iname iq:Str) (ip:Arguments) (ib:List Stmt) (isc:Scope) (fr:List Str) (ix:List Nat) (n:Nat):Sp:=fun vs H Q _=>
 vs.length=n /\ TabSt H Pt pos iq /\ ∀ g H',MadeDef H H' Pt pos g iname iq ip ib isc fr (ix.map fun i=>vs.getD i .non)->Q (.ref g) H'
theorem teller_ok {P:Program} {w:World} {K:W.Frag} {mg:Str->Option Value} {base:Heap} {x qual:Str} {st:Stmt} {f c Pt:Addr} {fd:FuncData} {ps:List Str} {iname iq:Str} {ip:Arguments} {ib:List Stmt} {isc:Scope} {pos rp rpos:Pos} {fr:List Str} {ix:List Nat}
  (F:Fun K x qual st f fd) (S:FnScope (ps++[iname]) ps (ZAC st)) (hcd:fd.code=.ref c) (C:PySem.W.CodeHd base c Pt) (B:ZC3 mg base)
  (hb:ZAK st=[.FunctionDef iname ip ib [] none [] isc none iname pos,.Return (some (.Name iname rp)) rpos]) (hiq:∀ L cd,qualnameIn (envOfC qual (ZAC st) L f cd) iname iname=iq) (hd0:ip.defaults=[]) (hk0:ip.kw_defaults=[]) (ha:∀ L cd,annTrees ip none (envOfC qual (ZAC st) L f cd)=[])
  (hloc:(ZAC st).names.lookup iname=some .local) (hdb:(iname == ("__debug__":Str))=false) (hcdn:(iname == ("__classdict__":Str))=false)
  (hfree:∀ y∈isc.names,y.2=.free->y.1∈fr) (hhas:∀ y∈fr,(y,NameKind.free)∈isc.names) (hfc:∀ y∈fr,(ZAC st).names.lookup y=some .cell) (hix:∀ (j:Nat) (y:Str),fr[j]?=some y->∃ i,ix[j]?=some i /\ ps[i]?=some y) (hixl:ix.length=fr.length) :
  FnOk P w K mg base CX0 1 f fd ps (ZDH Pt pos iname iq ip ib isc fr ix ps.length):=by
 obtain ⟨oc,od,kV,doc,pm,an,cdv,ct,osl,rfl,lk,hcd2⟩:=F.ex
 have hcd':cdv=.ref c:=hcd
 refine ⟨fun vs H Q E h=>h.1,fun A outer s H args us vs Q E hr e0 hbn r hsp=>?_⟩
 obtain ⟨hl,hT,hQ⟩:=hsp
 have KX:K.In s.heap:=e0.mod.kin.keeps fun b o e=>(e0.bs b o e).1
 have lim:s.heap.NoLimit:=e0.mod.nolimit.keeps fun b o e=>(e0.bs b o e).1
 have hkind:∀ y∈ps.zip us,(ZAC st).names.lookup y.1=some .local∨((ZAC st).names.lookup y.1=some .cell /\ ((cellsFrom (s.heap.objs.size+1) (ZAC st).names []).lookup y.1).isSome=true):=fun ⟨n,v⟩ hy=>by
  rcases S.par n (List.of_mem_zip hy).1 with q | q
  .exact .inl q
  .exact .inr ⟨q,PySem.W.cellsFrom_some _ _ _ (.inl q)⟩
 refine codeAny_call_function hr.depth (KX _ _ lk) rfl S.co S.gen rfl (PySem.W.codeRec_of KX hcd2) (hbn _ _ _ _ ?_)
 refine wpAny_newFunctionEnv_cells S.kind hkind fun env he s1 xx=>?_
 subst he
 refine ⟨lim.keeps xx.toInCall.keep,codeAny_func ?_⟩
 have I:Inv (cxOf CX0 P w K mg base (ps++[iname]) qual (ZAC st) f cdv A outer s H E).nox [] (start (ps++[iname]) vs) H s1:=(inv_start S hr.hd e0 hl r xx).wish _
 have cellHas:∀ y∈fr,∃ cc,(cellsFrom (s.heap.objs.size+1) (ZAC st).names []).lookup y=some cc:=fun y hy=>ZCN (hfc y hy)
 rw [hb]
 have hiN:(ps++[iname])[ps.length]?=some iname:=by simp
 have d1:=ps_def (X:=(cxOf CX0 P w K mg base (ps++[iname]) qual (ZAC st) f cdv A outer s H E).nox) (i:=ps.length) (pos:=pos) (Pt:=Pt) (c:=c) (iq:=iq) (ip:=ip) (ib:=ib) (isc:=isc) S.nd hiN (.inl hloc) (.inr hloc) hcd' C B (hiq _ _) hd0 hk0 (ha _ _) fun y hy=>cellHas y (hfree _ hy rfl)
 have hlen:(start (ps++[iname]) vs).length=ps.length+1:=by
  unfold start
  simp only [yAB,yAD,yBQ,yAG,yBR]
  omega
 have run:=d1 [] s1 (start (ps++[iname]) vs) H { nx:=fun σ' H'=>∃ g,σ'=(start (ps++[iname]) vs).set ps.length (some (.ref g)) /\ MadeMid H H' Pt pos g iname iq ip ib isc (closFrom (cellsFrom (s.heap.objs.size+1) (ZAC st).names []) isc.names []),rt:=fun _ _=>False } I ⟨hT,fun g H' M=>⟨g,rfl,M⟩⟩
 refine wpAny_execs_cons (wpAny_mono run (fun fl s2 q=>?_) fun e s' z=>z.elim)
 cases fl with
 | ret v=>obtain ⟨_,_,_,_,_,q⟩:=q;exact q.elim
 | brk=>obtain ⟨_,_,_,q⟩:=q;exact q.elim
 | cont=>obtain ⟨_,_,_,q⟩:=q;exact q.elim
 | next=>
  obtain ⟨σ',H',J,g,rfl,M⟩:=q
  have v1:=pe_var (pos:=rp) (X:=(cxOf CX0 P w K mg base (ps++[iname]) qual (ZAC st) f cdv A outer s H E).nox) hiN (.inl hloc) hdb hcdn [] s2 _ H' (fun v H2=>v=.ref g /\ H2=H') J ⟨.ref g,by rw [List.getElem?_set_self (by rw [hlen];omega)],rfl,rfl⟩
  refine wpAny_execs_cons (wpAny_Return_some (wpAny_mono v1 (fun u s3 q=>?_) fun e s' z=>z.elim))
  obtain ⟨v,H2,J2,rv,rfl,rfl⟩:=q
  cases rv
  have un:Un (frs outer) [] H H2 s.heap s3.heap:=J2.base
  have nex:∀ b:Addr,b∉([]:List Addr):=fun b=>by simp
  have inj:=J2.ok.inj
  have cAt:∀ (j:Nat) (y:Str),fr[j]?=some y->∃ v cc uu,(ix.map fun i=>vs.getD i .non)[j]?=some v /\ (cellsFrom (s.heap.objs.size+1) (ZAC st).names []).lookup y=some cc /\ RelV v uu /\ s3.heap.IsCell cc (some uu):=fun j y hj=>by
   obtain ⟨i,h1,h2⟩:=hix j y hj
   have hi:i < ps.length:=(yAJ.mp h2).1
   obtain ⟨v,hv⟩:∃ v,vs[i]?=some v:=⟨_,yAR (by omega)⟩
   obtain ⟨m,_,hm⟩:=J2.loc
   have hs:((start (ps++[iname]) vs).set ps.length (some (.ref g)))[i]?=some (some v):=by
    rw [List.getElem?_set_ne (by omega)]
    unfold start
    rw [yAU (by rw [yAD];omega),yAQ,hv]
    rfl
   have hN:(ps++[iname])[i]?=some y:=by rw [yAU hi];exact h2
   obtain ⟨uu,ru,lk2⟩:=hm i y v hN hs (.inr (.inl (hfc y (yAO hj))))
   refine ⟨v,?_⟩
   rcases lk2 with ⟨k1,_⟩ | ⟨_,cc,e1,e2⟩
   .have k2:(ZAC st).names.lookup y=some .local:=k1
    rw [hfc y (yAO hj)] at k2
    cases k2
   .refine ⟨cc,uu,?_,e1,ru,e2⟩
    rw [yAQ,h1]
    show some (vs.getD i .non)=some v
    rw [yBA,hv]
    rfl
  have clk:∀ y cc,(closFrom (cellsFrom (s.heap.objs.size+1) (ZAC st).names []) isc.names []).lookup y=some cc->y∈fr /\ (cellsFrom (s.heap.objs.size+1) (ZAC st).names []).lookup y=some cc:=fun y cc h=>by
   rcases ZBR _ _ y cc (PySem.mem_of_lookup h) with z | ⟨z1,z2⟩
   .cases z
   .have hy:=hfree _ z1 rfl
    obtain ⟨c3,h3⟩:=cellHas y hy
    rw [h3] at z2
    exact ⟨hy,by rw [h3];exact congrArg some z2.symm⟩
  have clh:∀ y cc,y∈fr->(cellsFrom (s.heap.objs.size+1) (ZAC st).names []).lookup y=some cc->(closFrom (cellsFrom (s.heap.objs.size+1) (ZAC st).names []) isc.names []).lookup y=some cc:=fun y cc hy h=>by
   obtain ⟨c3,h3⟩:=ZBK (ZBS (cells:=cellsFrom (s.heap.objs.size+1) (ZAC st).names []) isc.names [] y (hhas y hy))
   have:=(clk y c3 h3).2
   rw [h] at this
   rw [h3,Option.some.inj this]
  have cnew:∀ y cc,(closFrom (cellsFrom (s.heap.objs.size+1) (ZAC st).names []) isc.names []).lookup y=some cc->s.heap.objs.size <= cc /\ H2 cc=none /\ ∃ o u,s3.heap.get? cc=some o /\ o.data=.cell u:=fun y cc h=>by
   obtain ⟨hy,h2⟩:=clk y cc h
   obtain ⟨u,o,e1,e2⟩:=J2.cell y cc h2
   exact ⟨yBI (xx.above y cc (PySem.mem_of_lookup h2)),J2.freeC y cc h2,o,u,e1,e2⟩
  generalize closFrom (cellsFrom (s.heap.objs.size+1) (ZAC st).names []) isc.names []=cl at M clk clh cnew
  have tr:∀ b,¬ (∃ y,cl.lookup y=some b)->back cl (fun b=>(s3.heap.get? b).map FZ) H2 b=H2 b:=fun b n=>ZBw n
  have tc:∀ y b o,cl.lookup y=some b->s3.heap.get? b=some o->back cl (fun b=>(s3.heap.get? b).map FZ) H2 b=some (FZ o):=fun y b o h e=>by rw [ZCf h,e];rfl
  have oldn:∀ b,b < s.heap.objs.size->¬ ∃ y,cl.lookup y=some b:=fun b hb ⟨y,z⟩=>absurd (cnew y b z).1 (Nat.not_le.mpr hb)
  have up:∀ b o,H2 b=some o->back cl (fun b=>(s3.heap.get? b).map FZ) H2 b=some o:=fun b o e=>by
   rw [tr b fun ⟨y,z⟩=>by rw [(cnew y b z).2.1] at e;cases e];exact e
  refine ⟨.ref g,back cl (fun b=>(s3.heap.get? b).map FZ) H2,J2.os,J2.bare,⟨un.keep,un.slot,fun b o e n hx=>?_,un.there,fun b xs e=>up _ _ (un.tups b xs e),fun b o u e=>up _ _ (un.frzs b o u e),fun b qs e=>?_⟩,fun b o e=>?_,rfl,hQ g _ ⟨fun b o n e=>up _ _ (M.same b o n e),?_,⟨cl,?_,fun y cc h=>(clk y cc h).1,fun y z cc h1 h2=>inj y z cc (clk y cc h1).2 (clk z cc h2).2,fun j y hj=>?_,?_⟩,M.fresh⟩⟩
  .rw [tr b (oldn b (Heap.lt_size e))];exact un.free b o e n hx
  .obtain ⟨more,e2⟩:=un.tbls b qs e
   exact ⟨more,up _ _ e2⟩
  .by_cases q:∃ y,cl.lookup y=some b
   .obtain ⟨y,q⟩:=q
    obtain ⟨_,_,o2,u2,e2,_⟩:=cnew y b q
    rw [tc y b o2 q e2] at e
    cases e
    exact ZDj e2
   .rw [tr b q] at e
    exact (J2.hok b o e).stay (fun c v _ q=>q) (fun c q=>up c _ q) fun c xs q=>up c _ q
  .exact M.tab.mono (by
    rcases M.tab with z | ⟨_,z,_⟩
    .rw [z];exact up _ _ z
    .rw [z];exact up _ _ z) fun b o e=>up b _ e
  .obtain ⟨d1,d2,d3,c3,e1,e2⟩:=M.obj
   exact ⟨d1,d2,d3,c3,up _ _ e1,e2.mono fun b o e=>up b _ e⟩
  .obtain ⟨v,cc,uu,a1,a2,a3,o,a4,a5⟩:=cAt j y hj
   have hl2:=clh y cc (yAO hj) a2
   exact ⟨v,cc,uu,o,a1,hl2,a3,tc y cc o hl2 a4,a5⟩
  .rw [yAD];exact hixl
def ZEA (tabs:List (Addr×Addr)) (H:Hp):Prop:=∀ q∈tabs,H q.2=some (.tbl #[])
theorem law_callT {P:Program} {w:World} {K:W.Frag} {mg mb:Str->Option Value} {CX:CXT} {k:Nat} {fa a:Addr} {fd:FuncData} {x:Str} {sp:Sp} {s₁:Shared} {vs:List Value} {ns:List Int} {tabs:List (Addr×Addr)}
  (KX:K.In s₁.heap) (hns:s₁.heap.Ns mainGlobals mg) (hb:s₁.heap.Ns builtinsNs mb) (hbb:∀ x:Str,x≠"__name__"->mb x=bootBuiltins x) (hlim:s₁.heap.NoLimit) (hg:s₁.gens=#[])
  (ha:s₁.heap.get? a=some { cls:=.type "list",data:=.seq vs.toArray }) (hi:IntsAre vs ns) (hl:ns.length <= sizeLine) (hr:Room k callerA)
  (hT:∀ q∈tabs,PySem.W.CodeHd s₁.heap q.1 q.2 /\ s₁.heap.get? q.2=some (PySem.W.tabObj #[])) (nt:PySem.W.noTabs K=true) (hbm:ZC3 mg s₁.heap)
  (F:∀ base:Heap,K.In base->base.Ns mainGlobals mg->(∀ q∈tabs,PySem.W.CodeHd base q.1 q.2)->ZC3 mg base->FnOk P w K mg base CX k fa fd [x] sp) (hbind:∀ (s:Shared) (u:Value),BindsTo s fd ⟨[u],[]⟩ [(x,u)])
  (hsp:∀ H:Hp,ZEA tabs H->SqL K H a (ns.map V.int)->sp [.ref a] H (fun v _=>v=.bl true) fun _ _ _=>False)
  (hCX:∀ H e s',CX [] H s₁ (fun _ _ _=>False) e s'->False) :
  codeAny (model P w) callerA (.call (.ref fa) ⟨[.ref a],[]⟩) (fun r s'=>r=.ok (.ret (.bool true)) /\ OldK s₁.heap s'.heap /\ s'.os=s₁.os /\ AllBare s'.gens) s₁:=by
 have rv:=ZCP hi
 have lenV:=hi.length
 have core:∀ H:Hp,SqL K H a (ns.map V.int)->HOk P w H s₁.heap->(∀ b o,H b=some o->(b=a /\ K.lookup a=none /\ ∃ ob xs,o=.frz ob (.lst xs))∨(o=.tbl #[] /\ ∃ q∈tabs,q.2=b))->ZEA tabs H ->
   codeAny (model P w) callerA (.call (.ref fa) ⟨[.ref a],[]⟩) (fun r s'=>r=.ok (.ret (.bool true)) /\ OldK s₁.heap s'.heap /\ s'.os=s₁.os /\ AllBare s'.gens) s₁:=by
  intro H hS hok hA hO
  have base_of:∀ {b:Addr} {o:Obj},s₁.heap.get? b=some o->H b=none->(hidT s₁.heap H).get? b=some o:=fun e n=>hidT_get e n
  have noObj:∀ {b:Addr} {o:Obj},s₁.heap.get? b=some o->(∀ vs' n',o.data≠.seq vs' n')->(o.cls=.none->∀ vs',o.data≠.fields vs')->H b=none:=fun {b o} e d1 d2=>by
   cases q:H b with
   | none=>rfl
   | some u=>
    rcases hA b u q with ⟨e',_⟩ | ⟨_,q',hq,e'⟩
    .subst e'
     rw [ha] at e;cases e
     exact absurd rfl (d1 _ _)
    .subst e'
     rw [(hT q' hq).2] at e;cases e
     exact absurd rfl (d2 rfl _)
  have nsK:∀ {b:Addr} {m:Str->Option Value},s₁.heap.Ns b m->(hidT s₁.heap H).Ns b m:=fun {b m} ⟨o,es,ep,e,d,r⟩=>⟨o,es,ep,base_of e (noObj e (by rw [d];intro _ _ z;cases z) (fun _=>by rw [d];intro _ z;cases z)),d,r⟩
  have hKb:K.In (hidT s₁.heap H):=fun b o e=>base_of (KX b o e) (by
   cases q:H b with
   | none=>rfl
   | some u=>
    rcases hA b u q with ⟨e',n,_⟩ | ⟨_,q',hq,e'⟩
    .subst e';rw [n] at e;cases e
    .subst e'
     have e2:=KX _ _ e
     rw [(hT q' hq).2] at e2
     cases e2
     have h2:=List.all_eq_true.mp nt _ (PySem.W.mem_of_lookupK e)
     exact absurd (show false=true from h2) yAW)
  have hM:Mod K mg (hidT s₁.heap H):=⟨hKb,nsK hns,⟨mb,nsK hb,hbb⟩,let ⟨mc,h1,h2⟩:=hlim;⟨mc,nsK h1,h2⟩⟩
  have e0:Env0 P w K mg (hidT s₁.heap H) callerA [] s₁ H:=⟨rfl,hM,fun b o e=>of_hidT e,Nat.le_of_eq (hidT_size _ _),trivial,fun b hb=>absurd (show b∈([]:List Addr) from hb) (by simp),hok,.of_eq hg⟩
  have hC:∀ q∈tabs,PySem.W.CodeHd (hidT s₁.heap H) q.1 q.2:=fun q hq=>by
   obtain ⟨o,vs,file,tf,flags,tg,inF,text,tt,e1,e2,e3,r⟩:=(hT q hq).1
   exact ⟨o,vs,file,tf,flags,tg,inF,text,tt,base_of e1 (noObj e1 (by rw [e3];intro _ _ z;cases z) (fun z=>by rw [e2] at z;cases z)),e2,e3,r⟩
  have hB:ZC3 mg (hidT s₁.heap H):=by
   obtain ⟨bm,ob,b1,b2,b3,b4,b5,b6⟩:=hbm
   exact ⟨bm,ob,b1,b2,base_of b3 (noObj b3 (by rw [b6];intro _ _ z;cases z) (fun z=>by rw [b4] at z;cases z)),b4,b5,b6⟩
  refine codeAny_mono ((F _ hKb (nsK hns) hC hB).run callerA [] s₁ H ⟨[.ref a],[]⟩ [.ref a] [.ref a] _ _ hr e0 (hbind s₁ (.ref a)) (.cons rfl .nil) (hsp H hO hS)) fun r s' h=>?_
  cases r with
  | error e=>exact (hCX H e s' h).elim
  | ok fl=>
   cases fl with
   | next=>exact False.elim h
   | brk=>exact False.elim h
   | cont=>exact False.elim h
   | ret u=>
    obtain ⟨v,H',os,bare,un,hok',r',q⟩:=h
    have q':v=.bl true:=q
    subst q'
    obtain rfl:u=Value.bool true:=r'
    have nfs:∀ b:Addr,b∉frs ([]:List Env):=fun b z=>absurd (show b∈([]:List Addr) from z) (by simp)
    refine ⟨rfl,⟨fun b o e=>?_,fun b o e=>un.there b o e (by simp)⟩,os,bare⟩
    cases q:H b with
    | none=>exact .inl (un.keep b o e q (nfs b) (by simp))
    | some u=>
     rcases hA b u q with ⟨_,_,ob,xs,z⟩ | ⟨z,q',hq,e'⟩
     .subst z
      have z2:=un.frzs b ob _ q
      obtain ⟨e1,_⟩:=hok b _ q
      obtain ⟨e2,_⟩:=hok' b _ z2
      rw [e] at e1;cases e1
      exact .inl e2
     .subst z
      subst e'
      obtain ⟨more,z2⟩:=un.tbls _ _ q
      have e2:s'.heap.get? q'.2=some (PySem.W.tabObj (#[]++more)):=hok' _ _ z2
      have e3:=(hT q' hq).2
      rw [e] at e3
      have e4:o=PySem.W.tabObj #[]:=Option.some.inj e3
      subst e4
      exact .inr (.inl ⟨((hT q' hq).1.tab (hT q' hq).2).isCodeTable,rfl,#[],more,rfl,e2⟩)
 have tabA:∀ q∈tabs,q.2≠a:=fun q hq z=>by
  have e:=(hT q hq).2
  rw [z,ha] at e;cases e
 cases hk:K.lookup a with
 | some o=>
  have e:=KX a o hk
  rw [ha] at e
  cases e
  refine core (fun b=>if b∈tabs.map (·.2) then some (.tbl #[]) else none) (.inr ⟨_,vs.toArray,_,hk,rfl,rfl,rfl,by rw [yAK,lenV];exact hl,by simpa using rv⟩) (fun b u z=>?_) (fun b u z=>?_) fun q hq=>if_pos (List.mem_map_of_mem hq)
  .by_cases hb:b∈tabs.map (·.2)
   .have z':=(if_pos hb).symm.trans z
    cases z'
    obtain ⟨q,hq,rfl⟩:=yBM.mp hb
    exact (hT q hq).2
   .have z':=(if_neg hb).symm.trans z
    cases z'
  .by_cases hb:b∈tabs.map (·.2)
   .have z':=(if_pos hb).symm.trans z
    cases z'
    obtain ⟨q,hq,e⟩:=yBM.mp hb
    exact .inr ⟨rfl,q,hq,e⟩
   .have z':=(if_neg hb).symm.trans z
    cases z'
 | none=>
  refine core (fun b=>if b∈tabs.map (·.2) then some (.tbl #[]) else if b=a then some (.frz { cls:=.type "list",data:=.seq vs.toArray } (.lst (ns.map V.int))) else none) (.inl (.inr ⟨{ cls:=.type "list",data:=.seq vs.toArray },?_⟩)) (fun b u z=>?_) (fun b u z=>?_) fun q hq=>if_pos (List.mem_map_of_mem hq)
  .dsimp only
   rw [if_neg,if_pos rfl]
   intro z
   obtain ⟨q,hq,e⟩:=yBM.mp z
   exact tabA q hq e
  .by_cases hb:b∈tabs.map (·.2)
   .have z':=(if_pos hb).symm.trans z
    cases z'
    obtain ⟨q,hq,rfl⟩:=yBM.mp hb
    exact (hT q hq).2
   .have z':=(if_neg hb).symm.trans z
    by_cases hba:b=a
    .have z':=(if_pos hba).symm.trans z'
     cases z'
     subst hba
     exact ⟨ha,by rw [yAD];exact hl,vs,_,rv,ha⟩
    .have z':=(if_neg hba).symm.trans z'
     cases z'
  .by_cases hb:b∈tabs.map (·.2)
   .have z':=(if_pos hb).symm.trans z
    cases z'
    obtain ⟨q,hq,e⟩:=yBM.mp hb
    exact .inr ⟨rfl,q,hq,e⟩
   .have z':=(if_neg hb).symm.trans z
    by_cases hba:b=a
    .have z':=(if_pos hba).symm.trans z'
     cases z'
     exact .inl ⟨hba,hk,_,_,rfl⟩
    .have z':=(if_neg hba).symm.trans z'
     cases z'
def ZDd (K:W.Frag) (tabs:List (Addr×Addr)):Sp:=fun vs H Q _=>∃ (a:Addr) (ns:List Int),vs=[.ref a] /\ SqL K H a (ns.map V.int) /\ ns.length <= 63 /\ ZEA tabs H /\ ∀ H',Q (.bl true) H'
theorem tabIn_of {K:W.Frag} {x:Str} {f c Pt:Addr} {oc oc2:Value} {od od2:Option Addr} {fd:FuncData} {sl sl2:Array (Option Value)} {vs:Array Value} (a:W.nsIn K mainGlobals x=some (some (.ref f))) (l:K.lookup f=some ⟨oc,od,.func fd,sl⟩) (hc:fd.code=.ref c)
  (lc:K.lookup c=some ⟨oc2,od2,.fields vs,sl2⟩) (tp:vs[11]?=some (.ref Pt)):PySem.W.tabIn K x=some (c,Pt):=by
 unfold PySem.W.tabIn
 rw [a]
 dsimp only
 rw [l]
 dsimp only
 rw [hc]
 dsimp only
 rw [lc]
 dsimp only
 rw [tp]
theorem walk_ofT2 {l:PySem.W.OpenLaw} {k:Nat} {q:Program} {loose:List Str} {XP:(Str->Option Value)->Heap->Prop} {YP:World->Heap->Prop} {d:DefRec} {K:Params->W.Frag} {x:Str} {names:List Str}
  (hn:l.most=some 63) (hdf:d.params.defaults=[]) (hr:Room k callerA)
  (hY:∀ (w:World) (h:Heap),YP w h->(K w.params).In h) (hrec:∀ y∈names,∃ dr,(recsOf q).find? (fun e=>e.name == y)=some dr)
  (F:∀ (w:World) (mg:Str->Option Value) (fa:Addr) (h:Heap),(K w.params).In h->h.Ns mainGlobals mg->mg d.name=some (.ref fa) ->
   ∃ (tabs:List (Addr×Addr)) (fd:FuncData),PySem.W.noTabs (K w.params)=true /\ (∀ t∈tabs,∃ y∈names,PySem.W.tabIn (K w.params) y=some t) /\ (∀ (s:Shared) (u:Value),BindsTo s fd ⟨[u],[]⟩ [(x,u)]) /\
    ∀ base:Heap,(K w.params).In base->base.Ns mainGlobals mg->(∀ t∈tabs,PySem.W.CodeHd base t.1 t.2)->ZC3 mg base->FnOk l.prog w (K w.params) mg base CX0 k fa fd [x] (ZDd (K w.params) tabs)) :
  PySem.W.WalkO q loose XP YP l.row.toRowW d [] (fun f vs=>PySem.call f vs):=by
 refine Att.attach_call hn hdf fun w s₀ s₁ mg mb fa o pm cd doc a vs ns G Y ho hd hcd hmg hobj hints hlen hg=>?_
 have KX:=hY w _ Y
 obtain ⟨tabs,fd,nt,ht,hb,hF⟩:=F w mg fa _ KX G.T.g hmg
 refine law_callT (tabs:=tabs) KX G.T.g G.T.b G.T.builtins G.T.nolimit hg hobj hints (yAI hlen (by decide)) hr (fun t h2=>?_) nt G.T.bmain hF hb (fun H hO hS=>⟨a,ns,rfl,hS,hlen,hO,fun _=>rfl⟩) fun H e s' z=>z
 obtain ⟨y,hy,e2⟩:=ht t h2
 obtain ⟨dr,e1⟩:=hrec y hy
 exact PySem.W.tab_of G.T KX e1 e2
theorem hix_of {ix:List Nat} {ps fr:List Str} (h:ix.map (fun i=>ps[i]?)=fr.map some):∀ (j:Nat) (y:Str),fr[j]?=some y->∃ i,ix[j]?=some i /\ ps[i]?=some y:=fun j y e=>by
 have:=congrArg (fun l=>l[j]?) h
 simp only [yAQ,e,Option.map_some] at this
 cases q:ix[j]? with
 | none=>rw [q] at this;cases this
 | some i=>rw [q] at this;exact ⟨i,rfl,by simpa using this⟩
def inBody (s:Stmt) (j:Nat):Stmt:=(ZAK s).getD j (.Pass ⟨0,0,0,0⟩)
def ZDk (s:Stmt):Pos:=match s with
 | .FunctionDef _ _ _ _ _ _ _ _ _ pos=>pos
 | _=>⟨0,0,0,0⟩
theorem cx_cloK {P:Program} {w:World} {K:W.Frag} {mg:Str->Option Value} {base:Heap} {N:List Str} {qual:Str} {scope:Scope} {f:Addr} {cd:Value} {cl:List (Str×Addr)} {A:Around} {outer:List Env} {s:Shared} {H:Hp}:(ZDX P w K mg base N qual scope f cd cl A outer s H).K=K:=rfl
section
variable {prog:Program} {w:World} {A:Around} {R:Result->Shared->Prop} {I:Addr} {fp wr:List Addr} {n:Nat} {P:Nat->Value->Prop} {St:Nat->Heap->Prop}
end
section
variable {prog:Program} {w:World} {A:Around} {E:Value->Shared->Prop} {s:Shared} {l:Addr}
end
def maxD (d:Int):List Int->Int
 | []=>d
 | x::r=>r.foldl (fun m y=>if m < y then y else m) x
section
variable {X:Cx} {e d:Expr} {te td:TE} {p pos:Pos} {kpos:Pos}
def tMaxD (K:W.Frag) (te td:TE):TE:=fun σ H Q=>te σ H fun x H1=>td σ H1 fun y H2=>∃ a ns dd,x=.ref a /\ y=.int dd /\ SqL K H2 a (ns.map V.int) /\ Q (.int (maxD dd ns)) H2
end
theorem lkc {k k':Str} {v:V} {r:List (Str×V)}:List.lookup k ((k',v)::r)=if k=k' then some v else List.lookup k r:=by
 rw [yBL]
 by_cases h:k=k'
 .subst h;simp
 .have:(k == k')=false:=by simpa using h
  rw [this,if_neg h]
theorem ZBV {f:Str} {v u:V}:∀ {fs:List (Str×V)},fs.lookup f=some u->(putF f v fs).length=fs.length
 | [],h=>by cases h
 | (g,w)::r,h=>by
  unfold putF
  by_cases e:g=f
  .rw [if_pos e];rfl
  .rw [if_neg e,yAG,yAG]
   rw [lkc,if_neg (fun z=>e z.symm)] at h
   rw [ZBV h]
structure Ins (H:Hp) (a C:Addr) (fl:List (Str×V)):Prop where
 ex:∃ dx fs,H a=some (.ins C dx fs) /\ fs.length <= 50 /\ ∀ f,fs.lookup f=fl.lookup f
theorem Ins.of {H:Hp} {a C dx:Addr} {fl:List (Str×V)} (h:H a=some (.ins C dx fl)) (hl:fl.length <= 50):Ins H a C fl:=⟨dx,fl,h,hl,fun _=>rfl⟩
theorem Ins.congr {H:Hp} {a C:Addr} {fl fl':List (Str×V)} (h:Ins H a C fl) (e:∀ f,fl.lookup f=fl'.lookup f):Ins H a C fl':=let ⟨dx,fs,h1,h2,h3⟩:=h.ex;⟨dx,fs,h1,h2,fun f=>(h3 f).trans (e f)⟩
theorem Ins.mono {H H':Hp} {a C:Addr} {fl:List (Str×V)} (h:Ins H a C fl) (s:Same H H'):Ins H' a C fl:=let ⟨dx,fs,h1,h2,h3⟩:=h.ex;⟨dx,fs,s _ _ h1,h2,h3⟩
theorem Ins.keep {H H':Hp} {a C:Addr} {fl:List (Str×V)} (h:Ins H a C fl) (s:H' a=H a):Ins H' a C fl:=let ⟨dx,fs,h1,h2,h3⟩:=h.ex;⟨dx,fs,s.trans h1,h2,h3⟩
theorem Ins.ne {H:Hp} {a b C:Addr} {fl:List (Str×V)} {o:HO} (h:Ins H a C fl) (hb:H b=some o) (n:∀ C dx fs,o≠.ins C dx fs):b≠a:=fun z=>by
 obtain ⟨dx,fs,h1,_⟩:=h.ex
 rw [z,h1] at hb
 exact n _ _ _ (Option.some.inj hb).symm
theorem Ins.neN {H:Hp} {a b C:Addr} {fl:List (Str×V)} (h:Ins H a C fl) (hb:H b=none):b≠a:=fun z=>by
 obtain ⟨dx,fs,h1,_⟩:=h.ex
 rw [z,h1] at hb;cases hb
section
variable {K:W.Frag} {f:Str} {a C:Addr} {fl:List (Str×V)} {v:V} {H:Hp}
theorem Ins.get {Q:VK} (h:Ins H a C fl) (cl:Cls K C) (n:NoAttr K C f) (l:fl.lookup f=some v) (q:Q v H):getF K f (.ref a) H Q:=by
 obtain ⟨dx,fs,h1,h2,h3⟩:=h.ex
 exact getF_of h1 cl n ((h3 f).trans l) q
theorem Ins.set {Q:Hp->Prop} (h:Ins H a C fl) (cl:Cls K C) (n:NoAttr K C f) (q:∀ H',Ins H' a C (putF f v fl)->(∀ b,b≠a->H' b=H b)->Q H') (hl:∃ u,fl.lookup f=some u):setF K f (.ref a) v H Q:=by
 obtain ⟨dx,fs,h1,h2,h3⟩:=h.ex
 obtain ⟨u,hu⟩:=hl
 refine setF_of h1 cl n (by omega) (q _ ⟨dx,_,ZAH,?_,fun g=>?_⟩ fun b hb=>ZAF hb)
 .rw [ZBV ((h3 f).trans hu)];exact h2
 .rw [ZAZ,ZAZ,h3]
theorem Ins.meth {m:Str} {R:Prop} (h:Ins H a C fl) (l:fl.lookup m=none) (q:R):∃ b dx fs,V.ref a=.ref b /\ H b=some (.ins C dx fs) /\ fs.lookup m=none /\ R:=by
 obtain ⟨dx,fs,h1,h2,h3⟩:=h.ex
 exact ⟨a,dx,fs,rfl,h1,(h3 m).trans l,q⟩
end
def augA (K:W.Frag) (tv:TE) (rd:V->V->Hp->VK->Prop) (f:Str) (D:Ends) (σ:St) (x:V) (H1:Hp):Prop:=∃ a C dx fs v,x=.ref a /\ H1 a=some (.ins C dx fs) /\ Cls K C /\ NoAttr K C f /\ fs.lookup f=some v /\
 tv σ H1 fun y H2=>rd v y H2 fun z H3=>∃ dx' fs',H3 a=some (.ins C dx' fs') /\ fs'.length < 1000 /\ D.nx σ (upd H3 a (.ins C dx' (putF f z fs')))
theorem sFldAug_eq {K:W.Frag} {ta tv:TE} {rd:V->V->Hp->VK->Prop} {f:Str} {D:Ends} {σ:St} {H:Hp}:sFldAug K ta tv rd f D σ H=ta σ H (fun x H1=>augA K tv rd f D σ x H1):=rfl
theorem Ins.aug {K:W.Frag} {f:Str} {a C:Addr} {fl:List (Str×V)} {i j:Int} {H:Hp} {D:Ends} {σ:St} (h:Ins H a C fl) (cl:Cls K C) (n:NoAttr K C f) (l:fl.lookup f=some (.int i))
  (q:∀ H',Ins H' a C (putF f (.int (i+j)) fl)->(∀ b,b≠a->H' b=H b)->D.nx σ H'):augA K (tC (.int j)) rAdd f D σ (.ref a) H:=by
 obtain ⟨dx,fs,h1,h2,h3⟩:=h.ex
 refine ⟨a,C,dx,fs,_,rfl,h1,cl,n,(h3 f).trans l,i,j,rfl,rfl,dx,fs,h1,by omega,q _ ⟨dx,_,ZAH,?_,fun g=>?_⟩ fun b hb=>ZAF hb⟩
 .rw [ZBV ((h3 f).trans l)];exact h2
 .rw [ZAZ,ZAZ,h3]
theorem setX {K:W.Frag} {f:Str} {a C dx:Addr} {fs:List (Str×V)} {v:V} {H:Hp} {Q:Hp->Prop} (h:H a=some (.ins C dx fs)) (cl:Cls K C) (n:NoAttr K C f) (hl:fs.length <= 20) (q:∀ H',H' a=some (.ins C dx (putF f v fs))->(∀ b,b≠a->H' b=H b)->Q H'):setF K f (.ref a) v H Q :=
 setF_of h cl n (by omega) (q _ ZAH fun b hb=>ZAF hb)
theorem ZAP {f:Str} {v:V} {fs:List (Str×V)} {n:Nat} (h:fs.length <= n):(putF f v fs).length <= n+1:=yAI (ZB1 f v fs) (Nat.succ_le_succ h)
theorem ZDp {f0:Str} {v0:V}:(putF f0 v0 []).length <= 20:=yAI (ZAP (yAA 0)) (by decide)
theorem ZDo {f0 f1:Str} {v0 v1:V}:(putF f1 v1 (putF f0 v0 [])).length <= 20:=yAI (ZAP (ZAP (yAA 0))) (by decide)
theorem ZDn {f0 f1 f2:Str} {v0 v1 v2:V}:(putF f2 v2 (putF f1 v1 (putF f0 v0 []))).length <= 20:=yAI (ZAP (ZAP (ZAP (yAA 0)))) (by decide)
theorem ZD2 {f0 f1 f2 f3:Str} {v0 v1 v2 v3:V}:(putF f3 v3 (putF f2 v2 (putF f1 v1 (putF f0 v0 [])))).length <= 20:=yAI (ZAP (ZAP (ZAP (ZAP (yAA 0))))) (by decide)
theorem putL5 {f0 f1 f2 f3 f4:Str} {v0 v1 v2 v3 v4:V}:(putF f4 v4 (putF f3 v3 (putF f2 v2 (putF f1 v1 (putF f0 v0 []))))).length <= 20:=yAI (ZAP (ZAP (ZAP (ZAP (ZAP (yAA 0)))))) (by decide)
theorem putL6 {f0 f1 f2 f3 f4 f5:Str} {v0 v1 v2 v3 v4 v5:V}:(putF f5 v5 (putF f4 v4 (putF f3 v3 (putF f2 v2 (putF f1 v1 (putF f0 v0 [])))))).length <= 20:=yAI (ZAP (ZAP (ZAP (ZAP (ZAP (ZAP (yAA 0))))))) (by decide)
theorem putL7 {f0 f1 f2 f3 f4 f5 f6:Str} {v0 v1 v2 v3 v4 v5 v6:V}:(putF f6 v6 (putF f5 v5 (putF f4 v4 (putF f3 v3 (putF f2 v2 (putF f1 v1 (putF f0 v0 []))))))).length <= 20:=yAI (ZAP (ZAP (ZAP (ZAP (ZAP (ZAP (ZAP (yAA 0)))))))) (by decide)
theorem putL8 {f0 f1 f2 f3 f4 f5 f6 f7:Str} {v0 v1 v2 v3 v4 v5 v6 v7:V}:(putF f7 v7 (putF f6 v6 (putF f5 v5 (putF f4 v4 (putF f3 v3 (putF f2 v2 (putF f1 v1 (putF f0 v0 [])))))))).length <= 20:=yAI (ZAP (ZAP (ZAP (ZAP (ZAP (ZAP (ZAP (ZAP (yAA 0))))))))) (by decide)
theorem mx_eq (p q:Int):(if q > p then q else p)=max p q:=by split <;> omega
theorem ZDi (p q:Int):(if q < p then q else p)=min p q:=by split <;> omega
def tFrz (t:TE):TE:=fun σ H Q=>t σ H fun v H1=>∃ a xs,v=.ref a /\ H1 a=some (.lst xs) /\ ∀ o,Q (.ref a) (upd H1 a (.frz o (.lst xs)))
theorem pe_frz {X:Cx} {e:Expr} {t:TE} (h:PE X e t):PE X e (tFrz t):=by
 intro pins s σ H Q I hw
 refine thn (h pins s σ H _ I hw) fun u s1 ⟨x,H1,I1,rx,a,xs,ex,ea,q⟩=>?_
 subst ex
 obtain rfl:u=Value.ref a:=rx
 obtain ⟨hz,its,n,r,e1⟩:=(show ObjOk X.prog X.w H1 s1.heap a (.lst xs) from I1.hok a _ ea)
 exact ⟨.ref a,_,I1.write (x:=a) (e:=a) (o:=.frz _ (.lst xs)) (t':=s1.toks) (by rw [ea];exact True.intro) (.inl rfl) (fun b u _ h=>h) ⟨_,e1⟩ ⟨e1,hz,its,n,r,e1⟩,rfl,q _⟩
section
variable {X:Cx}
end
theorem ZB2 {us ds:List Value} {ps:List Str} {n:Nat} (h:(us++ds).length=ps.length) (e:n+ds.length=ps.length):us.length=n:=by
 rw [yAB] at h;omega
def Fr (S:List Addr) (H H':Hp):Prop:=∀ b o,b∉S->H b=some o->H' b=some o
theorem Fr.refl {S:List Addr} {H:Hp}:Fr S H H:=fun _ _ _ h=>h
theorem Fr.trans {S:List Addr} {H H' H'':Hp} (e:Fr S H H') (f:Fr S H' H''):Fr S H H'':=fun b o n h=>f b o n (e b o n h)
theorem Same.fr {S:List Addr} {H H':Hp} (e:Same H H'):Fr S H H':=fun b o _ h=>e b o h
theorem Fr.upd {S:List Addr} {H:Hp} {l:Addr} {o:HO} (h:l∈S):Fr S H (upd H l o):=fun b o' n e=>by
 have z:b≠l:=fun z=>n (by rw [z];exact h)
 rw [ZAF z];exact e
end L2
namespace PySem
namespace F
end F
section
variable {prog:Program} {w:World} {A:Around} {s:Shared} {R:Result->Shared->Prop}
variable {I:Addr} {fp wr:List Addr} {G:Array GenState->Array GenState->Prop} {n:Nat} {P:Nat->Value->Prop} {St:Nat->Shared->Prop}
end
section
variable {prog:Program} {w:World} {A:Around} {E:Value->Shared->Prop} {s:Shared}
variable {I:Addr} {fp wr:List Addr} {G:Array GenState->Array GenState->Prop} {n:Nat} {P:Nat->Value->Prop} {St:Nat->Shared->Prop}
end
end PySem
namespace L2
open PySem PySem.Spec PyProof.Rows
def tRevL (K:W.Frag) (t:TA):TE:=fun σ H Q=>t σ H fun vs H1=>∃ (l:Addr) (ys:List V),vs=[.ref l] /\ SqL K H1 l ys /\ ∀ r,H1 r=none->Q (.ref r) (upd H1 r (.lst ys.reverse))
section
variable {X:Cx} {e:Expr} {ta:TA} {p p2 pos pos2:Pos}
end
def compR2 (g:TG) (tt:TT) (te:TE) (σ0:St) (Q:VK) (x y:V) (H1:Hp):Prop:=∃ i j:Int,[x,y]=[.int i,.int j] /\ (-(2 ^ 62) <= i /\ i < 2 ^ 62 /\ -(2 ^ 62) <= j /\ j < 2 ^ 62) /\ compR i g tt te σ0 Q (j-i).toNat H1
theorem tCompR2_eq {k:Nat} {js:List Nat} {t u:TE} {g:TG} {tt:TT} {te:TE} {σ:St} {H:Hp} {Q:VK}:ZC4 k js (ZD5 (ZBs t (ZBs u tNil))) g tt te σ H Q=t σ H (fun x H1=>u σ H1 fun y H2=>compR2 g tt te (up k js σ) Q x y H2):=rfl
section
variable {X:Cx}
end
def Itz (K:W.Frag) (a b:Addr):It :=
 ⟨fun i H=>∃ xs x ys y,SqL K H a xs /\ xs[i]?=some x /\ SqL K H b ys /\ ys[i]?=some y,fun i H v H'=>∃ p x y,H p=none /\ (∀ xs,SqL K H a xs->xs[i]?=some x) /\ (∀ ys,SqL K H b ys->ys[i]?=some y) /\ H'=upd H p (.tup [x,y]) /\ v=.ref p,fun i H=>∃ xs ys,SqL K H a xs /\ SqL K H b ys /\ (xs.length <= i∨ys.length <= i)⟩
section
variable {X:Cx}
def iZip (K:W.Frag) (ta:TA):TI:=fun σ H R=>ta σ H fun vs H1=>∃ a b,vs=[.ref a,.ref b] /\ (∃ xs,SqL K H1 a xs) /\ (∃ xs,SqL K H1 b xs) /\ R (Itz K a b) H1
end
section
variable {K:W.Frag} {a b:Addr} {xs ys:List V} {g:TG} {tb:TS} {D:Ends} {σ:St} {H:Hp}
def forZ (K:W.Frag) (g:TG) (tb:TS) (D:Ends) (σ:St) (x y:V) (H1:Hp):Prop:=∃ a b,[x,y]=[.ref a,.ref b] /\ (∃ xs,SqL K H1 a xs) /\ (∃ xs,SqL K H1 b xs) /\ ∃ W:Nat->Nat->St->Hp->Prop,(∃ m,W 0 m σ H1) /\ ∀ i m σ H,W i m σ H ->
 ((Itz K a b).stop i H /\ D.nx σ H)∨((Itz K a b).go i H /\ ∃ N:St->Hp->Prop,(∀ σ' H',N σ' H'->∃ m',m' < m /\ W (i+1) m' σ' H') /\ ∀ x H',(Itz K a b).yld i H x H'->g x σ H' fun σ2 H2=>tb { D with nx:=N,ct:=N,bk:=D.nx } σ2 H2)
theorem tForZ_eq {t u:TE}:tFor (iZip K (ZBs t (ZBs u tNil))) g tb D σ H=t σ H (fun x H1=>u σ H1 fun y H2=>forZ K g tb D σ x y H2):=rfl
end
section
open PySem.SeqAt
open PySem.AutoSeq1 (wpAny_loadPart')
open PySem.MeetsSeq PySem.MeetsSeq2 PySem.MeetsSeq3 HT
end
section
variable {prog:Program} {w:World} {A:Around} {E:Value->Shared->Prop} {s:Shared}
end
section
variable {X:Cx}
end
section
variable {κ:Type} [DecidableEq κ]
def valV (kvs:List (κ×V)) (k:κ):Option V:=(kvs.find? fun kv=>decide (kv.1=k)).map (·.2)
def putK (kvs:List (κ×V)) (k:κ) (v:V):List (κ×V) :=
 if (kvs.any fun kv=>decide (kv.1=k))=true then kvs.map (fun kv=>if kv.1=k then (kv.1,v) else kv) else kvs++[(k,v)]
end
section
variable {P:Program} {w:World} {H:Hp} {h:Heap} {a:Addr}
end
def DGet (H:Hp) (a:Addr) (y:V) (r:Option V):Prop :=
 (∃ kvs k,Rd H a (.dK kvs) /\ y=kV k /\ r=valV kvs k)∨∃ kvs k b,Rd H a (.dT kvs) /\ y=.ref b /\ H b=some (.tup (k.map kV)) /\ r=valV kvs k
def DPut (H:Hp) (a:Addr) (y v:V) (H':Hp):Prop :=
 (∃ kvs k,H a=some (.dK kvs) /\ y=kV k /\ kvs.length < sizeLine /\ H'=upd H a (.dK (putK kvs k v))) ∨
 ∃ kvs k b,H a=some (.dT kvs) /\ y=.ref b /\ H b=some (.tup (k.map kV)) /\ kvs.length < sizeLine /\ H'=upd H a (.dT (putK kvs k v))
section
variable {X:Cx} {pins:List (Addr×Obj)} {σ:St} {H:Hp} {s:Shared} {a:Addr} {y v:V} {u r:Value} {o:Option V} {A:Around} {E:Value->Shared->Prop}
end
section
variable {X:Cx} {pins:List (Addr×Obj)} {σ:St} {H:Hp} {s:Shared} {a:Addr} {kvs:List (Key×V)} {k:Key} {u:Value} {A:Around} {E:Value->Shared->Prop}
end
def tDGet (td ty:TE):TE:=fun σ H Q=>td σ H fun x H1=>ty σ H1 fun y H2=>∃ a v,x=.ref a /\ DGet H2 a y (some v) /\ Q v H2
def tDIn (ty td:TE):TE:=fun σ H Q=>ty σ H fun y H1=>td σ H1 fun x H2=>∃ a o,x=.ref a /\ DGet H2 a y o /\ Q (.bl o.isSome) H2
def tDNotIn (ty td:TE):TE:=fun σ H Q=>ty σ H fun y H1=>td σ H1 fun x H2=>∃ a o,x=.ref a /\ DGet H2 a y o /\ Q (.bl (!o.isSome)) H2
def sDPut (td ty tv:TE):TS:=fun D σ H=>tv σ H fun v H1=>td σ H1 fun x H2=>ty σ H2 fun y H3=>∃ a H4,x=.ref a /\ DPut H3 a y v H4 /\ D.nx σ H4
section
variable {X:Cx} {o i e value:Expr} {pos pos' tpos:Pos} {td ty tv:TE}
end
def tDNewK:TE:=fun _ H Q=>∀ p,H p=none->Q (.ref p) (upd H p (.dK []))
def tDNewT:TE:=fun _ H Q=>∀ p,H p=none->Q (.ref p) (upd H p (.dT []))
section
variable {X:Cx} {pos:Pos}
end
end L2
namespace PySem
open Sem (wp)
namespace F
end F
section
variable {α:Type} {prog:Program} {w:World} {A:Around} {E:Value->Shared->Prop} {s:Shared}
end
section
variable {prog:Program} {w:World} {A:Around} {E:Value->Shared->Prop} {h:Heap} {g:Array GenState} {d:Drawn} {t:Nat} {os:OsState} {a:Addr} {its:Array Value} {n:Nat}
end
end PySem
namespace PySem
namespace F
end F
end PySem
namespace L2
open PySem PySem.Spec PyProof.Rows
section
variable {X:Cx} {pins:List (Addr×Obj)} {σ:St} {H:Hp} {s1:Shared} {A:Around}
end
end L2
namespace PySem
section
variable {prog:Program} {w:World} {A:Around} {E:Value->Shared->Prop} {s:Shared} {zo ti to:Addr} {f0 f1:Value}
end
end PySem
namespace L2
open PySem PySem.Spec PyProof.Rows
section
variable {X:Cx}
end
section
variable {K:W.Frag} {a b:Addr} {xs ys:List V} {g:TG} {σ:St} {H:Hp} {tt:TT} {te:TE} {Q:VK} {σ0:St}
end
section
variable {X:Cx}
end
section
variable {X:Cx}
end
section
variable {X:Cx}
end
def Itr3 (lo d:Int) (n:Nat):It:=⟨fun i _=>i < n,fun i H x H'=>H'=H /\ x=.int (lo+i * d),fun i _=>n <= i⟩
section
variable {X:Cx} {tg:Expr}
def iRng3 (ta:TA):TI:=fun σ H R=>ta σ H fun vs H1=>∃ i j d:Int,vs=[.int i,.int j,.int d] /\ (0 <= i /\ i <= 1000 /\ 0 <= j /\ j <= 1000 /\ 0 < d /\ d <= 1000) /\ R (Itr3 i d (Builtin.Range.rangeSize i j d).toNat) H1
end
def compR3 (g:TG) (tt:TT) (te:TE) (σ0:St) (Q:VK) (x y z:V) (H1:Hp):Prop:=∃ i j d:Int,[x,y,z]=[.int i,.int j,.int d] /\ (0 <= i /\ i <= 1000 /\ 0 <= j /\ j <= 1000 /\ 0 < d /\ d <= 1000) /\
 ∃ W:Nat->Nat->List V->St->Hp->Prop,(∃ m,W 0 m [] σ0 H1) /\ ∀ k m ys σ H,W k m ys σ H ->
   ((Itr3 i d (Builtin.Range.rangeSize i j d).toNat).stop k H /\ ys.length <= sizeLine /\ ∀ p,H p=none->Q (.ref p) (upd H p (.lst ys))) ∨
   ((Itr3 i d (Builtin.Range.rangeSize i j d).toNat).go k H /\ ys.length < sizeLine /\ ∀ x H',(Itr3 i d (Builtin.Range.rangeSize i j d).toNat).yld k H x H'->g x σ H' fun σ2 H2=>tt σ2 H2 fun b H3=>if b=true then te σ2 H3 fun y H4=>∃ m',m' < m /\ W (k+1) m' (ys++[y]) σ2 H4 else ∃ m',m' < m /\ W (k+1) m' ys σ2 H3)
theorem tCompR3_eq {k:Nat} {js:List Nat} {t u v:TE} {g:TG} {tt:TT} {te:TE} {σ:St} {H:Hp} {Q:VK}:ZC4 k js (iRng3 (ZBs t (ZBs u (ZBs v tNil)))) g tt te σ H Q=t σ H (fun x H1=>u σ H1 fun y H2=>v σ H2 fun z H3=>compR3 g tt te (up k js σ) Q x y z H3):=rfl
def tBL (K:W.Frag) (t:TE):TT:=fun σ H Q=>t σ H fun x H1=>∃ a xs,x=.ref a /\ SqL K H1 a xs /\ Q (!xs.isEmpty) H1
section
variable {X:Cx}
theorem pt_lst {e:Expr} {t:TE} (h:PE X e t) (he:∀ whole,isTrue e X.env whole=(do let v <- whole;standAt e.pos;holding [v] (truthy v)):=by intro _;rfl):PT X e (tBL X.K t):=by
 intro pins s σ H Q I hw
 refine isTrue_plain (thn (h pins s σ H _ I hw) fun v s1 ⟨x,H1,I1,r1,q1⟩=>?_) (he _)
 obtain ⟨a,xs,rfl,hq,q⟩:=q1
 cases r1
 obtain ⟨its,rv,p,hz⟩:=I1.list hq
 have hl:=rv.length
 refine wpAny_truthy_list p.isList ?_ ?_
 .rw [yAK,<- hl]
  exact Int.lt_of_le_of_lt (Int.ofNat_le.mpr hz) (by decide)
 .refine ⟨H1,I1.kept (t':=s1.toks+1+1) (fun b o e=>e),?_⟩
  have:(!(its.toArray).isEmpty)=!xs.isEmpty:=by
   cases xs <;> cases its <;> first | rfl | cases hl
  rw [this];exact q
end
end L2
namespace L2S
open PySem PyProof.Rows
section
variable {M:Model} {A:Around} {E:Value->Shared->Prop} {s:Shared} {κ:SortKind} {a₀:Array Keyed} {f:Keyed->Int}
end
end L2S
namespace L2S
open PySem PyProof.Rows
section
variable {M:Model} {A:Around} {E:Value->Shared->Prop} {s:Shared}
end
end L2S
namespace L2S
open PySem PyProof.Rows
section
variable {f:Keyed->Int} {as bs o:List Keyed} {i j:Nat}
end
section
variable {M:Model} {A:Around} {E:Value->Shared->Prop} {s:Shared} {κ:SortKind} {a₀:Array Keyed} {f:Keyed->Int}
end
end L2S
namespace L2S
open PySem PyProof.Rows
end L2S
namespace L2S
open PySem PyProof.Rows
section
variable {M:Model} {A:Around} {E:Value->Shared->Prop} {s:Shared} {κ:SortKind} {a₀:Array Keyed} {f:Keyed->Int} {a b o:Array Keyed} {i j:Nat}
end
end L2S
namespace L2S
open PySem PyProof.Rows
end L2S
namespace L2S
open PySem PyProof.Rows
section
variable {M:Model} {A:Around} {E:Value->Shared->Prop} {s:Shared} {κ:SortKind} {a₀:Array Keyed} {f:Keyed->Int} {a b o:Array Keyed} {i j:Nat}
end
end L2S
namespace L2S
open PySem PyProof.Rows
section
variable {M:Model} {A:Around} {E:Value->Shared->Prop} {s:Shared} {κ:SortKind} {a₀:Array Keyed} {f:Keyed->Int}
end
end L2S
namespace L2S
open PySem PyProof.Rows
section
variable {M:Model} {A:Around} {E:Value->Shared->Prop} {s:Shared} {κ:SortKind} {a₀:Array Keyed} {f:Keyed->Int}
end
end L2S
namespace L2S
open PySem PyProof.Rows
section
variable {prog:Program} {w:World} {A:Around} {E:Value->Shared->Prop} {s:Shared}
end
end L2S
namespace L2
open PySem PySem.Spec PyProof.Rows L2S
section
variable {prog:Program} {w:World} {A:Around} {E:Value->Shared->Prop} {s:Shared}
end
section
variable {X:Cx}
end
open PySem PySem.Spec PyProof.Rows L2S
section
variable {prog:Program} {w:World} {A:Around} {E:Value->Shared->Prop} {s:Shared}
end
section
variable {X:Cx}
end
end L2
namespace L2S
open PySem PyProof.Rows L2
section
variable {prog:Program} {w:World} {A:Around} {E:Value->Shared->Prop} {s:Shared}
end
end L2S
namespace L2
open PySem PySem.Spec PyProof.Rows L2S
section
variable {X:Cx} {e d:Expr} {te td:TE} {p pos:Pos} {kpos:Pos}
def tSortR (K:W.Frag) (te td:TE):TE:=fun σ H Q=>te σ H fun x H1=>td σ H1 fun y H2=>∃ a ns,x=.ref a /\ y=.bl true /\ SqL K H2 a (ns.map V.int) /\ ns.length <= 1000 /\ ∀ (l:Addr) (ms:List Int),H2 l=none->ms.Perm ns->ms.Pairwise (·≥·)->Q (.ref l) (upd H2 l (.lst (ms.map V.int)))
end
end L2
namespace Gr
def qt (m a:Int) (p:Nat):Int:=a * 2 ^ p / (2 * m)
structure IsG (m a b:Int) (g:Nat):Prop where
 pos:1 <= g
 eq:∀ q,1 <= q->q < g->qt m a q=qt m b q
 ne:qt m a g≠qt m b g
theorem p2pos (p:Nat):(0:Int) < 2 ^ p:=Int.pow_pos (by decide)
theorem qt_ne {m a b:Int} {p:Nat} (hm:0 < m) (hab:a+2 <= b) (hp:m <= 2 ^ p):qt m a p≠qt m b p:=by
 unfold qt
 have h1:a * 2 ^ p+2 * m <= b * 2 ^ p:=by
  have:(a+2) * 2 ^ p <= b * 2 ^ p:=Int.mul_le_mul_of_nonneg_right hab (Int.le_of_lt (p2pos p))
  rw [Int.add_mul] at this
  omega
 have h2:(a * 2 ^ p+2 * m) / (2 * m) <= b * 2 ^ p / (2 * m):=Int.ediv_le_ediv (by omega) h1
 rw [Int.add_ediv_of_dvd_right (Int.dvd_refl _),Int.ediv_self (by omega)] at h2
 omega
theorem qt_half (m a:Int) (p:Nat) (hm:0 < m):qt m a p=qt m a (p+1) / 2:=by
 unfold qt
 rw [Int.pow_succ,<- Int.mul_assoc,Int.ediv_ediv_of_nonneg (by omega),Int.mul_ediv_mul_of_pos_left _ _ (by decide)]
theorem ZC9 {m a b:Int} (p:Nat) (hm:0 < m) (h:a <= b):qt m a p <= qt m b p:=by
 unfold qt
 exact Int.ediv_le_ediv (by omega) (Int.mul_le_mul_of_nonneg_right h (Int.le_of_lt (p2pos p)))
theorem IsG.eq0 {m a b:Int} {g:Nat} (hm:0 < m) (ha:0 <= a) (hb:0 <= b) (hal:a < 2 * m) (hbl:b < 2 * m) (x:IsG m a b g) {q:Nat} (hq:q < g):qt m a q=qt m b q:=by
 rcases Nat.eq_zero_or_pos q with e | e
 .subst e
  unfold qt
  rw [Int.pow_zero,Int.mul_one,Int.mul_one,Int.ediv_eq_zero_of_lt ha hal,Int.ediv_eq_zero_of_lt hb hbl]
 .exact x.eq q e hq
theorem parted {m:Int} {f:Nat->Int} {gr:Nat->Nat} {i j:Nat} (hm:0 < m) (hij:i < j) (h0:∀ k,k <= j+1->0 <= f k /\ f k < 2 * m) (hr:∀ k,k <= j->f k <= f (k+1)) (hg:∀ k,i <= k->k <= j->IsG m (f k) (f (k+1)) (gr k))
  (hge:∀ k,i <= k->k <= j->gr i <= gr k):gr i≠gr j:=by
 intro e
 have hpos:=(hg i (yAA _) (by omega)).pos
 obtain ⟨p,hp⟩:∃ p,gr i=p+1:=⟨gr i-1,by omega⟩
 have same:∀ d,i+d <= j+1->qt m (f (i+d)) p=qt m (f i) p:=by
  intro d
  induction d with
  | zero=>intro _;rfl
  | succ d ih=>
   intro hd
   rw [<- ih (by omega)]
   have b1:=h0 (i+d) (by omega)
   have b2:=h0 (i+d+1) (by omega)
   exact ((hg (i+d) (by omega) (by omega)).eq0 hm b1.1 b2.1 b1.2 b2.2 (by have:=hge (i+d) (by omega) (by omega);omega)).symm
 have mono:∀ d,i+1+d <= j+1->qt m (f (i+1)) (p+1) <= qt m (f (i+1+d)) (p+1):=by
  intro d
  induction d with
  | zero=>intro _;exact Int.le_refl _
  | succ d ih=>intro hd;exact Int.le_trans (ih (by omega)) (ZC9 _ hm (hr (i+1+d) (by omega)))
 have s1:=same 1 (by omega)
 have s2:=same (j-i) (by omega)
 have s3:=same (j+1-i) (by omega)
 rw [show i+(j-i)=j by omega] at s2
 rw [show i+(j+1-i)=j+1 by omega] at s3
 have n1:=(hg i (yAA _) (by omega)).ne
 have n2:=(hg j (by omega) (yAA _)).ne
 rw [hp] at n1
 rw [<- e,hp] at n2
 have m1:=ZC9 (p+1) hm (hr i (by omega))
 have m2:=ZC9 (p+1) hm (hr j (by omega))
 have m3:=mono (j-(i+1)) (by omega)
 rw [show i+1+(j-(i+1))=j by omega] at m3
 rw [qt_half m _ p hm,qt_half m (f i) p hm] at s1 s2 s3
 omega
end Gr
namespace Gr
structure Pil (m:Int) (f:Nat->Int) (gr:Nat->Nat) (k:Nat) (gs:List Nat):Prop where
 g:∀ j,j < k->IsG m (f j) (f (j+1)) (gr j)
 srt:gs.Pairwise (· < ·)
 at':∀ x∈gs,∃ i,i < k /\ gr i=x /\ ∀ j,i <= j->j < k->x <= gr j
theorem Pil.pre {m:Int} {f:Nat->Int} {gr:Nat->Nat} {k:Nat} {gs r:List Nat} (P:Pil m f gr k (gs++r)):Pil m f gr k gs :=
 ⟨P.g,(List.pairwise_append.mp P.srt).1,fun x hx=>P.at' x (yBK _ hx)⟩
theorem Pil.no {m:Int} {f:Nat->Int} {gr:Nat->Nat} {k g:Nat} {gs:List Nat} (hm:0 < m) (h0:∀ j,j <= k+1->0 <= f j /\ f j < 2 * m) (hr:∀ j,j <= k->f j <= f (j+1)) (P:Pil m f gr k gs) (hg:IsG m (f k) (f (k+1)) g):g∉gs:=by
 intro hx
 obtain ⟨i,hi,e,hge⟩:=P.at' g hx
 refine parted (gr:=fun j=>if j=k then g else gr j) hm hi h0 hr (fun j h1 h2=>?_) (fun j h1 h2=>?_) ?_
 .by_cases q:j=k
  .subst q;rw [if_pos rfl];exact hg
  .rw [if_neg q];exact P.g j (by omega)
 .rw [if_neg (show ¬ i=k by omega),e]
  by_cases q:j=k
  .rw [if_pos q];exact yAA _
  .rw [if_neg q];exact hge j h1 (by omega)
 .rw [if_neg (show ¬ i=k by omega),if_pos rfl,e]
theorem Pil.push {m:Int} {f:Nat->Int} {gr:Nat->Nat} {k g:Nat} {gs:List Nat} (P:Pil m f gr k gs) (hg:IsG m (f k) (f (k+1)) g) (hl:∀ x∈gs,x < g):Pil m f (fun j=>if j=k then g else gr j) (k+1) (gs++[g]):=by
 refine ⟨fun j hj=>?_,List.pairwise_append.mpr ⟨P.srt,List.pairwise_singleton _ _,fun x hx y hy=>?_⟩,fun x hx=>?_⟩
 .by_cases q:j=k
  .subst q;rw [if_pos rfl];exact hg
  .rw [if_neg q];exact P.g j (by omega)
 .rw [yAS.mp hy];exact hl x hx
 .rcases yBC.mp hx with hx | hx
  .obtain ⟨i,hi,e,hge⟩:=P.at' x hx
   refine ⟨i,by omega,by rw [if_neg (show ¬ i=k by omega)];exact e,fun j h1 h2=>?_⟩
   by_cases q:j=k
   .rw [if_pos q];exact yBI (hl x hx)
   .rw [if_neg q];exact hge j h1 (by omega)
  .rw [yAS.mp hx]
   refine ⟨k,by omega,if_pos rfl,fun j h1 h2=>?_⟩
   rw [if_pos (show j=k by omega)]
   exact yAA _
theorem last_le {gs:List Nat} {v g:Nat} (h:(gs++[v]).Pairwise (· < ·)) (hv:v <= g):∀ x∈gs++[v],x <= g:=fun x hx=>by
 rcases yBC.mp hx with hx | hx
 .have:=(List.pairwise_append.mp h).2.2 x hx v (List.mem_singleton_self v)
  omega
 .rw [yAS.mp hx];exact hv
end Gr
namespace L2
open PySem
theorem tVar_1 {v:V} {a0:Option V} {σ:St} {H:Hp} {Q:VK}:tVar 1 (a0::some v::σ) H Q=Q v H:=by
 simp only [ZAi,ZAf]
theorem tVar_2 {v:V} {a0 a1:Option V} {σ:St} {H:Hp} {Q:VK}:tVar 2 (a0::a1::some v::σ) H Q=Q v H:=by
 simp only [ZAi,ZAf]
theorem tVar_3 {v:V} {a0 a1 a2:Option V} {σ:St} {H:Hp} {Q:VK}:tVar 3 (a0::a1::a2::some v::σ) H Q=Q v H:=by
 simp only [ZAi,ZAf]
theorem tVar_4 {v:V} {a0 a1 a2 a3:Option V} {σ:St} {H:Hp} {Q:VK}:tVar 4 (a0::a1::a2::a3::some v::σ) H Q=Q v H:=by
 simp only [ZAi,ZAf]
theorem tVar_5 {v:V} {a0 a1 a2 a3 a4:Option V} {σ:St} {H:Hp} {Q:VK}:tVar 5 (a0::a1::a2::a3::a4::some v::σ) H Q=Q v H:=by
 simp only [ZAi,ZAf]
theorem tVar_6 {v:V} {a0 a1 a2 a3 a4 a5:Option V} {σ:St} {H:Hp} {Q:VK}:tVar 6 (a0::a1::a2::a3::a4::a5::some v::σ) H Q=Q v H:=by
 simp only [ZAi,ZAf]
theorem tVar_7 {v:V} {a0 a1 a2 a3 a4 a5 a6:Option V} {σ:St} {H:Hp} {Q:VK}:tVar 7 (a0::a1::a2::a3::a4::a5::a6::some v::σ) H Q=Q v H:=by
 simp only [ZAi,ZAf]
theorem tVar_8 {v:V} {a0 a1 a2 a3 a4 a5 a6 a7:Option V} {σ:St} {H:Hp} {Q:VK}:tVar 8 (a0::a1::a2::a3::a4::a5::a6::a7::some v::σ) H Q=Q v H:=by
 simp only [ZAi,ZAf]
theorem tVar_9 {v:V} {a0 a1 a2 a3 a4 a5 a6 a7 a8:Option V} {σ:St} {H:Hp} {Q:VK}:tVar 9 (a0::a1::a2::a3::a4::a5::a6::a7::a8::some v::σ) H Q=Q v H:=by
 simp only [ZAi,ZAf]
theorem tVar_10 {v:V} {a0 a1 a2 a3 a4 a5 a6 a7 a8 a9:Option V} {σ:St} {H:Hp} {Q:VK}:tVar 10 (a0::a1::a2::a3::a4::a5::a6::a7::a8::a9::some v::σ) H Q=Q v H:=by
 simp only [ZAi,ZAf]
theorem tVar_11 {v:V} {a0 a1 a2 a3 a4 a5 a6 a7 a8 a9 a10:Option V} {σ:St} {H:Hp} {Q:VK}:tVar 11 (a0::a1::a2::a3::a4::a5::a6::a7::a8::a9::a10::some v::σ) H Q=Q v H:=by
 simp only [ZAi,ZAf]
theorem tVar_12 {v:V} {a0 a1 a2 a3 a4 a5 a6 a7 a8 a9 a10 a11:Option V} {σ:St} {H:Hp} {Q:VK}:tVar 12 (a0::a1::a2::a3::a4::a5::a6::a7::a8::a9::a10::a11::some v::σ) H Q=Q v H:=by
 simp only [ZAi,ZAf]
theorem tVar_13 {v:V} {a0 a1 a2 a3 a4 a5 a6 a7 a8 a9 a10 a11 a12:Option V} {σ:St} {H:Hp} {Q:VK}:tVar 13 (a0::a1::a2::a3::a4::a5::a6::a7::a8::a9::a10::a11::a12::some v::σ) H Q=Q v H:=by
 simp only [ZAi,ZAf]
theorem tVar_14 {v:V} {a0 a1 a2 a3 a4 a5 a6 a7 a8 a9 a10 a11 a12 a13:Option V} {σ:St} {H:Hp} {Q:VK}:tVar 14 (a0::a1::a2::a3::a4::a5::a6::a7::a8::a9::a10::a11::a12::a13::some v::σ) H Q=Q v H:=by
 simp only [ZAi,ZAf]
theorem tVar_15 {v:V} {a0 a1 a2 a3 a4 a5 a6 a7 a8 a9 a10 a11 a12 a13 a14:Option V} {σ:St} {H:Hp} {Q:VK}:tVar 15 (a0::a1::a2::a3::a4::a5::a6::a7::a8::a9::a10::a11::a12::a13::a14::some v::σ) H Q=Q v H:=by
 simp only [ZAi,ZAf]
theorem tVar_16 {v:V} {a0 a1 a2 a3 a4 a5 a6 a7 a8 a9 a10 a11 a12 a13 a14 a15:Option V} {σ:St} {H:Hp} {Q:VK}:tVar 16 (a0::a1::a2::a3::a4::a5::a6::a7::a8::a9::a10::a11::a12::a13::a14::a15::some v::σ) H Q=Q v H:=by
 simp only [ZAi,ZAf]
theorem tVar_17 {v:V} {a0 a1 a2 a3 a4 a5 a6 a7 a8 a9 a10 a11 a12 a13 a14 a15 a16:Option V} {σ:St} {H:Hp} {Q:VK}:tVar 17 (a0::a1::a2::a3::a4::a5::a6::a7::a8::a9::a10::a11::a12::a13::a14::a15::a16::some v::σ) H Q=Q v H:=by
 simp only [ZAi,ZAf]
theorem tVar_18 {v:V} {a0 a1 a2 a3 a4 a5 a6 a7 a8 a9 a10 a11 a12 a13 a14 a15 a16 a17:Option V} {σ:St} {H:Hp} {Q:VK}:tVar 18 (a0::a1::a2::a3::a4::a5::a6::a7::a8::a9::a10::a11::a12::a13::a14::a15::a16::a17::some v::σ) H Q=Q v H:=by
 simp only [ZAi,ZAf]
theorem tVar_19 {v:V} {a0 a1 a2 a3 a4 a5 a6 a7 a8 a9 a10 a11 a12 a13 a14 a15 a16 a17 a18:Option V} {σ:St} {H:Hp} {Q:VK}:tVar 19 (a0::a1::a2::a3::a4::a5::a6::a7::a8::a9::a10::a11::a12::a13::a14::a15::a16::a17::a18::some v::σ) H Q=Q v H:=by
 simp only [ZAi,ZAf]
theorem tVar_20 {v:V} {a0 a1 a2 a3 a4 a5 a6 a7 a8 a9 a10 a11 a12 a13 a14 a15 a16 a17 a18 a19:Option V} {σ:St} {H:Hp} {Q:VK}:tVar 20 (a0::a1::a2::a3::a4::a5::a6::a7::a8::a9::a10::a11::a12::a13::a14::a15::a16::a17::a18::a19::some v::σ) H Q=Q v H:=by
 simp only [ZAi,ZAf]
theorem tVar_21 {v:V} {a0 a1 a2 a3 a4 a5 a6 a7 a8 a9 a10 a11 a12 a13 a14 a15 a16 a17 a18 a19 a20:Option V} {σ:St} {H:Hp} {Q:VK}:tVar 21 (a0::a1::a2::a3::a4::a5::a6::a7::a8::a9::a10::a11::a12::a13::a14::a15::a16::a17::a18::a19::a20::some v::σ) H Q=Q v H:=by
 simp only [ZAi,ZAf]
theorem tVar_22 {v:V} {a0 a1 a2 a3 a4 a5 a6 a7 a8 a9 a10 a11 a12 a13 a14 a15 a16 a17 a18 a19 a20 a21:Option V} {σ:St} {H:Hp} {Q:VK}:tVar 22 (a0::a1::a2::a3::a4::a5::a6::a7::a8::a9::a10::a11::a12::a13::a14::a15::a16::a17::a18::a19::a20::a21::some v::σ) H Q=Q v H:=by
 simp only [ZAi,ZAf]
theorem tVar_23 {v:V} {a0 a1 a2 a3 a4 a5 a6 a7 a8 a9 a10 a11 a12 a13 a14 a15 a16 a17 a18 a19 a20 a21 a22:Option V} {σ:St} {H:Hp} {Q:VK}:tVar 23 (a0::a1::a2::a3::a4::a5::a6::a7::a8::a9::a10::a11::a12::a13::a14::a15::a16::a17::a18::a19::a20::a21::a22::some v::σ) H Q=Q v H:=by
 simp only [ZAi,ZAf]
theorem tVar_24 {v:V} {a0 a1 a2 a3 a4 a5 a6 a7 a8 a9 a10 a11 a12 a13 a14 a15 a16 a17 a18 a19 a20 a21 a22 a23:Option V} {σ:St} {H:Hp} {Q:VK}:tVar 24 (a0::a1::a2::a3::a4::a5::a6::a7::a8::a9::a10::a11::a12::a13::a14::a15::a16::a17::a18::a19::a20::a21::a22::a23::some v::σ) H Q=Q v H:=by
 simp only [ZAi,ZAf]
theorem tVar_25 {v:V} {a0 a1 a2 a3 a4 a5 a6 a7 a8 a9 a10 a11 a12 a13 a14 a15 a16 a17 a18 a19 a20 a21 a22 a23 a24:Option V} {σ:St} {H:Hp} {Q:VK}:tVar 25 (a0::a1::a2::a3::a4::a5::a6::a7::a8::a9::a10::a11::a12::a13::a14::a15::a16::a17::a18::a19::a20::a21::a22::a23::a24::some v::σ) H Q=Q v H:=by
 simp only [ZAi,ZAf]
theorem tVar_26 {v:V} {a0 a1 a2 a3 a4 a5 a6 a7 a8 a9 a10 a11 a12 a13 a14 a15 a16 a17 a18 a19 a20 a21 a22 a23 a24 a25:Option V} {σ:St} {H:Hp} {Q:VK}:tVar 26 (a0::a1::a2::a3::a4::a5::a6::a7::a8::a9::a10::a11::a12::a13::a14::a15::a16::a17::a18::a19::a20::a21::a22::a23::a24::a25::some v::σ) H Q=Q v H:=by
 simp only [ZAi,ZAf]
theorem tVar_27 {v:V} {a0 a1 a2 a3 a4 a5 a6 a7 a8 a9 a10 a11 a12 a13 a14 a15 a16 a17 a18 a19 a20 a21 a22 a23 a24 a25 a26:Option V} {σ:St} {H:Hp} {Q:VK}:tVar 27 (a0::a1::a2::a3::a4::a5::a6::a7::a8::a9::a10::a11::a12::a13::a14::a15::a16::a17::a18::a19::a20::a21::a22::a23::a24::a25::a26::some v::σ) H Q=Q v H:=by
 simp only [ZAi,ZAf]
theorem tVar_28 {v:V} {a0 a1 a2 a3 a4 a5 a6 a7 a8 a9 a10 a11 a12 a13 a14 a15 a16 a17 a18 a19 a20 a21 a22 a23 a24 a25 a26 a27:Option V} {σ:St} {H:Hp} {Q:VK}:tVar 28 (a0::a1::a2::a3::a4::a5::a6::a7::a8::a9::a10::a11::a12::a13::a14::a15::a16::a17::a18::a19::a20::a21::a22::a23::a24::a25::a26::a27::some v::σ) H Q=Q v H:=by
 simp only [ZAi,ZAf]
theorem tVar_29 {v:V} {a0 a1 a2 a3 a4 a5 a6 a7 a8 a9 a10 a11 a12 a13 a14 a15 a16 a17 a18 a19 a20 a21 a22 a23 a24 a25 a26 a27 a28:Option V} {σ:St} {H:Hp} {Q:VK}:tVar 29 (a0::a1::a2::a3::a4::a5::a6::a7::a8::a9::a10::a11::a12::a13::a14::a15::a16::a17::a18::a19::a20::a21::a22::a23::a24::a25::a26::a27::a28::some v::σ) H Q=Q v H:=by
 simp only [ZAi,ZAf]
theorem tVar_30 {v:V} {a0 a1 a2 a3 a4 a5 a6 a7 a8 a9 a10 a11 a12 a13 a14 a15 a16 a17 a18 a19 a20 a21 a22 a23 a24 a25 a26 a27 a28 a29:Option V} {σ:St} {H:Hp} {Q:VK}:tVar 30 (a0::a1::a2::a3::a4::a5::a6::a7::a8::a9::a10::a11::a12::a13::a14::a15::a16::a17::a18::a19::a20::a21::a22::a23::a24::a25::a26::a27::a28::a29::some v::σ) H Q=Q v H:=by
 simp only [ZAi,ZAf]
open PySem
def Cut (t:TS):TS:=t
theorem ZAW {X:Cx} {rest:List Stmt} {u:TS} (h:PSs X rest u):PSs X rest (Cut u):=h
theorem ZAj {u:TS} {D:Ends} {σ:St} {H:Hp} (h:u D σ H):Cut u D σ H:=h
theorem us0 {l:List Value} (h:l.length=0):l=[]:=List.length_eq_zero_iff.mp h
theorem us1 {l:List Value} (h:l.length=1):∃ a0,l=[a0]:=by
 cases l with
 | nil=>cases h
 | cons a l=>
  obtain rfl:=us0 (l:=l) (Nat.succ.inj h)
  exact ⟨a,rfl⟩
theorem us2 {l:List Value} (h:l.length=2):∃ a0 a1,l=[a0,a1]:=by
 cases l with
 | nil=>cases h
 | cons a l=>
  obtain ⟨b0,rfl⟩:=us1 (l:=l) (Nat.succ.inj h)
  exact ⟨a,b0,rfl⟩
theorem us3 {l:List Value} (h:l.length=3):∃ a0 a1 a2,l=[a0,a1,a2]:=by
 cases l with
 | nil=>cases h
 | cons a l=>
  obtain ⟨b0,b1,rfl⟩:=us2 (l:=l) (Nat.succ.inj h)
  exact ⟨a,b0,b1,rfl⟩
theorem us4 {l:List Value} (h:l.length=4):∃ a0 a1 a2 a3,l=[a0,a1,a2,a3]:=by
 cases l with
 | nil=>cases h
 | cons a l=>
  obtain ⟨b0,b1,b2,rfl⟩:=us3 (l:=l) (Nat.succ.inj h)
  exact ⟨a,b0,b1,b2,rfl⟩
end L2
namespace Law
open PySem L2
local macro_rules | `(tactic| walk_at "o")=>`(tactic| first | exact Or.inl rfl | exact Or.inr rfl)
local macro_rules | `(tactic| walk_at "rd")=>`(tactic| ((try dsimp only [cx_K,tDNewT,tDNewK,tDNotIn,tDIn,tDGet,sDPut,tChain,tForZ_eq,tRevL,tCompR2_eq,sFldAug_eq,cx_cloK,ZDb,ZB3,tForE_eq,tCompE_eq,tMaxD,tAug_eq,ipI_int,gSub,gCons_eq,gNil_eq,tSeq,tIfS,ZDt,tB,tOr,tAnd,tNot,tOp,tUn,tC,ZAf,tSortR,tFrz,tCompR3_eq,tBL,tVar_1,tVar_2,tVar_3,tVar_4,tVar_5,tVar_6,tVar_7,tVar_8,tVar_9,tVar_10,tVar_11,tVar_12,tVar_13,tVar_14,tVar_15,tVar_16,tVar_17,tVar_18,tVar_19,tVar_20,tVar_21,tVar_22,tVar_23,tVar_24,tVar_25,tVar_26,tVar_27,tVar_28,tVar_29,tVar_30,rI0_int,rI_int,rU_int,rEq_int,rNe_int,rEq_bl,rNe_bl,rEq_str,rNe_str,ex_bl,ex_int,tAsg,ZDq,tRet,tRetN,ZDx,ZDw,ZDZ,ZDy,tOrV,ZDv,tIf,List.set_cons_zero,List.set_cons_succ,ZDm,ZDT,ZBs,tNil,List.cons_append,List.nil_append,yBF,tCB,tFld_eq,sFld_eq,tForL_eq,tForR1_eq,tForR2_eq,tCompL_eq,tCompR1_eq,tYes,tBM,tBM0,tLst,tTup,ZDa,true_and,tSl,ZDu,tNoPart,decide_eq_true_eq,Bool.not_eq_true',decide_eq_false_iff_not,L2.start,yAX,List.map_nil,yAG,yBR,Nat.reduceAdd,Nat.reduceSub,Nat.zero_add,yAY,List.replicate_zero,List.replicate_succ,if_true,if_false,Bool.false_eq_true,Bool.true_eq_false,Bool.not_true,Bool.not_false]);(try simp only [cx_K,tDNewT,tDNewK,tDNotIn,tDIn,tDGet,sDPut,tChain,tForZ_eq,tRevL,tCompR2_eq,sFldAug_eq,cx_cloK,ZDb,ZB3,tForE_eq,tCompE_eq,tMaxD,tAug_eq,ipI_int,gSub,gCons_eq,gNil_eq,tSeq,tIfS,ZDt,tB,tOr,tAnd,tNot,tOp,tUn,tC,ZAf,tSortR,tFrz,tCompR3_eq,tBL,tVar_1,tVar_2,tVar_3,tVar_4,tVar_5,tVar_6,tVar_7,tVar_8,tVar_9,tVar_10,tVar_11,tVar_12,tVar_13,tVar_14,tVar_15,tVar_16,tVar_17,tVar_18,tVar_19,tVar_20,tVar_21,tVar_22,tVar_23,tVar_24,tVar_25,tVar_26,tVar_27,tVar_28,tVar_29,tVar_30,rI0_int,rI_int,rU_int,rEq_int,rNe_int,rEq_bl,rNe_bl,rEq_str,rNe_str,ex_bl,ex_int,tAsg,ZDq,tRet,tRetN,ZDx,ZDw,ZDZ,ZDy,tOrV,ZDv,tIf,List.set_cons_zero,List.set_cons_succ,ZDm,ZDT,ZBs,tNil,List.cons_append,List.nil_append,yBF,tCB,tFld_eq,sFld_eq,tForL_eq,tForR1_eq,tForR2_eq,tCompL_eq,tCompR1_eq,tYes,tBM,tBM0,tLst,tTup,ZDa,true_and,tSl,ZDu,tNoPart,decide_eq_true_eq,Bool.not_eq_true',decide_eq_false_iff_not,L2.start,yAX,List.map_nil,yAG,yBR,Nat.reduceAdd,Nat.reduceSub,Nat.zero_add,yAY,List.replicate_zero,List.replicate_succ,if_true,if_false,Bool.false_eq_true,Bool.true_eq_false,Bool.not_true,Bool.not_false])))
local macro_rules | `(tactic| walk_at "up")=>`(tactic| first | assumption | (refine Same.get (by assumption) ?_;walk_at "up"))
local macro_rules | `(tactic| walk_at "lk")=>`(tactic| ((repeat (first | rw [lkc,if_pos rfl] | rw [lkc,if_neg (by decide +kernel)]));first | done | rfl))
def top (i:Nat):Stmt:=PySem.Challenge.pw_sorthall_k57_whatever_the_rule_tells.main.body.getD i (.Pass ⟨0,0,0,0⟩)
abbrev ZCd:Stmt:=top 2
abbrev ZBG:Stmt:=ZAp (top 7) 0
abbrev ZAt:Stmt:=ZAp (top 7) 1
abbrev ZA9:Stmt:=ZAp (top 7) 2
abbrev ZA0:Stmt:=ZAp (top 7) 3
abbrev ZAl:Stmt:=ZAp (top 7) 4
abbrev ZBM:Stmt:=ZAp (top 7) 5
abbrev ZA1:Stmt:=ZAp (top 7) 6
abbrev ZBn:Stmt:=top 8
abbrev ZAz:Stmt:=top 10
abbrev ZBY:Stmt:=top 11
abbrev ZBX:Stmt:=top 13
abbrev ZBo:Stmt:=top 14
abbrev ZCG:Stmt:=top 16
abbrev ZBF:Stmt:=ZAp (top 18) 0
abbrev ZAk:Stmt:=ZAp (top 18) 1
abbrev ZAU:Stmt:=ZAp (top 18) 2
abbrev ZAs:Stmt:=ZAp (top 18) 3
abbrev ZAY:Stmt:=ZAp (top 18) 4
abbrev ZBL:Stmt:=ZAp (top 18) 5
abbrev ZBE:Stmt:=ZAp (top 18) 6
abbrev ZAr:Stmt:=ZAp (top 18) 7
abbrev ZA8:Stmt:=ZAp (top 18) 8
abbrev ZBB:Stmt:=ZAp (top 23) 0
abbrev ZBA:Stmt:=ZAp (top 23) 1
abbrev ZA3:Stmt:=ZAp (top 23) 2
abbrev ZAm:Stmt:=ZAp (top 26) 0
abbrev ZAb:Stmt:=ZAp (top 26) 1
abbrev ZBZ:Stmt:=top 28
abbrev ZBd:Stmt:=top 29
abbrev ZCc:Stmt:=top 30
abbrev ZDU:Stmt:=top 31
abbrev ZCp:Stmt:=top 32
theorem sc_leap:FnScope ["asker","order","first","place","low","high","wide","middle"] ["asker","order","first","place"] (ZAC ZCd):=⟨rfl,rfl,rfl,by decide +kernel,rfl,by decide +kernel,by decide +kernel⟩
theorem sc_Join_init:FnScope ["self","asker","left","right"] ["self","asker","left","right"] (ZAC ZBG):=⟨rfl,rfl,rfl,by decide +kernel,rfl,by decide +kernel,by decide +kernel⟩
theorem sc_Join_has_more:FnScope ["self","side"] ["self","side"] (ZAC ZAt):=⟨rfl,rfl,rfl,by decide +kernel,rfl,by decide +kernel,by decide +kernel⟩
theorem sc_Join_front:FnScope ["self","side"] ["self","side"] (ZAC ZA9):=⟨rfl,rfl,rfl,by decide +kernel,rfl,by decide +kernel,by decide +kernel⟩
theorem sc_Join_take_on:FnScope ["self","side","more","start"] ["self","side","more"] (ZAC ZA0):=⟨rfl,rfl,rfl,by decide +kernel,rfl,by decide +kernel,by decide +kernel⟩
theorem sc_Join_take_rest:FnScope ["self","side"] ["self","side"] (ZAC ZAl):=⟨rfl,rfl,rfl,by decide +kernel,rfl,by decide +kernel,by decide +kernel⟩
theorem sc_Join_win:FnScope ["self","side"] ["self"] (ZAC ZBM):=⟨rfl,rfl,rfl,by decide +kernel,rfl,by decide +kernel,by decide +kernel⟩
theorem sc_Join_leap_on:FnScope ["self","side","other"] ["self","side"] (ZAC ZA1):=⟨rfl,rfl,rfl,by decide +kernel,rfl,by decide +kernel,by decide +kernel⟩
theorem sc_joined:FnScope ["asker","left","right","join","wins","winner","side"] ["asker","left","right"] (ZAC ZBn):=⟨rfl,rfl,rfl,by decide +kernel,rfl,by decide +kernel,by decide +kernel⟩
theorem sc_stretch_from:FnScope ["asker","first","end","stop","beyond","falling"] ["asker","first","end"] (ZAC ZAz):=⟨rfl,rfl,rfl,by decide +kernel,rfl,by decide +kernel,by decide +kernel⟩
theorem sc_in_turn:FnScope ["first","beyond","falling","places"] ["first","beyond","falling"] (ZAC ZBY):=⟨rfl,rfl,rfl,by decide +kernel,rfl,by decide +kernel,by decide +kernel⟩
theorem sc_spot_of:FnScope ["asker","order","place","low","high","middle"] ["asker","order","place"] (ZAC ZBX):=⟨rfl,rfl,rfl,by decide +kernel,rfl,by decide +kernel,by decide +kernel⟩
theorem sc_filled:FnScope ["asker","first","least","end","stop","part","found","order","place"] ["asker","first","least","end"] (ZAC ZBo):=⟨rfl,rfl,rfl,by decide +kernel,rfl,by decide +kernel,by decide +kernel⟩
theorem sc_grade:FnScope ["many","first","middle","beyond","lower","upper","found"] ["many","first","middle","beyond"] (ZAC ZCG):=⟨rfl,rfl,rfl,by decide +kernel,rfl,by decide +kernel,by decide +kernel⟩
theorem sc_Pile_init:FnScope ["self","asker","least","part"] ["self","asker","least","part"] (ZAC ZBF):=⟨rfl,rfl,rfl,by decide +kernel,rfl,by decide +kernel,by decide +kernel⟩
theorem sc_Pile_beyond_of:FnScope ["self","number"] ["self","number"] (ZAC ZAk):=⟨rfl,rfl,rfl,by decide +kernel,rfl,by decide +kernel,by decide +kernel⟩
theorem sc_Pile_is_due_beneath:FnScope ["self"] ["self"] (ZAC ZAU):=⟨rfl,rfl,rfl,by decide +kernel,rfl,by decide +kernel,by decide +kernel⟩
theorem sc_Pile_join_two:FnScope ["self","lower","order","deed"] ["self","lower"] (ZAC ZAs):=⟨rfl,rfl,rfl,by decide +kernel,rfl,by decide +kernel,by decide +kernel⟩
theorem sc_Pile_grade_on_top:FnScope ["self","middle","beyond"] ["self","middle","beyond"] (ZAC ZAY):=⟨rfl,rfl,rfl,by decide +kernel,rfl,by decide +kernel,by decide +kernel⟩
theorem sc_Pile_lay:FnScope ["self","first","found","beyond"] ["self"] (ZAC ZBL):=⟨rfl,rfl,rfl,by decide +kernel,rfl,by decide +kernel,by decide +kernel⟩
theorem sc_Pile_step:FnScope ["self"] ["self"] (ZAC ZBE):=⟨rfl,rfl,rfl,by decide +kernel,rfl,by decide +kernel,by decide +kernel⟩
theorem sc_Pile_standing:FnScope ["self","grades"] ["self"] (ZAC ZAr):=⟨rfl,rfl,rfl,by decide +kernel,rfl,by decide +kernel,by decide +kernel⟩
theorem sc_Pile_paper:FnScope ["self","told","order"] ["self"] (ZAC ZA8):=⟨rfl,rfl,rfl,by decide +kernel,rfl,by decide +kernel,by decide +kernel⟩
theorem sc_Asker_init:FnScope ["self","row","rule","most"] ["self","row","rule","most"] (ZAC ZBB):=⟨rfl,rfl,rfl,by decide +kernel,rfl,by decide +kernel,by decide +kernel⟩
theorem sc_Asker_many:FnScope ["self"] ["self"] (ZAC ZBA):=⟨rfl,rfl,rfl,by decide +kernel,rfl,by decide +kernel,by decide +kernel⟩
theorem sc_Asker_ahead:FnScope ["self","p","q","later","earlier","said"] ["self","p","q"] (ZAC ZA3):=⟨rfl,rfl,rfl,by decide +kernel,rfl,by decide +kernel,by decide +kernel⟩
theorem sc_AskedRule_init:FnScope ["self","teller"] ["self","teller"] (ZAC ZAm):=⟨rfl,rfl,rfl,by decide +kernel,rfl,by decide +kernel,by decide +kernel⟩
theorem sc_AskedRule_before:FnScope ["self","x","y","teller"] ["self","x","y"] (ZAC ZAb):=⟨rfl,rfl,rfl,by decide +kernel,rfl,by decide +kernel,by decide +kernel⟩
theorem sc_cell_at:FnScope ["_law_script","_law_k"] ["_law_script","_law_k"] (ZAC ZBZ):=⟨rfl,rfl,rfl,by decide +kernel,rfl,by decide +kernel,by decide +kernel⟩
theorem sc_teller:FnScope ["_law_bits","_law_way","_law_written","_law_ask"] ["_law_bits","_law_way","_law_written"] (ZAC ZBd):=⟨rfl,rfl,rfl,by decide +kernel,rfl,by decide +kernel,by decide +kernel⟩
theorem sc_most:FnScope ["_law_step","_law_many","_law_size","_law_most_here"] ["_law_step","_law_many"] (ZAC ZCc):=⟨rfl,rfl,rfl,by decide +kernel,rfl,by decide +kernel,by decide +kernel⟩
theorem sc_sum:FnScope ["_law_lays","_law_many","_law_told","_law_first","_law_beyond","_law_most_here","_law_double"] ["_law_lays","_law_many"] (ZAC ZDU):=⟨rfl,rfl,rfl,by decide +kernel,rfl,by decide +kernel,by decide +kernel⟩
theorem sc_law:FnScope ["_law_script","_law_many","_law_least","_law_bits","_law_written","_law_rule","_law_pile","_law_lays","_law_asked","_law_step","_law_more"] ["_law_script"] (ZAC ZCp):=⟨rfl,rfl,rfl,by decide +kernel,rfl,by decide +kernel,by decide +kernel⟩
abbrev ZAN:Stmt:=inBody ZBd 0
theorem csc_teller:CloScope ["_law_one","_law_other","_law_way","_law_bits","_law_written"] ["_law_one","_law_other"] ["_law_way","_law_bits","_law_written"] (ZAC ZAN):=⟨rfl,rfl,rfl,by decide +kernel,rfl,rfl,by decide,by decide +kernel,by decide +kernel,by decide +kernel,fun x h=>(show ∀ y∈(ZAC ZAN).names,y.2=.free->y.1∈(["_law_way","_law_bits","_law_written"]:List Str) by decide +kernel) _ (PySem.mem_of_lookup h) rfl⟩
structure Bt (K:W.Frag) (mg:Str->Option Value) (C_Join C_Pile C_Asker C_AskedRule:Addr):Prop where
 b_len:mg "len"=none
 b_range:mg "range"=none
 b_list:mg "list"=none
 b_max:mg "max"=none
 b_min:mg "min"=none
 b_sorted:mg "sorted"=none
 b_enumerate:mg "enumerate"=none
 b_ValueError:mg "ValueError"=none
 c_LEFT:∃ t,mg "LEFT"=some (.int 0 t)
 c_RIGHT:∃ t,mg "RIGHT"=some (.int 1 t)
 c_WINS_TO_LEAP:∃ t,mg "WINS_TO_LEAP"=some (.int 4 t)
 m_Join:mg "Join"=some (.ref C_Join)
 cl_Join:Cls K C_Join
 n_Join_asker:NoAttr K C_Join "asker"
 n_Join_sides:NoAttr K C_Join "sides"
 n_Join_taken:NoAttr K C_Join "taken"
 n_Join_places:NoAttr K C_Join "places"
 m_Pile:mg "Pile"=some (.ref C_Pile)
 cl_Pile:Cls K C_Pile
 n_Pile_asker:NoAttr K C_Pile "asker"
 n_Pile_least:NoAttr K C_Pile "least"
 n_Pile_start:NoAttr K C_Pile "start"
 n_Pile_end:NoAttr K C_Pile "end"
 n_Pile_reached:NoAttr K C_Pile "reached"
 n_Pile_firsts:NoAttr K C_Pile "firsts"
 n_Pile_orders:NoAttr K C_Pile "orders"
 n_Pile_grades:NoAttr K C_Pile "grades"
 m_Asker:mg "Asker"=some (.ref C_Asker)
 cl_Asker:Cls K C_Asker
 n_Asker_row:NoAttr K C_Asker "row"
 n_Asker_rule:NoAttr K C_Asker "rule"
 n_Asker_most:NoAttr K C_Asker "most"
 n_Asker_asked:NoAttr K C_Asker "asked"
 n_Asker_told:NoAttr K C_Asker "told"
 m_AskedRule:mg "AskedRule"=some (.ref C_AskedRule)
 cl_AskedRule:Cls K C_AskedRule
 n_AskedRule_teller:NoAttr K C_AskedRule "teller"
 kit_int_bool:PySem.W.kitOne K (.type "int") (.type "bool")=some false
def cellOf (ns:List Int) (k:Int):Int:=if k < (ns.length:Int) then (ns[k.toNat]?).getD 0 else 0
def ZDe (K:W.Frag):Sp:=fun vs H Q _=>∃ (a:Addr) (ns:List Int) (k:Int),vs=[.ref a,.int k] /\ SqL K H a (ns.map V.int) /\ 0 <= k /\ Q (.int (cellOf ns k)) H
def ZC8:Sp:=fun vs H Q _=>∃ m a b c:Int,vs=[.int m,.int a,.int b,.int c] /\ 1 < m /\ m < 2 ^ 240 /\ 0 <= a /\ a < b /\ b < c /\ c <= m /\ ∀ g:Nat,Gr.IsG m (a+b) (b+c) g->g <= 240->Q (.int g) H
theorem pow240 {p:Nat} {m:Int} (hm:m < 2 ^ 240) (hp:240 <= p):m <= 2 ^ p:=by
 obtain ⟨d,rfl⟩:∃ d,p=240+d:=⟨p-240,by omega⟩
 have h1:(1:Int) <= 2 ^ d:=Gr.p2pos d
 rw [Int.pow_add]
 have h2:(2:Int) ^ 240 * 1 <= 2 ^ 240 * 2 ^ d:=Int.mul_le_mul_of_nonneg_left h1 (by decide)
 omega
theorem dbl (x:Int) (p:Nat):2 * (x * 2 ^ p)=x * 2 ^ (p+1):=by rw [Int.pow_succ,Int.mul_comm 2,Int.mul_assoc]
theorem smallL {n:Nat} (h:n <= 90000):n < sizeLine:=Nat.lt_of_le_of_lt h (by decide)
abbrev fA (rl ru:Addr) (m:V) (n:Int) (tl:Addr):List (Str×V):=[("told",.ref tl),("asked",.int n),("most",m),("rule",.ref ru),("row",.ref rl)]
abbrev fR (g:Addr):List (Str×V):=[("teller",.ref g)]
def ZBx (CA:Addr):Sp:=fun vs H Q _=>∃ (x dx r:Addr) (ru:Addr) (m:V) (xs:List V),vs=[.ref x,.ref r,.ref ru,m] /\ H x=some (.ins CA dx []) /\ H r=some (.lst xs) /\
 ∀ rl tl H',(∀ b o,b≠x->H b=some o->H' b=some o)->H rl=none->H tl=none->rl≠tl->Ins H' x CA (fA rl ru m 0 tl)->H' rl=some (.lst xs)->H' tl=some (.lst [])->Q .non H'
def ZC0 (CA:Addr):Sp:=fun vs H Q _=>∃ (a rl ru tl:Addr) (m:V) (n:Int) (xs:List V),vs=[.ref a] /\ Ins H a CA (fA rl ru m n tl) /\ H rl=some (.lst xs) /\ Q (.int xs.length) H
def ZCE (CR:Addr):Sp:=fun vs H Q _=>∃ (x dx g:Addr),vs=[.ref x,.ref g] /\ H x=some (.ins CR dx []) /\ ∀ H',(∀ b o,b≠x->H b=some o->H' b=some o)->Ins H' x CR (fR g)->Q .non H'
def ZCL (CR:Addr) (r:V->List V->Hp->VK->Prop):Sp:=fun vs H Q _=>∃ (ru g:Addr) (x y:V),vs=[.ref ru,x,y] /\ Ins H ru CR (fR g) /\ (∃ o,H g=some (FZ o) /\ ∃ fd,o.data=.func fd) /\ r (.ref g) [x,y] H Q
def ZBy (CA CR:Addr) (r:V->List V->Hp->VK->Prop):Sp:=fun vs H Q _=>∃ (a rl ru tl:Addr) (n p q:Int) (xs ts:List V) (x y:V),vs=[.ref a,.int p,.int q] /\ Ins H a CA (fA rl ru .non n tl) /\ H rl=some (.lst xs) /\ p≠q /\ 0 <= p /\ 0 <= q /\
 xs[(max p q).toNat]?=some x /\ xs[(min p q).toNat]?=some y /\ ZCL CR r [.ref ru,x,y] H (fun v H1=>∃ b,v=.bl b /\ Ins H1 a CA (fA rl ru .non n tl) /\ H1 tl=some (.lst ts) /\ ts.length <= 90000 /\
  ∀ t H2,H1 t=none->Ins H2 a CA (fA rl ru .non (n+1) tl)->H2 tl=some (.lst (ts++[.ref t]))->H2 t=some (.tup [.int (max p q),.int (min p q),.bl b])->(∀ c,c≠a->c≠tl->c≠t->H2 c=H1 c)->Q (.bl (if q < p then b else !b)) H2) E0
theorem fA_canon {rl ru tl:Addr} {m:V} {n:Int}:∀ f,(putF "told" (.ref tl) (putF "asked" (.int n) (putF "most" m (putF "rule" (.ref ru) (putF "row" (.ref rl) []))))).lookup f=(fA rl ru m n tl).lookup f:=fun f=>by
 simp only [ZAZ,lkc]
theorem fA_asked {rl ru tl:Addr} {m:V} {n k:Int}:∀ f,(putF "asked" (.int k) (fA rl ru m n tl)).lookup f=(fA rl ru m k tl).lookup f:=fun f=>by
 rw [ZAZ]
 by_cases h:f=("asked":Str)
 .subst h
  rw [if_pos rfl]
  exact (show List.lookup _ (fA rl ru m k tl)=some (.int k) by walk_at "lk").symm
 .simp only [lkc,h,if_false]
theorem once2 {α β:Type} {M:α->β->Prop} (P:α->β->Prop) {G:Prop} (h:(∀ x y,P x y->M x y)->G) (t:∀ x y,P x y->M x y):G:=h t
theorem once4 {α β γ δ:Type} {M:α->β->γ->δ->Prop} (P:α->β->γ->δ->Prop) {G:Prop} (h:(∀ x y z u,P x y z u->M x y z u)->G) (t:∀ x y z u,P x y z u->M x y z u):G:=h t
theorem er_map {α β:Type} (f:α->β) (l:List α) (k:Nat):(l.map f).eraseIdx k=(l.eraseIdx k).map f:=by
 rw [List.eraseIdx_eq_take_drop_succ,List.eraseIdx_eq_take_drop_succ,yAT,List.map_take,List.map_drop]
theorem ZC2 {H H':Hp} {S:List Addr} {a C:Addr} {fl:List (Str×V)} (e:Fr S H H') (n:a∉S) (h:Ins H a C fl):Ins H' a C fl:=let ⟨dx,fs,h1,h2,h3⟩:=h.ex;⟨dx,fs,e _ _ n h1,h2,h3⟩
structure ToldP (H:Hp) (pr:List (Nat×Nat)) (ts:List V):Prop where
 len:ts.length=pr.length
 get:∀ (j p q:Nat),pr[j]?=some (p,q)->∃ t b,ts[j]?=some (V.ref t) /\ H t=some (.tup [.int p,.int q,.bl b])
theorem ToldP.keep {H H':Hp} {pr:List (Nat×Nat)} {ts:List V} (e:∀ t x,H t=some (.tup x)->H' t=some (.tup x)) (h:ToldP H pr ts):ToldP H' pr ts :=
 ⟨h.len,fun j p q hj=>let ⟨t,b,a,c⟩:=h.get j p q hj;⟨t,b,a,e _ _ c⟩⟩
theorem ToldP.snoc {H:Hp} {pr:List (Nat×Nat)} {ts:List V} {p q:Nat} {b:Bool} {t:Addr} (h:ToldP H pr ts) (ht:H t=some (.tup [.int p,.int q,.bl b])):ToldP H (pr++[(p,q)]) (ts++[.ref t]):=by
 refine ⟨by rw [yAB,yAB,h.len];rfl,fun j p' q' hj=>?_⟩
 by_cases hl:j < pr.length
 .rw [yAU hl] at hj
  obtain ⟨t',b',a,c⟩:=h.get j p' q' hj
  exact ⟨t',b',by rw [yAU (by rw [h.len];exact hl)];exact a,c⟩
 .have e:=(yAJ.mp hj).1
  rw [yAB] at e
  have hj':j=pr.length:=by have:([(p,q)]:List (Nat×Nat)).length=1:=rfl;omega
  subst hj'
  rw [yBD (yAA _),yAY] at hj
  cases hj
  exact ⟨t,b,by rw [<- h.len,yBD (yAA _),yAY];rfl,ht⟩
structure Prs (H:Hp) (qr:List (Nat×Nat)) (ws:List V):Prop where
 len:ws.length=qr.length
 get:∀ (j p q:Nat),qr[j]?=some (p,q)->∃ t,ws[j]?=some (V.ref t) /\ H t=some (.tup [.int p,.int q])
theorem Prs.keep {H H':Hp} {pr:List (Nat×Nat)} {ts:List V} (e:∀ t x,H t=some (.tup x)->H' t=some (.tup x)) (h:Prs H pr ts):Prs H' pr ts :=
 ⟨h.len,fun j p q hj=>let ⟨t,a,b⟩:=h.get j p q hj;⟨t,a,e _ _ b⟩⟩
theorem Prs.snoc {H:Hp} {pr:List (Nat×Nat)} {ts:List V} {p q:Nat} {t:Addr} (h:Prs H pr ts) (ht:H t=some (.tup [.int p,.int q])):Prs H (pr++[(p,q)]) (ts++[.ref t]):=by
 refine ⟨by rw [yAB,yAB,h.len];rfl,fun j p' q' hj=>?_⟩
 by_cases hl:j < pr.length
 .rw [yAU hl] at hj
  obtain ⟨t',a,b⟩:=h.get j p' q' hj
  exact ⟨t',by rw [yAU (by rw [h.len];exact hl)];exact a,b⟩
 .have e:=(yAJ.mp hj).1
  rw [yAB] at e
  have hj':j=pr.length:=by have:([(p,q)]:List (Nat×Nat)).length=1:=rfl;omega
  subst hj'
  rw [yBD (yAA _),yAY] at hj
  cases hj
  exact ⟨t,by rw [<- h.len,yBD (yAA _),yAY];rfl,ht⟩
def TlW (H:Hp) (g lg:Addr):Prop:=∃ (bl:Addr) (way:Int) (bs:List Bool) (ob:Obj),Clo H g "_law_ask" "_law_teller.<locals>._law_ask" (ZAL ZAN) (ZAK ZAN) (ZAC ZAN) ["_law_way","_law_bits","_law_written"] [.int way,.ref bl,.ref lg] /\ H bl=some (.frz ob (.lst (bs.map V.bl))) /\ bs≠[] /\ bs.length <= 1000
theorem TlW.mono {H H':Hp} {g lg:Addr} (e:∀ b o u,H b=some (.frz o u)->H' b=some (.frz o u)) (h:TlW H g lg):TlW H' g lg:=let ⟨bl,way,bs,ob,c,h1,h2⟩:=h;⟨bl,way,bs,ob,c.mono fun b o hb=>e _ _ _ hb,e _ _ _ h1,h2⟩
def ZA7:V->List V->Hp->VK->Prop:=fun f vs H Q=>∃ (g lg bl:Addr) (way:Int) (i j:Nat) (bs:List Bool) (ob:Obj) (ws:List V),f=.ref g /\ vs=[.int i,.int j] /\ Clo H g "_law_ask" "_law_teller.<locals>._law_ask" (ZAL ZAN) (ZAK ZAN) (ZAC ZAN) ["_law_way","_law_bits","_law_written"] [.int way,.ref bl,.ref lg] /\ H bl=some (.frz ob (.lst (bs.map V.bl))) /\ bs≠[] /\ bs.length <= 1000 /\ i <= 1000 /\ j <= 1000 /\ H lg=some (.lst ws) /\ ws.length <= 90000 /\
 ∀ t b,H t=none->Q (.bl b) (upd (upd H t (.tup [.int i,.int j])) lg (.lst (ws++[.ref t])))
theorem rT_mono {f:V} {vs:List V} {H:Hp} {Q Q':VK} (m:∀ v H,Q v H->Q' v H) (h:ZA7 f vs H Q):ZA7 f vs H Q':=by
 obtain ⟨g,lg,bl,way,i,j,bs,ob,ws,e1,e2,h1,h2,h3,h4,h7,h8,h9,h10,q⟩:=h
 exact ⟨g,lg,bl,way,i,j,bs,ob,ws,e1,e2,h1,h2,h3,h4,h7,h8,h9,h10,fun t b ht=>m _ _ (q t b ht)⟩
structure SitL (CA CR:Addr) (H:Hp) (ks:List Int) (xs:List V) (a rl ru tl g lg:Addr) (pr:List (Nat×Nat)):Prop where
 ha:Ins H a CA (fA rl ru .non pr.length tl)
 hrl:H rl=some (.lst xs)
 hru:Ins H ru CR (fR g)
 clo:TlW H g lg
 len:xs.length=ks.length
 row:∀ (i:Nat),i < ks.length->xs[i]?=some (V.int i)
 hlg:∃ ws,H lg=some (.lst ws) /\ Prs H pr ws
 htl:∃ ts,H tl=some (.lst ts) /\ ToldP H pr ts
 ne:lg≠tl /\ rl∉[a,lg,tl] /\ ru≠a
section
variable {CA CR:Addr} {H H':Hp} {ks:List Int} {xs:List V} {a rl ru tl g lg:Addr} {pr:List (Nat×Nat)}
theorem SitL.tupS (h:SitL CA CR H ks xs a rl ru tl g lg pr) {b:Addr} {o:HO} (hb:H b=some o) (n1:∀ x,o≠.lst x) (n2:∀ C d f,o≠.ins C d f):b∉[a,lg,tl]:=by
 obtain ⟨ws,hlg,_⟩:=h.hlg
 obtain ⟨ts,htl,_⟩:=h.htl
 intro z
 rcases yAF.mp z with z | z
 .exact h.ha.ne hb n2 z
 rcases yAF.mp z with z | z
 .rw [z,hlg] at hb;exact n1 _ (Option.some.inj hb).symm
 .rw [yAS.mp z,htl] at hb;exact n1 _ (Option.some.inj hb).symm
theorem SitL.ruS (h:SitL CA CR H ks xs a rl ru tl g lg pr):ru∉[a,lg,tl]:=by
 obtain ⟨ws,hlg,_⟩:=h.hlg
 obtain ⟨ts,htl,_⟩:=h.htl
 obtain ⟨d1,f1,e1,_⟩:=h.hru.ex
 intro z
 rcases yAF.mp z with z | z
 .exact h.ne.2.2 z
 rcases yAF.mp z with z | z
 .rw [z,hlg] at e1;cases e1
 .rw [yAS.mp z,htl] at e1;cases e1
theorem SitL.keep (h:SitL CA CR H ks xs a rl ru tl g lg pr) (e:Fr [a,lg,tl] H H') {pr':List (Nat×Nat)} {ts' ws':List V} (h1:Ins H' a CA (fA rl ru .non pr'.length tl)) (h2:H' tl=some (.lst ts')) (h3:ToldP H' pr' ts') (h4:H' lg=some (.lst ws')) (h5:Prs H' pr' ws'):SitL CA CR H' ks xs a rl ru tl g lg pr' where
 ha:=h1
 hrl:=e _ _ h.ne.2.1 h.hrl
 hru:=ZC2 e h.ruS h.hru
 clo:=h.clo.mono fun b o u hb=>e _ _ (h.tupS hb (fun _ z=>by cases z) (fun _ _ _ z=>by cases z)) hb
 len:=h.len
 row:=h.row
 hlg:=⟨_,h4,h5⟩
 htl:=⟨_,h2,h3⟩
 ne:=h.ne
theorem SitL.mono (h:SitL CA CR H ks xs a rl ru tl g lg pr) (e:Same H H'):SitL CA CR H' ks xs a rl ru tl g lg pr :=
 let ⟨_,h2,h3⟩:=h.htl;let ⟨_,h4,h5⟩:=h.hlg;h.keep e.fr (h.ha.mono e) (e _ _ h2) (h3.keep fun _ _ z=>e _ _ z) (e _ _ h4) (h5.keep fun _ _ z=>e _ _ z)
theorem SitL.ahead (h:SitL CA CR H ks xs a rl ru tl g lg pr) {p q:Nat} (hpq:p≠q) (hp:p < ks.length) (hq:q < ks.length) (hk:ks.length <= 1000) (hpr:pr.length <= 80000) {Q:VK}
  (fin:∀ b H',Fr [a,lg,tl] H H'->SitL CA CR H' ks xs a rl ru tl g lg (pr++[(max p q,min p q)])->Q (.bl (if q < p then b else !b)) H'):ZBy CA CR ZA7 [.ref a,.int p,.int q] H Q E0:=by
 obtain ⟨ws,hlg,hws⟩:=h.hlg
 obtain ⟨ts,htl,hts⟩:=h.htl
 have hmx:max p q < ks.length:=by omega
 have hmn:min p q < ks.length:=by omega
 have hx:=h.row (max p q) hmx
 have hy:=h.row (min p q) hmn
 have emx:(max (p:Int) q).toNat=max p q:=by omega
 have emn:(min (p:Int) q).toNat=min p q:=by omega
 refine ⟨a,rl,ru,tl,pr.length,p,q,xs,ts,.int (max p q:Nat),.int (min p q:Nat),rfl,h.ha,h.hrl,by omega,by omega,by omega,by rw [emx];exact hx,by rw [emn];exact hy,?_⟩
 obtain ⟨bl,way,bs,ob,hcl,hbs,hbn,hbz⟩:=h.clo
 obtain ⟨cl,C⟩:=id hcl
 obtain ⟨d1,d2,d3,d4,ho,_⟩:=C.obj
 refine ⟨ru,g,.int (max p q:Nat),.int (min p q:Nat),rfl,h.hru,⟨_,ho,_,rfl⟩,?_⟩
 refine ⟨g,lg,bl,way,max p q,min p q,bs,ob,ws,rfl,rfl,hcl,hbs,hbn,hbz,by omega,by omega,hlg,by rw [hws.len];omega,fun t b ht=>?_⟩
 have nta:t≠a:=h.ha.neN ht
 have ntg:lg≠t:=ZAD hlg ht
 have ntl:tl≠t:=ZAD htl ht
 have nlg:lg≠tl:=h.ne.1
 have nga:lg≠a:=h.ha.ne hlg fun _ _ _ z=>by cases z
 refine ⟨_,rfl,h.ha.keep (by rw [ZAF (Ne.symm nga),ZAF (Ne.symm nta)]),by rw [ZAF (Ne.symm nlg),ZAF ntl];exact htl,by rw [hts.len];omega,fun t2 H2 hn2 ha2 htl2 ht2 k2=>?_⟩
 have n2l:t2≠lg:=fun z=>by rw [z,ZAH] at hn2;cases hn2
 have n2t:t2≠t:=fun z=>by rw [z,ZAF (Ne.symm ntg),ZAH] at hn2;cases hn2
 have fr:Fr [a,lg,tl] H H2:=fun c o n hb=>by
  have m1:c≠a:=fun z=>n (by rw [z];exact yAE)
  have m2:c≠lg:=fun z=>n (by rw [z];exact yAC _ yAE)
  have m3:c≠tl:=fun z=>n (by rw [z];exact yAC _ (yAC _ yAE))
  have e1:(upd (upd H t (.tup [.int ((max p q:Nat):Int),.int ((min p q:Nat):Int)])) lg (.lst (ws++[.ref t]))) c=some o:=by rw [ZAF m2,ZAF (ZAD hb ht)];exact hb
  rw [k2 c m1 m3 (ZAD e1 hn2)]
  exact e1
 have tk:∀ b x,H b=some (.tup x)->H2 b=some (.tup x):=fun b x hb=>fr _ _ (h.tupS hb (fun _ z=>by cases z) (fun _ _ _ z=>by cases z)) hb
 have hlg2:H2 lg=some (.lst (ws++[.ref t])):=by rw [k2 lg nga nlg (Ne.symm n2l),ZAH]
 have ht':H2 t=some (.tup [.int ((max p q:Nat):Int),.int ((min p q:Nat):Int)]):=by rw [k2 t nta (Ne.symm ntl) (Ne.symm n2t),ZAF (Ne.symm ntg),ZAH]
 have ht2':H2 t2=some (.tup [.int ((max p q:Nat):Int),.int ((min p q:Nat):Int),.bl (b)]):=by
  rw [show (((max p q:Nat):Int))=max (p:Int) q by omega,show (((min p q:Nat):Int))=min (p:Int) q by omega]
  exact ht2
 have st:=h.keep fr (pr':=pr++[(max p q,min p q)]) (by rw [yAB];exact ha2) htl2 ((hts.keep tk).snoc ht2') hlg2 ((hws.keep tk).snoc ht')
 have g':=fin b H2 fr st
 by_cases hlt:q < p
 .rw [if_pos hlt] at g'
  rw [if_pos (by omega)]
  exact g'
 .rw [if_neg hlt] at g'
  rw [if_neg (by omega)]
  exact g'
end
theorem SitL.newS {CA CR:Addr} {H:Hp} {ks:List Int} {xs:List V} {a rl ru tl g lg:Addr} {pr:List (Nat×Nat)} (h:SitL CA CR H ks xs a rl ru tl g lg pr) {b:Addr} (hb:H b=none):b∉[a,lg,tl]:=by
 obtain ⟨ws,hlg,_⟩:=h.hlg
 obtain ⟨ts,htl,_⟩:=h.htl
 intro z
 rcases yAF.mp z with z | z
 .exact h.ha.neN hb z
 rcases yAF.mp z with z | z
 .rw [z,hlg] at hb;cases hb
 .rw [yAS.mp z,htl] at hb;cases hb
def ZCY (first j:Nat) (f:Bool):List Nat:=if f=true then (List.range' first (j-first)).reverse else List.range' first (j-first)
theorem turnN_len (first j:Nat) (f:Bool):(ZCY first j f).length=j-first:=by unfold ZCY;split <;> simp
abbrev nL (l:List Nat):List V:=l.map fun (x:Nat)=>V.int (x:Int)
theorem nL_ints (l:List Nat):nL l=(l.map fun (x:Nat)=>(x:Int)).map V.int:=by rw [List.map_map];rfl
theorem ZB6 {lo hi:Nat}:(ZBz (lo:Int) (hi:Int)).map V.int=nL (List.range' lo (hi-lo)):=by
 refine List.ext_getElem? fun i=>?_
 unfold nL
 rw [yAQ,yAQ]
 by_cases h:i < hi-lo
 .rw [List.getElem?_range' h,rints_get (by omega)]
  show some (V.int ((lo:Int)+i))=some (V.int ((lo+1 * i:Nat):Int))
  congr 2
  omega
 .rw [yBJ (by rw [ZBi];omega),yBJ (by rw [yBN];omega)]
  rfl
def ZCm:Sp:=fun vs H Q _=>∃ (first j:Nat) (f:Bool),vs=[.int first,.int j,.bl f] /\ first <= 1000 /\ j <= 1000 /\ ∀ l H',Same H H'->H l=none->H' l=some (.lst (nL (ZCY first j f)))->Q (.ref l) H'
inductive Halv (ks:List Int) (os:List Nat) (pl:Nat):Nat->Nat->Nat->List (Nat×Nat)->Prop
 | done {low high:Nat}:¬ low < high->Halv ks os pl low high low []
 | less {low high r o:Nat} {l:List (Nat×Nat)}:low < high->os[(low+high) / 2]?=some o->True->Halv ks os pl low ((low+high) / 2) r l->Halv ks os pl low high r ((pl,o)::l)
 | more {low high r o:Nat} {l:List (Nat×Nat)}:low < high->os[(low+high) / 2]?=some o->True->Halv ks os pl ((low+high) / 2+1) high r l->Halv ks os pl low high r ((pl,o)::l)
theorem Halv.bounds {ks:List Int} {os:List Nat} {pl low high r:Nat} {l:List (Nat×Nat)} (h:Halv ks os pl low high r l):low <= high->low <= r /\ r <= high:=by
 induction h with
 | done n=>intro h;omega
 | less a _ _ _ ih=>intro _;have:=ih (by omega);omega
 | more a _ _ _ ih=>intro _;have:=ih (by omega);omega
theorem Halv.len {ks:List Int} {os:List Nat} {pl low high r:Nat} {l:List (Nat×Nat)} (h:Halv ks os pl low high r l):l.length <= high-low:=by
 induction h with
 | done n=>simp
 | less a _ _ _ ih=>rw [yAG];omega
 | more a _ _ _ ih=>rw [yAG];omega
theorem Halv.each {ks:List Int} {os:List Nat} {pl low high r:Nat} {l:List (Nat×Nat)} (h:Halv ks os pl low high r l):∀ c∈l,c.1=pl /\ c.2∈os:=by
 induction h with
 | done n=>intro c h;cases h
 | less a b _ _ ih=>
  intro c h
  rcases yAF.mp h with z | z
  .rw [z];exact ⟨rfl,yAO b⟩
  .exact ih c z
 | more a b _ _ ih=>
  intro c h
  rcases yAF.mp h with z | z
  .rw [z];exact ⟨rfl,yAO b⟩
  .exact ih c z
def insN (os:List Nat) (r pl:Nat):List Nat:=os.take r++pl::os.drop r
theorem insN_len {os:List Nat} {r pl:Nat}:(insN os r pl).length=os.length+1:=by
 unfold insN
 rw [yAB,yAG,yBB,yBE]
 omega
inductive Put (ks:List Int):List Nat->Nat->Nat->List Nat->List (Nat×Nat)->Prop
 | nil {os:List Nat} {p e:Nat}:¬ p < e->Put ks os p e os []
 | cons {os os':List Nat} {p e r:Nat} {l l':List (Nat×Nat)}:p < e->Halv ks os p 0 os.length r l->Put ks (insN os r p) (p+1) e os' l'->Put ks os p e os' (l++l')
structure OrdN (ks:List Int) (first place:Nat) (os:List Nat):Prop where
 pm:os.Perm (List.range' first (place-first))
theorem OrdN.len {ks:List Int} {first place:Nat} {os:List Nat} (o:OrdN ks first place os):os.length=place-first:=by rw [o.pm.length_eq,yBN]
theorem OrdN.mem {ks:List Int} {first place:Nat} {os:List Nat} (o:OrdN ks first place os):∀ x,x∈os↔first <= x /\ x < place:=fun x=>by rw [o.pm.mem_iff,List.mem_range'_1];omega
theorem OrdN.ins {ks:List Int} {first place:Nat} {os:List Nat} {r:Nat} {l:List (Nat×Nat)} (hf:first <= place) (o:OrdN ks first place os) (h:Halv ks os place 0 os.length r l):OrdN ks first (place+1) (insN os r place):=by
 refine ⟨?_⟩
 rw [show place+1-first=(place-first)+1 by omega,List.range'_concat,show first+1 * (place-first)=place by omega]
 unfold insN
 refine List.perm_middle.trans ?_
 rw [List.take_append_drop]
 exact (o.pm.cons place).trans (List.perm_append_singleton _ _).symm
def Beyond (ks:List Int) (first stop j:Nat) (f:Bool):Prop:=first < j /\ j <= stop
def asks (first e:Nat):List (Nat×Nat):=(List.range' (first+1) (e-(first+1))).map fun k=>(k,k-1)
theorem ZCO (first e:Nat):(asks first e).length=e-(first+1):=by unfold asks;rw [yAD,yBN]
theorem asks_snoc {first k:Nat} (h:first+1 <= k):asks first (k+1)=asks first k++[(k,k-1)]:=by
 unfold asks
 rw [show k+1-(first+1)=(k-(first+1))+1 by omega,List.range'_concat,yAT]
 congr 1
 show [(first+1+1 * (k-(first+1)),first+1+1 * (k-(first+1))-1)]=_
 rw [show first+1+1 * (k-(first+1))=k by omega]
theorem asks_none {first e:Nat} (h:e <= first+1):asks first e=[]:=by unfold asks;rw [show e-(first+1)=0 by omega];rfl
theorem Beyond.two {ks:List Int} {first stop j:Nat} {f:Bool} (h:Beyond ks first stop j f):first < j /\ j <= stop:=h
theorem Beyond.ord {ks:List Int} {first stop j:Nat} {f:Bool} (h:Beyond ks first stop j f):OrdN ks first j (ZCY first j f):=⟨by unfold ZCY;split;exact List.reverse_perm _;exact .refl _⟩
def ZCC (CA CR:Addr):Sp:=fun vs H Q _=>∃ (ks:List Int) (xs:List V) (a rl ru tl g lg:Addr) (pr:List (Nat×Nat)) (first stop:Nat) (e:V),vs=[.ref a,.int first,e] /\ SitL CA CR H ks xs a rl ru tl g lg pr /\ ((e=.non /\ stop=ks.length)∨e=.int stop) /\ first < stop /\ stop <= ks.length /\ ks.length <= 119 /\ pr.length <= 50000 /\
 ∀ H' t j f,Fr [a,lg,tl] H H'->H' t=some (.tup [.int (j:Nat),.bl f])->Beyond ks first stop j f->SitL CA CR H' ks xs a rl ru tl g lg (pr++asks first (min (j+1) stop))->Q (.ref t) H'
theorem ZD4 {a lg tl b:Addr} (n1:b≠a) (n2:b≠lg) (n3:b≠tl):b∉[a,lg,tl]:=fun z=>by
 rcases yAF.mp z with z | z
 .exact n1 z
 rcases yAF.mp z with z | z
 .exact n2 z
 .exact n3 (yAS.mp z)
theorem SitL.upd {CA CR:Addr} {H:Hp} {ks:List Int} {xs:List V} {a rl ru tl g lg:Addr} {pr:List (Nat×Nat)} (h:SitL CA CR H ks xs a rl ru tl g lg pr) {l:Addr} {us us':List V} (hl:H l=some (.lst us)) (n:rl≠l /\ lg≠l /\ tl≠l):SitL CA CR (upd H l (.lst us')) ks xs a rl ru tl g lg pr:=by
 have k:∀ t o,H t=some o->(∀ x,o≠.lst x)->L2.upd H l (.lst us') t=some o:=fun t o z no=>by
  rw [ZAF (fun e=>by rw [e,hl] at z;exact no _ (Option.some.inj z).symm)];exact z
 have nla:l≠a:=h.ha.ne hl fun _ _ _ z=>by cases z
 refine ⟨h.ha.keep (ZAF (Ne.symm nla)),by rw [ZAF n.1];exact h.hrl,?_,?_,h.len,h.row,?_,?_,h.ne⟩
 .obtain ⟨d1,f1,e1,e2,e3⟩:=h.hru.ex
  exact ⟨d1,f1,k _ _ e1 (fun _ z=>by cases z),e2,e3⟩
 .exact h.clo.mono fun b o u hb=>k _ _ hb (fun _ z=>by cases z)
 .obtain ⟨ts,a1,a2⟩:=h.hlg
  exact ⟨ts,by rw [ZAF n.2.1];exact a1,a2.keep fun t x z=>k _ _ z (fun _ z=>by cases z)⟩
 .obtain ⟨ts,a1,a2⟩:=h.htl
  exact ⟨ts,by rw [ZAF n.2.2];exact a1,a2.keep fun t x z=>k _ _ z (fun _ z=>by cases z)⟩
def ZCh (CA CR:Addr):Sp:=fun vs H Q _=>∃ (ks:List Int) (xs:List V) (a rl ru tl g lg ol:Addr) (pr:List (Nat×Nat)) (os:List Nat) (pl:Nat),vs=[.ref a,.ref ol,.int pl] /\ SitL CA CR H ks xs a rl ru tl g lg pr /\ H ol=some (.lst (nL os)) /\ ol∉[a,lg,tl] /\ os.length <= 500 /\ (∀ x∈os,x < pl) /\ pl < ks.length /\ ks.length <= 1000 /\ pr.length <= 70000 /\
 ∀ H' r l,Fr [a,lg,tl] H H'->Halv ks os pl 0 os.length r l->SitL CA CR H' ks xs a rl ru tl g lg (pr++l)->Q (.int (r:Nat)) H'
theorem ZCX {os:List Nat} {m o:Nat} (h:os[m]?=some o):atI (nL os) (m:Int)=some (.int o):=ZAh (by omega) (by rw [Int.toNat_natCast,yAQ,h];rfl)
def ZCo (CA CR:Addr):Sp:=fun vs H Q _=>∃ (ks:List Int) (xs:List V) (a rl ru tl g lg:Addr) (pr:List (Nat×Nat)) (first least stop:Nat) (e:V),vs=[.ref a,.int first,.int least,e] /\ SitL CA CR H ks xs a rl ru tl g lg pr /\ pr.length <= 20000 /\ ((e=.non /\ stop=ks.length)∨e=.int stop) /\ first < stop /\ stop <= ks.length /\ ks.length <= 119 /\ least <= 500 /\
 ∀ H' t ol j f os l,Fr [a,lg,tl] H H'->H ol=none->ol∉[a,lg,tl]->H' t=some (.tup [.int (j:Nat),.ref ol])->H' ol=some (.lst (nL os))->Beyond ks first stop j f->Put ks (ZCY first j f) j (min (first+least) stop) os l->SitL CA CR H' ks xs a rl ru tl g lg (pr++(asks first (min (j+1) stop)++l))->Q (.ref t) H'
theorem insV_nL {os:List Nat} {r pl:Nat} (h:r <= os.length):insV (nL os) (r:Int) (.int pl)=nL (insN os r pl):=by
 unfold insV insN nL
 dsimp only
 rw [if_neg (by omega),Int.toNat_natCast,yAD,Nat.min_eq_left h,yAT,yAX,List.map_take,List.map_drop]
theorem Put.few {ks:List Int} {os os':List Nat} {p e:Nat} {l:List (Nat×Nat)} (h:Put ks os p e os' l):l.length <= (e-p) * (os.length+(e-p)):=by
 induction h with
 | nil n=>simp
 | @cons os os' p e r l l' a b c ih=>
  have hb:=b.len
  rw [insN_len,show os.length+1+(e-(p+1))=os.length+(e-p) by omega] at ih
  rw [yAB,show e-p=(e-(p+1))+1 by omega,Nat.add_mul,Nat.one_mul]
  rw [show os.length+(e-(p+1)+1)=os.length+(e-p) by omega]
  omega
theorem Put.all {ks:List Int} {first p e:Nat} {os os':List Nat} {l:List (Nat×Nat)} (h:Put ks os p e os' l):∀ pr:List (Nat×Nat),first <= p->OrdN ks first p os->OrdN ks first (max p e) os' /\ ∀ c∈l,c.2 < c.1:=by
 induction h with
 | nil n=>intro pr hf ho;exact ⟨by rw [show max _ _=_ from Nat.max_eq_left (Nat.not_lt.mp n)];exact ho,fun c h=>by cases h⟩
 | @cons os os' p e r l l' a b c ih=>
  intro pr hf ho
  have hlt:∀ x∈os,x < p:=fun x hx=>((ho.mem x).mp hx).2
  obtain ⟨i1,i3⟩:=ih (pr++l) (by omega) (ho.ins hf b)
  rw [show max (p+1) e=max p e by omega] at i1
  refine ⟨i1,fun x hx=>?_⟩
  rcases yBC.mp hx with z | z
  .obtain ⟨z1,z2⟩:=b.each x z
   rw [z1]
   exact hlt _ z2
  .exact i3 x z
theorem once0 {M G:Prop} (h:M->G) (t:M):G:=h t
theorem ZDB {γ:Type} {M:γ->Prop} (P:γ->Prop) {G:Prop} (h:(∀ z,P z->M z)->G) (t:∀ z,P z->M z):G:=h t
inductive Bin (z:Nat):Nat->Nat->List Nat->Prop
 | done {i:Nat}:Bin z i i []
 | more {lo hi:Nat} {l:List Nat}:lo < hi->(lo+hi-1) / 2 < z->Bin z ((lo+hi-1) / 2+1) hi l->Bin z lo hi ((lo+hi-1) / 2::l)
 | less {lo hi:Nat} {l:List Nat}:lo < hi->z <= (lo+hi-1) / 2->Bin z lo ((lo+hi-1) / 2) l->Bin z lo hi ((lo+hi-1) / 2::l)
inductive Gal (z n f:Nat):Nat->Nat->List Nat->Prop
 | out {lo far:Nat} {l:List Nat}:n <= far->Bin z lo n l->Gal z n f lo far l
 | stop {lo far:Nat} {l:List Nat}:far < n->z <= far->Bin z lo far l->Gal z n f lo far (far::l)
 | more {lo far:Nat} {l:List Nat}:far < n->far < z->Gal z n f (far+1) (2 * far-f+1) l->Gal z n f lo far (far::l)
theorem Bin.len {z lo hi:Nat} {l:List Nat} (h:Bin z lo hi l):l.length <= hi-lo:=by
 induction h with
 | done=>simp
 | more a b c ih=>rw [yAG];omega
 | less a b c ih=>rw [yAG];omega
theorem Bin.bits {z lo hi:Nat} {l:List Nat} (h:Bin z lo hi l):∀ k,hi-lo < 2 ^ k->l.length <= k:=by
 induction h with
 | done=>intro k _;simp
 | @more lo hi l a b c ih=>
  intro k hk
  cases k with
  | zero=>rw [Nat.pow_zero] at hk;omega
  | succ k=>
   rw [yBH] at hk
   rw [yAG]
   have:=ih k (by omega)
   omega
 | @less lo hi l a b c ih=>
  intro k hk
  cases k with
  | zero=>rw [Nat.pow_zero] at hk;omega
  | succ k=>
   rw [yBH] at hk
   rw [yAG]
   have:=ih k (by omega)
   omega
theorem ZB9 (j:Nat):2 ^ (j+1) / 2=2 ^ j:=by rw [yBH];omega
theorem lt_two_pow' (j:Nat):j+1 <= 2 ^ j:=Nat.lt_two_pow_self
theorem Gal.all {z n f lo far:Nat} {l:List Nat} (h:Gal z n f lo far l):∀ j:Nat,lo=f+2 ^ j / 2->far+1=f+2 ^ j->f <= n->lo <= n->z=n->l.length+j <= n-f:=by
 induction h with
 | @out lo far l a c=>
  intro j e1 e2 h1 h2 h3
  have:=c.len
  cases j with
  | zero=>rw [Nat.pow_zero] at e1;omega
  | succ j=>
   rw [ZB9] at e1
   have:=lt_two_pow' j
   omega
 | @stop lo far l a c d=>intro j e1 e2 h1 h2 h3;omega
 | @more lo far l a c d ih=>
  intro j e1 e2 h1 h2 h3
  have hp:=yBS (n:=j)
  have:=ih (j+1) (by rw [ZB9];omega) (by rw [yBH];omega) h1 (by omega) h3
  rw [yAG]
  omega
theorem Gal.range {z n f lo far:Nat} {l:List Nat} (h:Gal z n f lo far l):f <= lo->lo <= n->f <= far->∀ i∈l,f <= i /\ i < n:=by
 have hB:∀ {z lo hi:Nat} {l:List Nat},Bin z lo hi l->f <= lo->hi <= n->∀ i∈l,f <= i /\ i < n:=by
  intro z lo hi l h
  induction h with
  | done=>intro _ _ i hi;cases hi
  | more a b c ih=>
   intro h1 h2 i hi
   rcases yAF.mp hi with e | e
   .omega
   .exact ih (by omega) h2 i e
  | less a b c ih=>
   intro h1 h2 i hi
   rcases yAF.mp hi with e | e
   .omega
   .exact ih h1 (by omega) i e
 induction h with
 | out a b=>intro h1 h2 h3;exact hB b h1 (yAA _)
 | stop a b c=>
  intro h1 h2 h3 i hi
  rcases yAF.mp hi with e | e
  .omega
  .exact hB c h1 (by omega) i e
 | more a b c ih=>
  intro h1 h2 h3 i hi
  rcases yAF.mp hi with e | e
  .omega
  .exact ih (by omega) (by omega) (by omega) i e
def ask1 (os:List Nat) (pl i:Nat):Nat×Nat:=(max ((os[i]?).getD 0) pl,min ((os[i]?).getD 0) pl)
def ZDc (CA CR:Addr):Sp:=fun vs H Q _=>∃ (ks:List Int) (xs:List V) (a rl ru tl g lg ol:Addr) (pr:List (Nat×Nat)) (os:List Nat) (f pl:Nat),vs=[.ref a,.ref ol,.int f,.int pl] /\ SitL CA CR H ks xs a rl ru tl g lg pr /\ H ol=some (.lst (nL os)) /\ ol∉[a,lg,tl] /\ os.length <= 500 /\ (∀ x∈os,x < ks.length /\ x≠pl) /\ pl < ks.length /\ ks.length <= 1000 /\ pr.length <= 70000 /\ f <= os.length /\
 ∀ z H' L,f <= z->z <= os.length->Fr [a,lg,tl] H H'->Gal z os.length f f f L->SitL CA CR H' ks xs a rl ru tl g lg (pr++L.map (ask1 os pl))->Q (.int (z-f:Nat)) H'
structure LIn1 (CA CR:Addr) (ks:List Int) (xs:List V) (a rl ru tl g lg:Addr) (pr:List (Nat×Nat)) (os:List Nat) (f pl:Nat) (H:Hp) (lo far:Nat) (dn:List Nat) (H':Hp):Prop where
 h1:f <= lo
 h2:lo <= os.length
 h3:lo <= far
 h4:dn.length+f <= lo
 fr:Fr [a,lg,tl] H H'
 st:SitL CA CR H' ks xs a rl ru tl g lg (pr++dn.map (ask1 os pl))
 hg:∀ z L,lo <= z->Gal z os.length f lo far L->Gal z os.length f f f (dn++L)
structure LIn2 (CA CR:Addr) (ks:List Int) (xs:List V) (a rl ru tl g lg:Addr) (pr:List (Nat×Nat)) (os:List Nat) (f pl:Nat) (H:Hp) (lo hi:Nat) (dn:List Nat) (H':Hp):Prop where
 h1:f <= lo
 h2:lo <= hi
 h4:hi <= os.length
 h5:dn.length+(hi-lo) <= 2 * os.length+1
 fr:Fr [a,lg,tl] H H'
 st:SitL CA CR H' ks xs a rl ru tl g lg (pr++dn.map (ask1 os pl))
 hg:∀ z L,lo <= z->z <= hi->Bin z lo hi L->Gal z os.length f f f (dn++L)
def nw (w:Nat) (s:Bool):Nat:=if s then w+1 else 1
inductive JT (ks:List Int):List Nat->List Nat->Nat->Nat->Nat->Bool->List Nat->List (Nat×Nat)->Prop
 | done {ls rs:List Nat} {i j w:Nat} {s:Bool}:¬ (i < ls.length /\ j < rs.length)->JT ks ls rs i j w s (ls.drop i++rs.drop j) []
 | step {ls rs ps:List Nat} {i j w x y:Nat} {s:Bool} {L:List (Nat×Nat)}:ls[i]?=some x->rs[j]?=some y->True->nw w s≠4->JT ks ls rs (i+1) j (nw w s) true ps L->JT ks ls rs i j w s (x::ps) ((max x y,min x y)::L)
 | leap {ls rs ps G:List Nat} {i j w x y z:Nat} {s:Bool} {L:List (Nat×Nat)}:ls[i]?=some x->rs[j]?=some y->True->nw w s=4->i+1 <= z->z < ls.length->True->Gal z ls.length (i+1) (i+1) (i+1) G->JT ks ls rs z (j+1) 0 true ps L->JT ks ls rs i j w s ((ls.drop i).take (z-i)++y::ps) ((max x y,min x y)::(G.map (ask1 ls y)++L))
 | last {ls rs ps G:List Nat} {i j w x y:Nat} {s:Bool} {L:List (Nat×Nat)}:ls[i]?=some x->rs[j]?=some y->True->nw w s=4->True->Gal ls.length ls.length (i+1) (i+1) (i+1) G->JT ks ls rs ls.length j 0 true ps L->JT ks ls rs i j w s (ls.drop i++ps) ((max x y,min x y)::(G.map (ask1 ls y)++L))
 | swap {ls rs ps:List Nat} {i j w:Nat} {s:Bool} {L:List (Nat×Nat)}:JT ks rs ls j i w (!s) ps L->JT ks ls rs i j w s ps L
theorem ZBk {os:List Nat} {i x:Nat} (h:os[i]?=some x):os.drop i=x::os.drop (i+1):=by
 obtain ⟨h1,e⟩:=yAJ.mp h
 rw [List.drop_eq_getElem_cons h1,e]
theorem drop_seg {os:List Nat} {i z:Nat} (h:i <= z):os.drop i=(os.drop i).take (z-i)++os.drop z:=by
 have:os.drop z=(os.drop i).drop (z-i):=by rw [List.drop_drop,show i+(z-i)=z by omega]
 rw [this,List.take_append_drop]
theorem ask1_eq {os:List Nat} {pl i x:Nat} (h:os[i]?=some x):ask1 os pl i=(max x pl,min x pl):=by unfold ask1;rw [h];rfl
theorem mm_comm (x y:Nat):(max x y,min x y)=(max y x,min y x):=by rw [Nat.max_comm,Nat.min_comm]
theorem two_pow_lin (n:Nat):2 * (n+1) <= 2 ^ n+2:=by
 induction n with
 | zero=>decide
 | succ n ih=>
  rw [yBH]
  cases n with
  | zero=>decide
  | succ n=>rw [yBH] at *;have:=yBS (n:=n);omega
theorem bits_lin {g b:Nat} (h:∀ c,g < 2 ^ c->b <= c):max 1 (2 * b) <= g+2 /\ (g < 2->max 1 (2 * b) <= g+1):=by
 cases b with
 | zero=>omega
 | succ b=>
  have:2 ^ b <= g:=by
   rcases Nat.lt_or_ge g (2 ^ b) with z | z
   .have:=h b z;omega
   .exact z
  have:=two_pow_lin b
  refine ⟨by omega,fun z=>?_⟩
  cases b with
  | zero=>rw [Nat.pow_zero] at this;omega
  | succ b=>rw [yBH] at *;have:=yBS (n:=b);omega
theorem Gal.most' {z n f lo far:Nat} {l:List Nat} (h:Gal z n f lo far l):∀ (j b:Nat),lo=f+2 ^ j / 2->far+1=f+2 ^ j->f <= z->z <= n->z-f < 2 ^ b->(∀ c,z-f < 2 ^ c->b <= c)->j <= b->l.length+j <= max 1 (2 * b):=by
 induction h with
 | @out lo far l a c=>
  intro j b e1 e2 h1 h2 h3 h4 h5
  have hb:=h4 j (by omega)
  have ej:j=b:=by omega
  subst ej
  cases j with
  | zero=>
   rw [Nat.pow_zero] at e1 e2
   have:=c.len
   omega
  | succ j=>
   rw [ZB9] at e1
   rw [yBH] at e2
   have:=c.bits j (by have:=yBS (n:=j);omega)
   omega
 | @stop lo far l a c d=>
  intro j b e1 e2 h1 h2 h3 h4 h5
  have hb:=h4 j (by omega)
  have ej:j=b:=by omega
  subst ej
  rw [yAG]
  cases j with
  | zero=>
   rw [Nat.pow_zero] at e1 e2
   have:=d.len
   omega
  | succ j=>
   rw [ZB9] at e1
   rw [yBH] at e2
   have:=d.bits j (by have:=yBS (n:=j);omega)
   omega
 | @more lo far l a c d ih=>
  intro j b e1 e2 h1 h2 h3 h4 h5
  have hjb:j+1 <= b:=by
   rcases Nat.lt_or_ge j b with z | z
   .exact z
   .have:=Nat.pow_le_pow_right (show 2 > 0 by decide) z
    omega
  have hp:=yBS (n:=j)
  have:=ih (j+1) b (by rw [ZB9];omega) (by rw [yBH];omega) h1 h2 h3 h4 hjb
  rw [yAG]
  omega
def ZBN (g:Nat):Nat:=if g=0 then 0 else g.log2+1
theorem nbits_lt (g:Nat):g < 2 ^ ZBN g:=by
 unfold ZBN
 split
 .omega
 .exact (Nat.log2_lt (by omega)).mp (yBP _)
theorem ZCt {g c:Nat} (h:g < 2 ^ c):ZBN g <= c:=by
 unfold ZBN
 split
 .exact yAH _
 .exact (Nat.log2_lt (by omega)).mpr h
theorem Gal.looks {z n f:Nat} {l:List Nat} (h:Gal z n f f f l) (h1:f <= z) (h2:z <= n):l.length <= max 1 (2 * ZBN (z-f)):=by
 have:=h.most' 0 (ZBN (z-f)) (by simp) (by simp) h1 h2 (nbits_lt _) (fun c=>ZCt) (yAH _)
 omega
theorem Gal.lin {z n f:Nat} {l:List Nat} (h:Gal z n f f f l) (h1:f <= z) (h2:z <= n):7 * l.length <= 8 * (z-f)+12:=by
 have h3:=h.looks h1 h2
 obtain ⟨g1,g2⟩:=bits_lin (g:=z-f) (b:=ZBN (z-f)) fun c=>ZCt
 clear h
 generalize z-f=g at *
 generalize max 1 (2 * ZBN g)=m at *
 clear h1 h2
 omega
theorem JT.most7 {ks:List Int} {ls rs ps:List Nat} {i j w:Nat} {s:Bool} {L:List (Nat×Nat)} (h:JT ks ls rs i j w s ps L):w <= 3->i <= ls.length->j <= rs.length->1 <= (ls.length-i)+(rs.length-j)->7 * (L.length+1) <= 8 * ((ls.length-i)+(rs.length-j))+w:=by
 induction h with
 | done n=>intro h1 h2 h3 h4;rw [yBR];omega
 | @step ls rs ps i j w x y s L a b c d e ih=>
  intro h1 h2 h3 h4
  have hi:=(yAJ.mp a).1
  have hj:=(yAJ.mp b).1
  have hn:nw w s <= w+1:=by unfold nw;split <;> omega
  have:=ih (by omega) (by omega) h3 (by omega)
  rw [yAG]
  omega
 | @leap ls rs ps G i j w x y z s L a b c d e f g k l ih=>
  intro h1 h2 h3 h4
  have hi:=(yAJ.mp a).1
  have hj:=(yAJ.mp b).1
  have hw:w=3:=by unfold nw at d;split at d <;> omega
  have:=ih (by omega) (by omega) (by omega) (by omega)
  have hG:=k.lin e (yBI f)
  rw [yAG,yAB,yAD]
  omega
 | @last ls rs ps G i j w x y s L a b c d g k l ih=>
  intro h1 h2 h3 h4
  have hi:=(yAJ.mp a).1
  have hj:=(yAJ.mp b).1
  have:=ih (by omega) (by omega) (by omega) (by omega)
  have hG:=k.all 0 (by simp) (by simp) hi hi rfl
  rw [yAG,yAB,yAD]
  omega
 | @swap ls rs ps i j w s L h ih=>
  intro h1 h2 h3 h4
  have:=ih h1 h3 h2 (by omega)
  omega
theorem JT.most {ks:List Int} {ls rs ps:List Nat} {i j w:Nat} {s:Bool} {L:List (Nat×Nat)} (h:JT ks ls rs i j w s ps L) (h1:w <= 3) (h2:i <= ls.length) (h3:j <= rs.length) (h4:1 <= (ls.length-i)+(rs.length-j)):L.length+1 <= (ls.length-i)+(rs.length-j)+((ls.length-i)+(rs.length-j)+w) / 7:=by
 have:=h.most7 h1 h2 h3 h4
 clear h
 omega
theorem JT.len {ks:List Int} {ls rs ps:List Nat} {i j w:Nat} {s:Bool} {L:List (Nat×Nat)} (h:JT ks ls rs i j w s ps L):w <= 3->i <= ls.length->j <= rs.length->L.length <= 2 * ((ls.length-i)+(rs.length-j)):=by
 intro h1 h2 h3
 by_cases t:1 <= (ls.length-i)+(rs.length-j)
 .have:=h.most h1 h2 h3 t
  omega
 .have:∀ {ls rs ps:List Nat} {i j w:Nat} {s:Bool} {L:List (Nat×Nat)},JT ks ls rs i j w s ps L->ls.length <= i->rs.length <= j->L=[]:=by
   intro ls rs ps i j w s L h
   induction h with
   | done n=>intro _ _;rfl
   | step a=>intro h _;have:=(yAJ.mp a).1;omega
   | leap a=>intro h _;have:=(yAJ.mp a).1;omega
   | last a=>intro h _;have:=(yAJ.mp a).1;omega
   | swap h ih=>intro h1 h2;exact ih h2 h1
  rw [this h (by omega) (by omega)]
  exact yAH _
theorem JT.perm {ks:List Int} {ls rs ps:List Nat} {i j w:Nat} {s:Bool} {L:List (Nat×Nat)} (h:JT ks ls rs i j w s ps L):ps.Perm (ls.drop i++rs.drop j):=by
 induction h with
 | done _=>exact .refl _
 | step a b c d e ih=>rw [ZBk a];exact ih.cons _
 | @leap ls rs ps G i j w x y z s L a b c d e f g k l ih=>
  rw [drop_seg (os:=ls) (show i <= z by omega),yAL,List.take_append_of_le_length (by rw [yBB,yBE];omega),List.take_of_length_le (by rw [yBB];omega)]
  rw [ZBk b]
  exact List.Perm.append_left _ ((ih.cons _).trans List.perm_middle.symm)
 | @last ls rs ps G i j w x y s L a b c d g k l ih=>
  rw [List.drop_of_length_le (l:=ls) (yAA _),List.nil_append] at ih
  exact List.Perm.append_left _ ih
 | swap h ih=>exact ih.trans List.perm_append_comm
abbrev fJ (ak sd tk pc:Addr):List (Str×V):=[("places",.ref pc),("taken",.ref tk),("sides",.ref sd),("asker",.ref ak)]
def pk {α:Type} (b:Bool) (x y:α):List α:=if b then [x,y] else [y,x]
def sv (b:Bool):Int:=if b then 0 else 1
theorem ZBt {b:Bool} {x y:V}:atI (pk b x y) (sv b)=some x:=by cases b <;> exact ZAh (by decide) rfl
theorem pk_swap {α:Type} {b:Bool} {x y:α}:pk (!b) y x=pk b x y:=by cases b <;> rfl
theorem pk_len {α:Type} {b:Bool} {x y:α}:(pk b x y).length=2:=by cases b <;> rfl
theorem pk_set {b:Bool} {x y z:V}:(pk b x y).set (sv b).toNat z=pk b z y:=by cases b <;> rfl
structure JS (CJ:Addr) (H:Hp) (b:Bool) (jn ak sd ma ta tk pc:Addr) (ms ts:List Nat) (i j:Nat) (dn:List Nat):Prop where
 hj:Ins H jn CJ (fJ ak sd tk pc)
 hsd:H sd=some (.tup (pk b (.ref ma) (.ref ta)))
 hma:H ma=some (.lst (nL ms))
 hta:H ta=some (.lst (nL ts))
 htk:H tk=some (.lst (pk b (.int i) (.int j)))
 hpc:H pc=some (.lst (nL dn))
 ne:tk≠pc /\ ma≠tk /\ ma≠pc /\ ta≠tk /\ ta≠pc
section
variable {CJ:Addr} {H H':Hp} {b:Bool} {jn ak sd ma ta tk pc:Addr} {ms ts:List Nat} {i j:Nat} {dn:List Nat}
theorem JS.swap (h:JS CJ H b jn ak sd ma ta tk pc ms ts i j dn):JS CJ H (!b) jn ak sd ta ma tk pc ts ms j i dn :=
 ⟨h.hj,by rw [pk_swap];exact h.hsd,h.hta,h.hma,by rw [pk_swap];exact h.htk,h.hpc,h.ne.1,h.ne.2.2.2.1,h.ne.2.2.2.2,h.ne.2.1,h.ne.2.2.1⟩
theorem JS.keep {i' j':Nat} {dn':List Nat} (h:JS CJ H b jn ak sd ma ta tk pc ms ts i j dn) (e:Fr [tk,pc] H H') (h1:H' tk=some (.lst (pk b (.int i') (.int j')))) (h2:H' pc=some (.lst (nL dn'))):JS CJ H' b jn ak sd ma ta tk pc ms ts i' j' dn':=by
 have n2:∀ {x:Addr},x≠tk->x≠pc->x∉[tk,pc]:=fun a b z=>(yAF.mp z).elim a fun z=>b (yAS.mp z)
 have hj:jn∉[tk,pc]:=n2 (Ne.symm (h.hj.ne h.htk fun _ _ _ z=>by cases z)) (Ne.symm (h.hj.ne h.hpc fun _ _ _ z=>by cases z))
 have hs:sd∉[tk,pc]:=n2 (fun z=>by have:=h.hsd;rw [z,h.htk] at this;cases this) (fun z=>by have:=h.hsd;rw [z,h.hpc] at this;cases this)
 exact ⟨ZC2 e hj h.hj,e _ _ hs h.hsd,e _ _ (n2 h.ne.2.1 h.ne.2.2.1) h.hma,e _ _ (n2 h.ne.2.2.2.1 h.ne.2.2.2.2) h.hta,h1,h2,h.ne⟩
theorem JS.fr {S:List Addr} (h:JS CJ H b jn ak sd ma ta tk pc ms ts i j dn) (e:Fr S H H') (n:jn∉S /\ sd∉S /\ ma∉S /\ ta∉S /\ tk∉S /\ pc∉S):JS CJ H' b jn ak sd ma ta tk pc ms ts i j dn :=
 ⟨ZC2 e n.1 h.hj,e _ _ n.2.1 h.hsd,e _ _ n.2.2.1 h.hma,e _ _ n.2.2.2.1 h.hta,e _ _ n.2.2.2.2.1 h.htk,e _ _ n.2.2.2.2.2 h.hpc,h.ne⟩
theorem JS.mono (h:JS CJ H b jn ak sd ma ta tk pc ms ts i j dn) (e:Same H H'):JS CJ H' b jn ak sd ma ta tk pc ms ts i j dn :=
 h.fr (S:=[]) e.fr ⟨yBG,yBG,yBG,yBG,yBG,yBG⟩
end
def ZC7 (CJ:Addr):Sp:=fun vs H Q _=>∃ (x dx ak al ar:Addr) (ls rs:List Nat),vs=[.ref x,.ref ak,.ref al,.ref ar] /\ H x=some (.ins CJ dx []) /\ H al=some (.lst (nL ls)) /\ H ar=some (.lst (nL rs)) /\
 ∀ sd la ra tk pc H',(∀ b o,b≠x->H b=some o->H' b=some o)->H sd=none->H la=none->H ra=none->H tk=none->H pc=none->JS CJ H' true x ak sd la ra tk pc ls rs 0 0 []->Q .non H'
def ZB5 (CJ:Addr):Sp:=fun vs H Q _=>∃ (b:Bool) (jn ak sd ma ta tk pc:Addr) (ms ts:List Nat) (i j:Nat) (dn:List Nat),vs=[.ref jn,.int (sv b)] /\ JS CJ H b jn ak sd ma ta tk pc ms ts i j dn /\ Q (.bl (decide (i < ms.length))) H
def ZCn (CJ:Addr):Sp:=fun vs H Q _=>∃ (b:Bool) (jn ak sd ma ta tk pc:Addr) (ms ts:List Nat) (i j:Nat) (dn:List Nat) (x:Nat),vs=[.ref jn,.int (sv b)] /\ JS CJ H b jn ak sd ma ta tk pc ms ts i j dn /\ ms[i]?=some x /\ Q (.int x) H
def ZB4 (CJ:Addr):Sp:=fun vs H Q _=>∃ (b:Bool) (jn ak sd ma ta tk pc:Addr) (ms ts:List Nat) (i j:Nat) (dn:List Nat) (m:Nat),vs=[.ref jn,.int (sv b),.int m] /\ JS CJ H b jn ak sd ma ta tk pc ms ts i j dn /\ i+m <= ms.length /\ dn.length+ms.length <= 1000 /\
 ∀ H',Fr [tk,pc] H H'->JS CJ H' b jn ak sd ma ta tk pc ms ts (i+m) j (dn++(ms.drop i).take m)->Q .non H'
def ZCB (CJ:Addr):Sp:=fun vs H Q _=>∃ (b:Bool) (jn ak sd ma ta tk pc:Addr) (ms ts:List Nat) (i j:Nat) (dn:List Nat),vs=[.ref jn,.int (sv b)] /\ JS CJ H b jn ak sd ma ta tk pc ms ts i j dn /\ i <= ms.length /\ dn.length+ms.length <= 1000 /\
 ∀ H',Fr [tk,pc] H H'->JS CJ H' b jn ak sd ma ta tk pc ms ts ms.length j (dn++ms.drop i)->Q .non H'
theorem SitL.apart {CA CR:Addr} {H H':Hp} {ks:List Int} {xs:List V} {a rl ru tl g lg:Addr} {pr:List (Nat×Nat)} {S:List Addr} (h:SitL CA CR H ks xs a rl ru tl g lg pr) (e:Fr S H H') (hS:∀ b∈S,∃ l,H b=some (.lst l)) (n:rl∉S /\ lg∉S /\ tl∉S):SitL CA CR H' ks xs a rl ru tl g lg pr:=by
 have k:∀ {b:Addr} {o:HO},H b=some o->(∀ l,o≠.lst l)->H' b=some o:=fun {b o} hb z=>e _ _ (fun m=>by obtain ⟨l,hl⟩:=hS b m;rw [hl] at hb;exact z _ (Option.some.inj hb).symm) hb
 have ki:∀ {b C:Addr} {fl:List (Str×V)},Ins H b C fl->Ins H' b C fl:=fun hi=>let ⟨dx,fs,h1,h2,h3⟩:=hi.ex;⟨dx,fs,k h1 (fun _ z=>by cases z),h2,h3⟩
 obtain ⟨ws,h4,h5⟩:=h.hlg
 obtain ⟨us,h6,h7⟩:=h.htl
 have hclo:=h.clo.mono (H':=H') (fun b o u hb=>k hb (fun _ z=>by cases z))
 have hl:=h5.keep (H':=H') (fun _ _ z=>k z (fun _ y=>by cases y))
 have ht:=h7.keep (H':=H') (fun _ _ z=>k z (fun _ y=>by cases y))
 exact ⟨ki h.ha,e _ _ n.1 h.hrl,ki h.hru,hclo,h.len,h.row,⟨ws,e _ _ n.2.1 h4,hl⟩,⟨us,e _ _ n.2.2 h6,ht⟩,h.ne⟩
structure NX (a rl lg tl jn sd ma ta tk pc:Addr):Prop where
 n1:jn∉[a,lg,tl] /\ sd∉[a,lg,tl] /\ ma∉[a,lg,tl] /\ ta∉[a,lg,tl] /\ tk∉[a,lg,tl] /\ pc∉[a,lg,tl]
 n2:rl∉[tk,pc] /\ lg∉[tk,pc] /\ tl∉[tk,pc]
theorem NX.swap {a rl lg tl jn sd ma ta tk pc:Addr} (h:NX a rl lg tl jn sd ma ta tk pc):NX a rl lg tl jn sd ta ma tk pc:=⟨⟨h.n1.1,h.n1.2.1,h.n1.2.2.2.1,h.n1.2.2.1,h.n1.2.2.2.2⟩,h.n2⟩
theorem fr_sub {S S':List Addr} {H H':Hp} (h:Fr S H H') (k:∀ b∈S,b∈S'):Fr S' H H':=fun b o n hb=>h b o (fun m=>n (k b m)) hb
theorem fr5a {a lg tl tk pc:Addr} {H H':Hp} (h:Fr [a,lg,tl] H H'):Fr [a,lg,tl,tk,pc] H H':=fr_sub h fun b hb=>by
 rcases yAF.mp hb with z | z
 .rw [z];exact yAE
 rcases yAF.mp z with z | z
 .rw [z];exact yAC _ yAE
 .rw [yAS.mp z];exact yAC _ (yAC _ yAE)
theorem fr5b {a lg tl tk pc:Addr} {H H':Hp} (h:Fr [tk,pc] H H'):Fr [a,lg,tl,tk,pc] H H'  :=fr_sub h fun b hb=>yAC _ (yAC _ (yAC _ hb))
section
variable {CA CR CJ:Addr} {H H':Hp} {b:Bool} {ks:List Int} {xs:List V} {jn a rl ru tl g lg sd ma ta tk pc:Addr} {ms ts:List Nat} {i j:Nat} {dn:List Nat} {pr:List (Nat×Nat)}
theorem JS.lsts (h:JS CJ H b jn a sd ma ta tk pc ms ts i j dn):∀ c∈[tk,pc],∃ l,H c=some (.lst l):=fun c hc=>by
 rcases yAF.mp hc with z | z
 .rw [z];exact ⟨_,h.htk⟩
 .rw [yAS.mp z];exact ⟨_,h.hpc⟩
end
def ZDz (CA CR CJ:Addr):Sp:=fun vs H Q _=>∃ (ks:List Int) (xs:List V) (a rl ru tl g lg jn sd la ra tk pc:Addr) (pr:List (Nat×Nat)) (ls rs dn:List Nat) (i j x y:Nat),vs=[.ref jn] /\ SitL CA CR H ks xs a rl ru tl g lg pr /\ JS CJ H true jn a sd la ra tk pc ls rs i j dn /\ NX a rl lg tl jn sd la ra tk pc /\ ls[i]?=some x /\ rs[j]?=some y /\ x≠y /\ x < ks.length /\ y < ks.length /\ ks.length <= 1000 /\ pr.length <= 70000 /\ dn.length+ls.length <= 1000 /\ dn.length+rs.length <= 1000 /\
 ∀ bw H',Fr [a,lg,tl,tk,pc] H H'->SitL CA CR H' ks xs a rl ru tl g lg (pr++[(max x y,min x y)])->(bw=true->JS CJ H' true jn a sd la ra tk pc ls rs (i+1) j (dn++[x]))->(bw=false->JS CJ H' true jn a sd la ra tk pc ls rs i (j+1) (dn++[y]))->Q (.int (sv bw)) H'
def ZCk (CA CR CJ:Addr):Sp:=fun vs H Q _=>∃ (ks:List Int) (xs:List V) (a rl ru tl g lg jn sd ma ta tk pc:Addr) (b:Bool) (pr:List (Nat×Nat)) (ms ts dn:List Nat) (i j y:Nat),vs=[.ref jn,.int (sv b)] /\ SitL CA CR H ks xs a rl ru tl g lg pr /\ JS CJ H b jn a sd ma ta tk pc ms ts i j dn /\ NX a rl lg tl jn sd ma ta tk pc /\ ts[j]?=some y /\ ms.length <= 500 /\ (∀ x∈ms,x < ks.length /\ x≠y) /\ y < ks.length /\ ks.length <= 1000 /\ pr.length <= 70000 /\ dn.length+ms.length+ts.length <= 1000 /\ i <= ms.length /\
 ∀ z H' G,i <= z->z <= ms.length->Fr [a,lg,tl,tk,pc] H H'->Gal z ms.length i i i G->SitL CA CR H' ks xs a rl ru tl g lg (pr++G.map (ask1 ms y))->(z < ms.length->JS CJ H' b jn a sd ma ta tk pc ms ts z (j+1) (dn++(ms.drop i).take (z-i)++[y]))->(z=ms.length->JS CJ H' b jn a sd ma ta tk pc ms ts z j (dn++(ms.drop i).take (z-i)))->Q .non H'
def ZCl (CA CR:Addr):Sp:=fun vs H Q _=>∃ (ks:List Int) (xs:List V) (a rl ru tl g lg al ar:Addr) (pr:List (Nat×Nat)) (ls rs:List Nat),vs=[.ref a,.ref al,.ref ar] /\ SitL CA CR H ks xs a rl ru tl g lg pr /\ H al=some (.lst (nL ls)) /\ H ar=some (.lst (nL rs)) /\ ls.length <= 250 /\ rs.length <= 250 /\ (∀ x∈ls,x < ks.length) /\ (∀ x∈rs,x < ks.length) /\ (∀ x∈ls,∀ y∈rs,x≠y) /\ ks.length <= 1000 /\ pr.length <= 60000 /\
 ∀ l H' ps L,Fr [a,lg,tl] H H'->H l=none->H' l=some (.lst (nL ps))->JT ks ls rs 0 0 0 true ps L->SitL CA CR H' ks xs a rl ru tl g lg (pr++L)->Q (.ref l) H'
theorem seg_cons {os:List Nat} {i x z:Nat} (h:os[i]?=some x) (hz:i+1 <= z):(os.drop i).take (z-i)=x::(os.drop (i+1)).take (z-(i+1)):=by
 rw [ZBk h,show z-i=z-(i+1)+1 by omega,List.take_succ_cons]
theorem ZCg {os:List Nat} {i x:Nat} (h:os[i]?=some x):(os.drop i).take 1=[x]:=by
 rw [ZBk h];rfl
def JInv (C_Asker C_AskedRule C_Join:Addr) (ks:List Int) (xs:List V) (a rl ru tl g lg al ar jn sd la ra tk pc:Addr) (pr:List (Nat×Nat)) (ls rs:List Nat) (H2:Hp) (mm':Nat) (σ:St) (H':Hp):Prop:=∃ (i j w:Nat) (s:Bool) (v6:Option V) (dn:List Nat) (as:List (Nat×Nat)),mm'=(ls.length-i)+(rs.length-j) /\ σ=[some (.ref a),some (.ref al),some (.ref ar),some (.ref jn),some (.int w),some (.int (sv s)),v6] /\ i <= ls.length /\ j <= rs.length /\ w <= 3 /\ dn.length=i+j /\ as.length <= 20 * (i+j) /\ Fr [a,lg,tl,tk,pc] H2 H' /\ SitL C_Asker C_AskedRule H' ks xs a rl ru tl g lg (pr++as) /\ JS C_Join H' true jn a sd la ra tk pc ls rs i j dn /\ ∀ ps L,JT ks ls rs i j w s ps L->JT ks ls rs 0 0 0 true (dn++ps) (as++L)
theorem JInv.of {C_Asker C_AskedRule C_Join:Addr} {ks:List Int} {xs:List V} {a rl ru tl g lg al ar jn sd la ra tk pc:Addr} {pr:List (Nat×Nat)} {ls rs:List Nat} {H2:Hp} {H':Hp} {i j w:Nat} {s:Bool} {v6:Option V} {dn:List Nat} {as:List (Nat×Nat)} (h1:i <= ls.length) (h2:j <= rs.length) (h3:w <= 3) (h4:dn.length=i+j) (h5:as.length <= 20 * (i+j)) (h6:Fr [a,lg,tl,tk,pc] H2 H') (h7:SitL C_Asker C_AskedRule H' ks xs a rl ru tl g lg (pr++as)) (h8:JS C_Join H' true jn a sd la ra tk pc ls rs i j dn) (h9:∀ ps L,JT ks ls rs i j w s ps L->JT ks ls rs 0 0 0 true (dn++ps) (as++L)):JInv C_Asker C_AskedRule C_Join ks xs a rl ru tl g lg al ar jn sd la ra tk pc pr ls rs H2 ((ls.length-i)+(rs.length-j)) [some (.ref a),some (.ref al),some (.ref ar),some (.ref jn),some (.int w),some (.int (sv s)),v6] H':=⟨i,j,w,s,v6,dn,as,rfl,rfl,h1,h2,h3,h4,h5,h6,h7,h8,h9⟩
theorem JInv.fin {C_Asker C_AskedRule C_Join:Addr} {ks:List Int} {xs:List V} {a rl ru tl g lg al ar jn sd la ra tk pc:Addr} {pr:List (Nat×Nat)} {ls rs:List Nat} {H2:Hp} {i j:Nat} {b:Bool} {ma ta:Addr} {ms ts:List Nat} {mi tj:Nat} {x6:Option V} {w':Nat} {H4:Hp} {dn':List Nat} {as':List (Nat×Nat)} (hb:(b=true /\ ma=la /\ ta=ra /\ ms=ls /\ ts=rs)∨(b=false /\ ma=ra /\ ta=la /\ ms=rs /\ ts=ls)) (h1:mi <= ms.length) (h2:tj <= ts.length) (h3:w' <= 3) (h4:i+j < mi+tj) (h5:dn'.length=mi+tj) (h6:as'.length <= 20 * (mi+tj)) (h7:Fr [a,lg,tl,tk,pc] H2 H4) (h8:SitL C_Asker C_AskedRule H4 ks xs a rl ru tl g lg (pr++as')) (h9:JS C_Join H4 b jn a sd ma ta tk pc ms ts mi tj dn') (h10:∀ ps L,JT ks ms ts mi tj w' true ps L->JT ks ms ts 0 0 0 b (dn'++ps) (as'++L)) (hi:i <= ls.length) (hj:j <= rs.length):∃ m',m' < ls.length-i+(rs.length-j) /\ JInv C_Asker C_AskedRule C_Join ks xs a rl ru tl g lg al ar jn sd la ra tk pc pr ls rs H2 m' [some (V.ref a),some (.ref al),some (.ref ar),some (.ref jn),some (.int w'),some (.int (sv b)),x6] H4:=by
 rcases hb with ⟨rfl,rfl,rfl,rfl,rfl⟩ | ⟨rfl,rfl,rfl,rfl,rfl⟩
 .exact ⟨_,by omega,JInv.of h1 h2 h3 h5 h6 h7 h8 h9 h10⟩
 .exact ⟨_,by omega,JInv.of (s:=false) h2 h1 h3 (by omega) (by omega) h7 h8 h9.swap fun ps L h=>JT.swap (h10 ps L (JT.swap (s:=true) h))⟩
theorem cut_var {P:TS} {D:Ends} {x y:Option V} {H:Hp} {o1 o2:Int} {c:Prop} [Decidable c] (h:∀ o:Int,(c /\ o=o1)∨(¬ c /\ o=o2)->Cut P D [x,y,some (.int o)] H):if c then Cut P D [x,y,some (.int o1)] H else Cut P D [x,y,some (.int o2)] H:=by
 split
 .rename_i h1;exact h o1 (.inl ⟨h1,rfl⟩)
 .rename_i h1;exact h o2 (.inr ⟨h1,rfl⟩)
theorem onceP (P:Prop) {M G:Prop} (h:(P->M)->G) (t:P->M):G:=h t
abbrev fPl (a:Addr) (ls s e r:Int) (fs od gr:Addr):List (Str×V):=[("grades",.ref gr),("orders",.ref od),("firsts",.ref fs),("reached",.int r),("end",.int e),("start",.int s),("least",.int ls),("asker",.ref a)]
theorem fPl_reached {a fs od gr:Addr} {ls s e r r':Int}:∀ f,(putF "reached" (.int r') (fPl a ls s e r fs od gr)).lookup f=(fPl a ls s e r' fs od gr).lookup f:=fun f=>by
 rw [ZAZ]
 by_cases h:f=("reached":Str)
 .subst h
  rw [if_pos rfl]
  exact (show List.lookup _ (fPl a ls s e r' fs od gr)=some (.int r') by walk_at "lk").symm
 .simp only [lkc,h,if_false]
def Ch (ks:List Int):Nat->List (Nat×List Nat)->Nat->Prop
 | x,[],y=>x=y
 | x,(f,o)::r,y=>f=x /\ ∃ m,x < m /\ OrdN ks x m o /\ Ch ks m r y
theorem Ch.app {ks:List Int}:∀ {x y:Nat} {A B:List (Nat×List Nat)},Ch ks x (A++B) y↔∃ m,Ch ks x A m /\ Ch ks m B y
 | x,y,[],B=>⟨fun h=>⟨x,rfl,h⟩,fun ⟨m,h1,h2⟩=>by have e:x=m:=h1;rw [e];exact h2⟩
 | x,y,(f,o)::r,B=>by
  constructor
  .rintro ⟨h1,m,h2,h3,h4⟩
   obtain ⟨m',h5,h6⟩:=Ch.app.mp h4
   exact ⟨m',⟨h1,m,h2,h3,h5⟩,h6⟩
  .rintro ⟨m',⟨h1,m,h2,h3,h5⟩,h6⟩
   exact ⟨h1,m,h2,h3,Ch.app.mpr ⟨m',h5,h6⟩⟩
theorem Ch.le {ks:List Int}:∀ {x y:Nat} {ps:List (Nat×List Nat)},Ch ks x ps y->x+ps.length <= y
 | x,y,[],h=>by have e:x=y:=h;rw [e];exact yAA _
 | x,y,(f,o)::r,⟨h1,m,h2,h3,h4⟩=>by have:=Ch.le h4;rw [yAG];omega
def flt (ps:List (Nat×List Nat)):List Nat:=(ps.map Prod.snd).flatten
theorem flt_app (A B:List (Nat×List Nat)):flt (A++B)=flt A++flt B:=by unfold flt;rw [yAT,List.flatten_append]
def bB:List (Nat×List Nat)->Nat->Nat
 | [],r=>r
 | p::_,_=>p.1
theorem Ch.bey {ks:List Int} {x y:Nat} {ps:List (Nat×List Nat)} (h:Ch ks x ps y):bB ps y=x:=by
 cases ps with
 | nil=>exact h.symm
 | cons p r=>exact h.1
theorem OrdN.join {ks:List Int} {x m y:Nat} {o1 o2 o:List Nat} {L:List (Nat×Nat)} (h1:OrdN ks x m o1) (h2:OrdN ks m y o2) (a:x < m) (b:m < y) (h:JT ks o1 o2 0 0 0 true o L):OrdN ks x y o :=
 ⟨by
  refine h.perm.trans ?_
  rw [List.drop_zero,List.drop_zero]
  refine (h1.pm.append h2.pm).trans ?_
  rw [show y-x=(m-x)+(y-m) by omega,<- List.range'_append,show x+1 * (m-x)=m by omega]⟩
theorem Ch.two {ks:List Int} {x y v1 v2:Nat} {o1 o2:List Nat} {A B:List (Nat×List Nat)} (h:Ch ks x (A++(v1,o1)::(v2,o2)::B) y):∃ v3,Ch ks x A v1 /\ v1 < v2 /\ v2 < v3 /\ OrdN ks v1 v2 o1 /\ OrdN ks v2 v3 o2 /\ Ch ks v3 B y /\ bB B y=v3:=by
 obtain ⟨m,h1,h2,m2,h3,h4,h5,m3,h6,h7,h8⟩:=Ch.app.mp h
 subst h2 h5
 exact ⟨m3,h1,h3,h6,h4,h7,h8,h8.bey⟩
theorem Ch.join {ks:List Int} {x y v1 v2:Nat} {o1 o2 o:List Nat} {A B:List (Nat×List Nat)} {L:List (Nat×Nat)} (h:Ch ks x (A++(v1,o1)::(v2,o2)::B) y) (hj:JT ks o1 o2 0 0 0 true o L):Ch ks x (A++(v1,o)::B) y:=by
 obtain ⟨v3,h1,h2,h3,h4,h5,h6,_⟩:=h.two
 exact Ch.app.mpr ⟨v1,h1,rfl,v3,by omega,h4.join h5 h2 h3 hj,h6⟩
def dueB (gs:List Nat):Bool:=match gs.reverse with
 | g2::g1::_=>decide (g2 < g1)
 | _=>false
theorem ZCw (G:List Nat) (g1 g2:Nat):dueB (G++[g1,g2])=decide (g2 < g1):=by unfold dueB;rw [List.reverse_append];rfl
theorem dueB_few {gs:List Nat} (h:gs.length <= 1):dueB gs=false:=by
 match gs,h with
 | [],_=>rfl
 | [g],_=>rfl
theorem ZCJ {α:Type} {l:List α} (h:2 <= l.length):∃ A x y,l=A++[x,y]:=by
 refine ⟨l.take (l.length-2),l[l.length-2],l[l.length-1],?_⟩
 have e1:l.drop (l.length-2)=[l[l.length-2],l[l.length-1]]:=by
  rw [List.drop_eq_getElem_cons (by omega),show l.length-2+1=l.length-1 by omega,List.drop_eq_getElem_cons (by omega),show l.length-1+1=l.length by omega,List.drop_length]
 rw [<- e1,List.take_append_drop]
structure PInv (ks:List Int) (s e r:Nat) (ps:List (Nat×List Nat)) (gs:List Nat):Prop where
 ch:Ch ks s ps r
 re:r <= e
 gl:gs.length=ps.length-1
 gb:∀ g∈gs,g <= 240
structure StJ (ks:List Int) (e:Nat) (ps:List (Nat×List Nat)) (gs:List Nat) (r v1 v2 v3:Nat) (L:List (Nat×Nat)) (ps':List (Nat×List Nat)) (gs':List Nat) (A:List (Nat×List Nat)) (o1 o2 o:List Nat) (B:List (Nat×List Nat)):Prop where
 e1:ps=A++(v1,o1)::(v2,o2)::B
 e2:ps'=A++(v1,o)::B
 e3:v3=bB B r
 jt:JT ks o1 o2 0 0 0 true o L
 e4:gs'=gs.eraseIdx A.length
 wh:(dueB gs=true /\ B.length=1)∨(dueB gs=false /\ r=e /\ B=[])
structure StL (ks:List Int) (ls s e:Nat) (ps:List (Nat×List Nat)) (gs:List Nat) (r v1 v2 v3:Nat) (L:List (Nat×Nat)) (ps':List (Nat×List Nat)) (gs':List Nat) (r':Nat) (f:Bool) (os:List Nat) (l:List (Nat×Nat)):Prop where
 e1:v1=r
 lt:r < e
 by':Beyond ks r e v2 f
 put:Put ks (ZCY r v2 f) v2 (min (r+ls) e) os l
 e2:L=asks r (min (v2+1) e)++l
 e3:v3=max v2 (min (r+ls) e)
 e4:r'=v3
 e5:ps'=ps++[(r,os)]
 wh:dueB gs=false
 gr:(ps=[] /\ gs'=gs)∨∃ A p g,ps=A++[p] /\ gs'=gs++[g] /\ Gr.IsG ((e:Int)-s) (((p.1:Int)-s)+((r:Int)-s)) (((r:Int)-s)+((v3:Int)-s)) g /\ g <= 240
def Stp (ks:List Int) (ls s e:Nat) (ps:List (Nat×List Nat)) (gs:List Nat) (r:Nat) (k:Bool) (v1 v2 v3:Nat) (L:List (Nat×Nat)) (ps':List (Nat×List Nat)) (gs':List Nat) (r':Nat):Prop :=
 (k=true /\ r'=r /\ ∃ A o1 o2 o B,StJ ks e ps gs r v1 v2 v3 L ps' gs' A o1 o2 o B)∨(k=false /\ ∃ f os l,StL ks ls s e ps gs r v1 v2 v3 L ps' gs' r' f os l)
theorem StL.ord {ks:List Int} {ls s e:Nat} {ps:List (Nat×List Nat)} {gs:List Nat} {r v1 v2 v3:Nat} {L:List (Nat×Nat)} {ps':List (Nat×List Nat)} {gs':List Nat} {r':Nat} {f:Bool} {os:List Nat} {l:List (Nat×Nat)} (h:StL ks ls s e ps gs r v1 v2 v3 L ps' gs' r' f os l):OrdN ks r v3 os /\ r < v3 /\ v3 <= e:=by
 have hb:=h.by'.two
 have:=h.lt
 have e3:=h.e3
 obtain ⟨o1,_⟩:=h.put.all (first:=r) (asks r (min (v2+1) e)) (by omega) h.by'.ord
 rw [<- e3] at o1
 exact ⟨o1,by omega,by omega⟩
theorem Stp.inv {ks:List Int} {ls s e:Nat} {ps:List (Nat×List Nat)} {gs:List Nat} {r:Nat} {k:Bool} {v1 v2 v3:Nat} {L:List (Nat×Nat)} {ps':List (Nat×List Nat)} {gs':List Nat} {r':Nat} (h:Stp ks ls s e ps gs r k v1 v2 v3 L ps' gs' r') (i:PInv ks s e r ps gs):PInv ks s e r' ps' gs':=by
 rcases h with ⟨_,rfl,A,o1,o2,o,B,j⟩ | ⟨_,f,os,l,j⟩
 .have e1:=j.e1
  subst e1
  have gl:=i.gl
  refine ⟨by rw [j.e2];exact i.ch.join j.jt,i.re,?_,fun g hg=>i.gb g ?_⟩
  .rw [j.e4,j.e2,List.length_eraseIdx_of_lt (by rw [gl];simp),gl]
   simp
  .rw [j.e4] at hg
   exact List.mem_of_mem_eraseIdx hg
 .obtain ⟨o1,o2,o3⟩:=j.ord
  have e4:=j.e4
  subst e4
  have gl:=i.gl
  have hc:Ch ks s ps' r':=by rw [j.e5];exact Ch.app.mpr ⟨r,i.ch,rfl,r',o2,o1,rfl⟩
  rcases j.gr with ⟨g1,g2⟩ | ⟨A,p,g,g1,g2,g3,g4⟩
  .refine ⟨hc,o3,?_,fun g hg=>i.gb g (by rw [<- g2];exact hg)⟩
   rw [g2,j.e5,gl,g1];rfl
  .refine ⟨hc,o3,?_,fun g' hg=>?_⟩
   .rw [g2,j.e5,yAB,yAB,gl,g1,yAB];simp
   .rw [g2] at hg
    rcases yBC.mp hg with z | z
    .exact i.gb _ z
    .rw [yAS.mp z];exact g4
theorem Stp.less {ks:List Int} {ls s e:Nat} {ps:List (Nat×List Nat)} {gs:List Nat} {r:Nat} {k:Bool} {v1 v2 v3:Nat} {L:List (Nat×Nat)} {ps':List (Nat×List Nat)} {gs':List Nat} {r':Nat} (h:Stp ks ls s e ps gs r k v1 v2 v3 L ps' gs' r'):2 * (e-r')+ps'.length < 2 * (e-r)+ps.length:=by
 rcases h with ⟨_,rfl,A,o1,o2,o,B,j⟩ | ⟨_,f,os,l,j⟩
 .rw [j.e1,j.e2];simp
 .obtain ⟨o1,o2,o3⟩:=j.ord
  rw [j.e5,j.e4,yAB,yAN]
  omega
theorem Stp.cost {ks:List Int} {ls s e:Nat} {ps:List (Nat×List Nat)} {gs:List Nat} {r:Nat} {k:Bool} {v1 v2 v3:Nat} {L:List (Nat×Nat)} {ps':List (Nat×List Nat)} {gs':List Nat} {r':Nat} (h:Stp ks ls s e ps gs r k v1 v2 v3 L ps' gs' r') (i:PInv ks s e r ps gs) (hes:e-s <= 63) (hse:s <= r):L.length+126 * ps'.length+191 * (r-s) <= 126 * ps.length+191 * (r' - s):=by
 rcases h with ⟨_,rfl,A,o1,o2,o,B,j⟩ | ⟨_,f,os,l,j⟩
 .have e1:=j.e1
  subst e1
  obtain ⟨v3',h1,h2,h3,h4,h5,h6,_⟩:=i.ch.two
  have l1:=j.jt.len (by decide) (yAH _) (yAH _)
  have:=h4.len
  have:=h5.len
  have:=h6.le
  have:=h1.le
  have:=i.re
  rw [j.e2]
  simp only [yAB,yAG]
  omega
 .obtain ⟨o1,o2,o3⟩:=j.ord
  have hb:=j.by'.two
  have f1:=j.put.few
  rw [turnN_len] at f1
  have e3:=j.e3
  have m1:(min (r+ls) e-v2) * (v2-r+(min (r+ls) e-v2)) <= (v3-v2) * 63:=Nat.mul_le_mul (by omega) (by omega)
  rw [j.e5,j.e4,j.e2,yAB,yAB,yAN,ZCO]
  omega
def OrdAt (H:Hp):List Addr->List (Nat×List Nat)->Prop
 | [],[]=>True
 | b::bs,p::ps=>H b=some (.lst (nL p.2)) /\ OrdAt H bs ps
 | _,_=>False
theorem OrdAt.len {H:Hp}:∀ {oa:List Addr} {ps:List (Nat×List Nat)},OrdAt H oa ps->oa.length=ps.length
 | [],[],_=>rfl
 | b::bs,p::ps,h=>by rw [yAG,yAG,OrdAt.len h.2]
 | [],p::ps,h=>h.elim
 | b::bs,[],h=>h.elim
theorem OrdAt.keep {H H':Hp}:∀ {oa:List Addr} {ps:List (Nat×List Nat)},OrdAt H oa ps->(∀ b∈oa,∀ o,H b=some o->H' b=some o)->OrdAt H' oa ps
 | [],[],_,_=>trivial
 | b::bs,p::ps,h,e=>⟨e b yAE _ h.1,OrdAt.keep h.2 fun c hc=>e c (yAC _ hc)⟩
 | [],p::ps,h,_=>h.elim
 | b::bs,[],h,_=>h.elim
theorem OrdAt.split {H:Hp}:∀ {P:List (Nat×List Nat)} {oa:List Addr} {Q:List (Nat×List Nat)},OrdAt H oa (P++Q)->∃ A B,oa=A++B /\ A.length=P.length /\ OrdAt H A P /\ OrdAt H B Q
 | [],oa,Q,h=>⟨[],oa,rfl,rfl,trivial,h⟩
 | p::P,[],Q,h=>h.elim
 | p::P,b::bs,Q,h=>by
  obtain ⟨A,B,e1,e2,e3,e4⟩:=OrdAt.split (P:=P) h.2
  exact ⟨b::A,B,by rw [e1];rfl,by rw [yAG,yAG,e2],⟨h.1,e3⟩,e4⟩
theorem OrdAt.app {H:Hp}:∀ {P:List (Nat×List Nat)} {A B:List Addr} {Q:List (Nat×List Nat)},OrdAt H A P->OrdAt H B Q->OrdAt H (A++B) (P++Q)
 | [],[],B,Q,_,h=>h
 | p::P,[],B,Q,h,_=>h.elim
 | [],b::bs,B,Q,h,_=>h.elim
 | p::P,b::bs,B,Q,h,h'=>⟨h.1,OrdAt.app h.2 h'⟩
theorem OrdAt.get {H:Hp}:∀ {ps:List (Nat×List Nat)} {oa:List Addr} {i:Nat} {b:Addr},OrdAt H oa ps->oa[i]?=some b->∃ p,ps[i]?=some p /\ H b=some (.lst (nL p.2))
 | [],[],i,b,_,e=>by simp at e
 | p::P,[],i,b,h,_=>h.elim
 | [],c::bs,i,b,h,_=>h.elim
 | p::P,c::bs,0,b,h,e=>by cases e;exact ⟨p,rfl,h.1⟩
 | p::P,c::bs,i+1,b,h,e=>by
  obtain ⟨p',a1,a2⟩:=OrdAt.get (ps:=P) (oa:=bs) (i:=i) h.2 (by simpa using e)
  exact ⟨p',by simpa using a1,a2⟩
theorem OrdAt.two {H:Hp} {oa:List Addr} {A B:List (Nat×List Nat)} {p1 p2:Nat×List Nat} (h:OrdAt H oa (A++p1::p2::B)):∃ OA b1 b2 OB,oa=OA++b1::b2::OB /\ OA.length=A.length /\ OrdAt H OA A /\ H b1=some (.lst (nL p1.2)) /\ H b2=some (.lst (nL p2.2)) /\ OrdAt H OB B:=by
 obtain ⟨OA,R,e1,e2,e3,e4⟩:=h.split
 match R,e4 with
 | b1::b2::OB,e4=>exact ⟨OA,b1,b2,OB,e1,e2,e3,e4.1,e4.2.1,e4.2.2⟩
 | [b1],e4=>exact e4.2.elim
 | [],e4=>exact e4.elim
theorem atI_refs {oa:List Addr} {m:Nat} {b:Addr} (h:oa[m]?=some b):atI (oa.map V.ref) (m:Int)=some (.ref b):=ZAh (by omega) (by rw [Int.toNat_natCast,yAQ,h];rfl)
theorem ZA5 {α:Type} (X:List α) (x:α) (Y:List α):(X++x::Y)[X.length]?=some x:=by rw [yBD (yAA _),yAY];rfl
theorem ZBr {α:Type} (X:List α) (x y:α) (Y:List α):(X++x::y::Y)[X.length+1]?=some y:=by rw [yBD (by omega),Nat.add_sub_cancel_left];rfl
theorem set_mid {α:Type} (X:List α) (x y:α) (Y:List α):(X++x::Y).set X.length y=X++y::Y:=by rw [List.set_append_right _ _ (yAA _),yAY];rfl
theorem er_mid2 {α:Type} (X:List α) (x y:α) (Y:List α):(X++x::y::Y).eraseIdx (X.length+1)=X++x::Y:=by rw [List.eraseIdx_append_of_length_le (by omega),Nat.add_sub_cancel_left];rfl
theorem atI_m2 {l:List V} {x y:V}:atI (l++[x,y]) (-2)=some x:=by
 unfold atI ixN
 rw [yAB,show ([x,y]:List V).length=2 from rfl,if_neg (by decide),if_pos (by omega),show ((-2:Int)+((l.length+2:Nat):Int)).toNat=l.length by omega]
 exact ZA5 l x [y]
theorem atI_m1 {l:List V} {y:V}:atI (l++[y]) (-1)=some y:=by
 unfold atI ixN
 rw [yAB,show ([y]:List V).length=1 from rfl,if_neg (by decide),if_pos (by omega),show ((-1:Int)+((l.length+1:Nat):Int)).toNat=l.length by omega]
 exact ZA5 l y []
structure PileAt (CP:Addr) (H:Hp) (x a fs od gr:Addr) (ls s e r:Nat) (oa:List Addr) (ps:List (Nat×List Nat)) (gs:List Nat):Prop where
 hp:Ins H x CP (fPl a ls s e r fs od gr)
 hfs:H fs=some (.lst (nL (ps.map Prod.fst)))
 hod:H od=some (.lst (oa.map V.ref))
 hgr:H gr=some (.lst (nL gs))
 oat:OrdAt H oa ps
 ne:fs≠od /\ fs≠gr /\ od≠gr
 nb:∀ b∈oa,b∉[fs,od,gr]
structure PXl (a rl ru lg tl x fs od gr:Addr) (oa:List Addr):Prop where
 n1:x∉[a,lg,tl] /\ fs∉[a,lg,tl] /\ od∉[a,lg,tl] /\ gr∉[a,lg,tl]
 n2:∀ b∈oa,b∉[a,lg,tl]
 n3:rl∉[fs,od,gr]
 nr:ru≠x
section
variable {CP:Addr} {H H':Hp} {x a fs od gr:Addr} {ls s e r:Nat} {oa:List Addr} {ps:List (Nat×List Nat)} {gs:List Nat}
theorem PileAt.fr {S:List Addr} (h:PileAt CP H x a fs od gr ls s e r oa ps gs) (f:Fr S H H') (n:x∉S /\ fs∉S /\ od∉S /\ gr∉S) (n2:∀ b∈oa,b∉S):PileAt CP H' x a fs od gr ls s e r oa ps gs :=
 ⟨ZC2 f n.1 h.hp,f _ _ n.2.1 h.hfs,f _ _ n.2.2.1 h.hod,f _ _ n.2.2.2 h.hgr,h.oat.keep fun b hb o=>f b o (n2 b hb),h.ne,h.nb⟩
theorem PileAt.mono (h:PileAt CP H x a fs od gr ls s e r oa ps gs) (f:Same H H'):PileAt CP H' x a fs od gr ls s e r oa ps gs:=h.fr (S:=[]) f.fr ⟨yBG,yBG,yBG,yBG⟩ fun _ _=>yBG
theorem PileAt.lsts (h:PileAt CP H x a fs od gr ls s e r oa ps gs):∀ c∈[fs,od,gr],∃ l,H c=some (.lst l):=fun c hc=>by
 rcases yAF.mp hc with z | z
 .rw [z];exact ⟨_,h.hfs⟩
 rcases yAF.mp z with z | z
 .rw [z];exact ⟨_,h.hod⟩
 .rw [yAS.mp z];exact ⟨_,h.hgr⟩
theorem PileAt.xl (h:PileAt CP H x a fs od gr ls s e r oa ps gs):x∉[fs,od,gr]:=fun z=>by
 obtain ⟨l,hl⟩:=h.lsts x z
 exact h.hp.ne hl (fun _ _ _ z=>by cases z) rfl
end
theorem SitL.butN {CA CR C d x:Addr} {f:List (Str×V)} {H H':Hp} {ks:List Int} {xs:List V} {a rl ru tl g lg:Addr} {pr:List (Nat×Nat)} (h:SitL CA CR H ks xs a rl ru tl g lg pr) (hx:H x=some (.ins C d f)) (nx:x∉[a,lg,tl]) (nru:ru≠x) (e:∀ b o,b≠x->H b=some o->H' b=some o):SitL CA CR H' ks xs a rl ru tl g lg pr:=by
 have k:∀ {b:Addr} {o:HO},H b=some o->(∀ C d f,o≠.ins C d f)->H' b=some o:=fun {b o} hb z=>e b o (fun m=>by rw [m,hx] at hb;exact z _ _ _ (Option.some.inj hb).symm) hb
 have ki:∀ {b C:Addr} {fl:List (Str×V)},b≠x->Ins H b C fl->Ins H' b C fl:=fun n hi=>let ⟨dx,fs,h1,h2,h3⟩:=hi.ex;⟨dx,fs,e _ _ n h1,h2,h3⟩
 have na:a≠x:=fun z=>nx (by rw [<- z];exact yAE)
 obtain ⟨ws,h4,h5⟩:=h.hlg
 obtain ⟨us,h6,h7⟩:=h.htl
 exact ⟨ki na h.ha,k h.hrl (fun _ _ _ z=>by cases z),ki nru h.hru,h.clo.mono (fun b o u hb=>k hb (fun _ _ _ z=>by cases z)),h.len,h.row,⟨ws,k h4 (fun _ _ _ z=>by cases z),h5.keep fun _ _ z=>k z (fun _ _ _ y=>by cases y)⟩,⟨us,k h6 (fun _ _ _ z=>by cases z),h7.keep fun _ _ z=>k z (fun _ _ _ y=>by cases y)⟩,h.ne⟩
def ZCF (CA CP:Addr):Sp:=fun vs H Q _=>∃ (x dx a:Addr) (ls s e:Nat) (pz:V),vs=[.ref x,.ref a,.int ls,pz] /\ H x=some (.ins CP dx []) /\ ((∃ pt,pz=.ref pt /\ H pt=some (.tup [.int s,.int e]))∨(pz=.non /\ s=0 /\ a≠x /\ ∃ rl ru m n tl xs,Ins H a CA (fA rl ru m n tl) /\ H rl=some (.lst xs) /\ xs.length=e)) /\
 ∀ fs od gr H',(∀ b o,b≠x->H b=some o->H' b=some o)->H fs=none->H od=none->H gr=none->PileAt CP H' x a fs od gr ls s e s [] [] []->Q .non H'
def ZBm (CP:Addr):Sp:=fun vs H Q _=>∃ (x a fs od gr:Addr) (ls s e r:Nat) (oa:List Addr) (A:List (Nat×List Nat)) (p:Nat×List Nat) (B:List (Nat×List Nat)) (gs:List Nat),vs=[.ref x,.int (A.length:Nat)] /\ PileAt CP H x a fs od gr ls s e r oa (A++p::B) gs /\ Q (.int (bB B r:Nat)) H
def ZD1 (CP:Addr):Sp:=fun vs H Q _=>∃ (x a fs od gr:Addr) (ls s e r:Nat) (oa:List Addr) (ps:List (Nat×List Nat)) (gs:List Nat),vs=[.ref x] /\ PileAt CP H x a fs od gr ls s e r oa ps gs /\ Q (.bl (dueB gs)) H
def ZC6 (CP:Addr):Sp:=fun vs H Q _=>∃ (x a fs od gr:Addr) (ls s e r:Nat) (oa:List Addr) (A:List (Nat×List Nat)) (p:Nat×List Nat) (gs:List Nat) (m b:Nat),vs=[.ref x,.int m,.int b] /\ PileAt CP H x a fs od gr ls s e r oa (A++[p]) gs /\ s <= p.1 /\ p.1 < m /\ m < b /\ b <= e /\ e <= 63 /\ ∀ g:Nat,Gr.IsG ((e:Int)-s) (((p.1:Int)-s)+((m:Int)-s)) (((m:Int)-s)+((b:Int)-s)) g->g <= 240->Q (.int g) H
def kS (k:Bool):V:=if k then .str "join" else .str "lay"
def Left (CA CR CP:Addr) (H:Hp) (ks:List Int) (xs:List V) (a rl ru tl g lg x fs od gr:Addr) (pr:List (Nat×Nat)) (ls s e:Nat) (oa:List Addr) (k:Bool) (v1 v2 v3:Nat) (L:List (Nat×Nat)) (oa':List Addr) (ps':List (Nat×List Nat)) (gs':List Nat) (r':Nat) (t:Addr) (H':Hp):Prop :=
 Fr [x,fs,od,gr,a,lg,tl] H H' /\ (∀ b∈oa',b∈oa∨H b=none) /\ H' t=some (.tup [kS k,.int v1,.int v2,.int v3]) /\ PileAt CP H' x a fs od gr ls s e r' oa' ps' gs' /\ PXl a rl ru lg tl x fs od gr oa' /\ SitL CA CR H' ks xs a rl ru tl g lg (pr++L)
def ZCQ (CA CR CP:Addr):Sp:=fun vs H Q _=>∃ (ks:List Int) (xs:List V) (a rl ru tl g lg x fs od gr:Addr) (pr:List (Nat×Nat)) (ls s e r:Nat) (oa:List Addr) (A:List (Nat×List Nat)) (v1 v2:Nat) (o1 o2:List Nat) (B:List (Nat×List Nat)) (gs:List Nat),vs=[.ref x,.int (A.length:Nat)] /\ SitL CA CR H ks xs a rl ru tl g lg pr /\ PileAt CP H x a fs od gr ls s e r oa (A++(v1,o1)::(v2,o2)::B) gs /\ PXl a rl ru lg tl x fs od gr oa /\ Ch ks s (A++(v1,o1)::(v2,o2)::B) r /\ A.length < gs.length /\ r <= ks.length /\ ks.length <= 63 /\ pr.length <= 13000 /\
 ∀ t H' o L oa',JT ks o1 o2 0 0 0 true o L->Left CA CR CP H ks xs a rl ru tl g lg x fs od gr pr ls s e oa true v1 v2 (bB B r) L oa' (A++(v1,o)::B) (gs.eraseIdx A.length) r t H'->Q (.ref t) H'
def ZD0 (CA CR CP:Addr):Sp:=fun vs H Q _=>∃ (ks:List Int) (xs:List V) (a rl ru tl g lg x fs od gr:Addr) (pr:List (Nat×Nat)) (ls s e r:Nat) (oa:List Addr) (ps:List (Nat×List Nat)) (gs:List Nat),vs=[.ref x] /\ SitL CA CR H ks xs a rl ru tl g lg pr /\ PileAt CP H x a fs od gr ls s e r oa ps gs /\ PXl a rl ru lg tl x fs od gr oa /\ PInv ks s e r ps gs /\ dueB gs=false /\ r < e /\ e <= ks.length /\ ks.length <= 63 /\ ls <= 500 /\ pr.length <= 13000 /\
 ∀ t H' v2 v3 L oa' ps' gs' f os l,StL ks ls s e ps gs r r v2 v3 L ps' gs' v3 f os l->Left CA CR CP H ks xs a rl ru tl g lg x fs od gr pr ls s e oa false r v2 v3 L oa' ps' gs' v3 t H'->Q (.ref t) H'
def ZDG (CA CR CP:Addr):Sp:=fun vs H Q _=>∃ (ks:List Int) (xs:List V) (a rl ru tl g lg x fs od gr:Addr) (pr:List (Nat×Nat)) (ls s e r:Nat) (oa:List Addr) (ps:List (Nat×List Nat)) (gs:List Nat),vs=[.ref x] /\ SitL CA CR H ks xs a rl ru tl g lg pr /\ PileAt CP H x a fs od gr ls s e r oa ps gs /\ PXl a rl ru lg tl x fs od gr oa /\ PInv ks s e r ps gs /\ e <= ks.length /\ ks.length <= 63 /\ ls <= 500 /\ pr.length <= 13000 /\
 (dueB gs=false->r=e->ps.length <= 1->Q .non H) /\
 ∀ t H' k v1 v2 v3 L oa' ps' gs' r',Stp ks ls s e ps gs r k v1 v2 v3 L ps' gs' r'->Left CA CR CP H ks xs a rl ru tl g lg x fs od gr pr ls s e oa k v1 v2 v3 L oa' ps' gs' r' t H'->Q (.ref t) H'
def ZCi (CP:Addr):Sp:=fun vs H Q _=>∃ (x a fs od gr:Addr) (ls s e r:Nat) (oa:List Addr) (ps:List (Nat×List Nat)) (gs:List Nat),vs=[.ref x] /\ PileAt CP H x a fs od gr ls s e r oa ps gs /\ (flt ps).length <= 63 /\ r <= e /\ e <= 63 /\ ∀ l H',Same H H'->H l=none->H' l=some (.lst (nL (flt ps++List.range' r (e-r))))->Q (.ref l) H'
theorem bB_ne {A:List (Nat×List Nat)} {p1 p2:Nat×List Nat} {B C:List (Nat×List Nat)} {r r':Nat} (h:p1.1=p2.1):bB (A++p1::B) r=bB (A++p2::C) r':=by
 cases A with
 | nil=>exact h
 | cons a A=>rfl
inductive Rn (ks:List Int) (ls s e:Nat):List (Nat×List Nat)->List Nat->Nat->List (Nat×Nat)->List (Nat×List Nat)->List Nat->Nat->Prop
 | nil {ps:List (Nat×List Nat)} {gs:List Nat} {r:Nat}:Rn ks ls s e ps gs r [] ps gs r
 | snoc {ps ps1 ps2:List (Nat×List Nat)} {gs gs1 gs2:List Nat} {r r1 r2:Nat} {L L':List (Nat×Nat)} {k:Bool} {v1 v2 v3:Nat}:Rn ks ls s e ps gs r L ps1 gs1 r1->Stp ks ls s e ps1 gs1 r1 k v1 v2 v3 L' ps2 gs2 r2->Rn ks ls s e ps gs r (L++L') ps2 gs2 r2
theorem Rn.inv {ks:List Int} {ls s e:Nat} {ps ps1:List (Nat×List Nat)} {gs gs1:List Nat} {r r1:Nat} {L:List (Nat×Nat)} (h:Rn ks ls s e ps gs r L ps1 gs1 r1) (i:PInv ks s e r ps gs):PInv ks s e r1 ps1 gs1:=by
 induction h with
 | nil=>exact i
 | snoc a b ih=>exact b.inv (ih i)
def Fin' (e:Nat) (ps:List (Nat×List Nat)) (gs:List Nat) (r:Nat):Prop:=dueB gs=false /\ r=e /\ ps.length <= 1
theorem seven {x fs od gr a lg tl b:Addr} (h0:b≠x) (h1:b≠fs) (h2:b≠od) (h3:b≠gr) (h4:b∉[a,lg,tl]):b∉[x,fs,od,gr,a,lg,tl]:=fun z=>by
 rcases yAF.mp z with z | z
 .exact h0 z
 rcases yAF.mp z with z | z
 .exact h1 z
 rcases yAF.mp z with z | z
 .exact h2 z
 rcases yAF.mp z with z | z
 .exact h3 z
 .exact h4 z
theorem Rn.cost {ks:List Int} {ls s e:Nat} {ps ps1:List (Nat×List Nat)} {gs gs1:List Nat} {r r1:Nat} {L:List (Nat×Nat)} (h:Rn ks ls s e ps gs r L ps1 gs1 r1) (i:PInv ks s e r ps gs) (hes:e-s <= 63):L.length+126 * ps1.length+191 * (r-s) <= 126 * ps.length+191 * (r1-s):=by
 induction h with
 | nil=>simp
 | snoc a b ih=>
  have i1:=a.inv i
  have:=b.cost i1 hes (by have:=i1.ch.le;omega)
  rw [yAB]
  have:=ih i
  omega
def JIn (J M:Nat->Nat):Nat->List (Nat×List Nat)->List Nat->Nat->Prop
 | _,[],_,_=>True
 | w,p::ps,gs,r=>(∀ u,p.1 <= u->u < bB ps r->J u+max w (gs.headD 0) <= M u) /\ JIn J M (gs.headD 0) ps gs.tail r
theorem JIn.ext {ks:List Int} {J J' M M':Nat->Nat}:∀ {ps:List (Nat×List Nat)} {gs:List Nat} {w x r:Nat},Ch ks x ps r->(∀ u,x <= u->u < r->J' u <= J u)->(∀ u,x <= u->u < r->M u <= M' u)->JIn J M w ps gs r->JIn J' M' w ps gs r
 | [],gs,w,x,r,_,_,_,_=>trivial
 | (f,o)::ps,gs,w,x,r,⟨e,m,hm,_,hc⟩,hJ,hM,⟨a,b⟩=>by
  have e1:=hc.bey
  have e2:=hc.le
  subst e
  refine ⟨fun u h1 h2=>?_,JIn.ext hc (fun u h1 h2=>hJ u (by omega) h2) (fun u h1 h2=>hM u (by omega) h2) b⟩
  have h1':f <= u:=h1
  have h3:=a u h1 h2
  have h4:=hJ u (by omega) (by omega)
  have h5:=hM u (by omega) (by omega)
  omega
theorem Ch.at_le {ks:List Int} {x r:Nat} {A B:List (Nat×List Nat)} {p:Nat×List Nat} (h:Ch ks x (A++p::B) r):x <= p.1:=by
 obtain ⟨m,h1,h2⟩:=Ch.app.mp h
 have:=h1.le
 have e:p.1=m:=h2.1
 omega
theorem JIn.join {ks:List Int} {J J' M:Nat->Nat} {p1 p2:Nat×List Nat} {B:List (Nat×List Nat)} {r:Nat} {o:List Nat} (hj:∀ u,J' u <= J u+1) (hn:∀ u,¬ (p1.1 <= u /\ u < bB B r)->J' u <= J u) :
  ∀ {A:List (Nat×List Nat)} {gs:List Nat} {w x:Nat},Ch ks x (A++p1::p2::B) r->JIn J M w (A++p1::p2::B) gs r->(w::gs).getD A.length 0 < gs.getD A.length 0->gs.getD (A.length+1) 0 < gs.getD A.length 0->JIn J' M w (A++(p1.1,o)::B) (gs.eraseIdx A.length) r
 | [],[],w,x,hc,hi,h1,h2=>by simp at h1
 | [],v::gs,w,x,hc,hi,h1,h2=>by
  have h1:w < v:=h1
  have h2:gs.headD 0 < v:=by cases gs <;> exact h2
  obtain ⟨i1,i2,i3⟩:=hi
  obtain ⟨e1,m1,l1,_,e2,m2,l2,_,hB⟩:=hc
  have e1:p1.1=x:=e1
  have e2:p2.1=m1:=e2
  have eb:=hB.bey
  refine ⟨fun u a b=>?_,JIn.ext hB (fun u a b=>hn u (by omega)) (fun u _ _=>yAA _) i3⟩
  have a:p1.1 <= u:=a
  have b:u < bB B r:=b
  have hj:=hj u
  show J' u+max w (gs.headD 0) <= M u
  by_cases c:u < p2.1
  .have i1:J u+max w v <= M u:=i1 u a c
   omega
  .have i2:J u+max v (gs.headD 0) <= M u:=i2 u (by omega) b
   omega
 | a::A,[],w,x,hc,hi,h1,h2=>by simp at h1
 | a::A,g::gs,w,x,hc,hi,h1,h2=>by
  obtain ⟨i1,i2⟩:=hi
  obtain ⟨e1,m,l1,_,hc⟩:=hc
  have hc:Ch ks m (A++p1::p2::B) r:=hc
  have hb:=hc.bey
  have hl:=hc.at_le
  refine ⟨fun u b1 b2=>?_,JIn.join hj hn hc i2 h1 h2⟩
  have b2:u < bB (A++(p1.1,o)::B) r:=b2
  rw [bB_ne (p1:=(p1.1,o)) (p2:=p1) (C:=p2::B) (r':=r) rfl] at b2
  have b1:a.1 <= u:=b1
  have h3:J u+max w g <= M u:=i1 u b1 b2
  have h4:=hn u (by omega)
  show J' u+max w g <= M u
  omega
theorem JIn.lay {ks:List Int} {J M M':Nat->Nat} {p:Nat×List Nat} {r g v3:Nat} {o:List Nat} (hM:∀ u,u < r->M u <= M' u) (h1:∀ u,p.1 <= u->u < v3->J u=0 /\ g <= M' u) (hr:r <= v3) :
  ∀ {A:List (Nat×List Nat)} {gs:List Nat} {w x:Nat},gs.length=A.length->Ch ks x (A++[p]) r->JIn J M w (A++[p]) gs r->JIn J M' w (A++[p]++[(r,o)]) (gs++[g]) v3
 | [],g'::gs,w,x,hl,hc,hi=>by simp at hl
 | [],[],w,x,hl,hc,hi=>by
  obtain ⟨i1,_⟩:=hi
  obtain ⟨e1,m,l1,_,e2⟩:=hc
  have e1:p.1=x:=e1
  have e2:m=r:=e2
  refine ⟨fun u a b=>?_,fun u a b=>?_,trivial⟩
  .have b:u < r:=b
   have i1:J u+max w 0 <= M u:=i1 u a b
   have:=hM u b
   have h2:=h1 u a (by omega)
   show J u+max w g <= M' u
   omega
  .have a:r <= u:=a
   have b:u < v3:=b
   have h2:=h1 u (by omega) b
   show J u+max g 0 <= M' u
   omega
 | a::A,[],w,x,hl,hc,hi=>by simp at hl
 | a::A,g'::gs,w,x,hl,hc,hi=>by
  obtain ⟨i1,i2⟩:=hi
  obtain ⟨e1,m,l1,_,hc⟩:=hc
  have hc:Ch ks m (A++[p]) r:=hc
  have hb:=hc.bey
  have hl2:=hc.le
  refine ⟨fun u b1 b2=>?_,JIn.lay hM h1 hr (by simpa using hl) hc i2⟩
  have b2:u < bB (A++[p]++[(r,o)]) v3:=b2
  rw [show A++[p]++[(r,o)]=A++p::[(r,o)] by simp,bB_ne (p1:=p) (p2:=p) (C:=[]) (r':=r) rfl] at b2
  have h3:J u+max w g' <= M u:=i1 u b1 b2
  have h4:=hM u (by omega)
  show J u+max w g' <= M' u
  omega
def LCh:Nat->List (Nat×Nat)->Nat->Prop
 | x,[],y=>x=y
 | x,(a,b)::l,y=>a=x /\ a < b /\ LCh b l y
theorem LCh.le:∀ {l:List (Nat×Nat)} {x y:Nat},LCh x l y->x+l.length <= y
 | [],x,y,h=>by have h:x=y:=h;simp;omega
 | (a,b)::l,x,y,⟨h1,h2,h3⟩=>by have:=LCh.le h3;rw [yAG];omega
theorem LCh.snoc:∀ {l:List (Nat×Nat)} {x y z:Nat},LCh x l y->y < z->LCh x (l++[(y,z)]) z
 | [],x,y,z,h,hz=>⟨Eq.symm h,hz,rfl⟩
 | (a,b)::l,x,y,z,⟨h1,h2,h3⟩,hz=>⟨h1,h2,LCh.snoc h3 hz⟩
theorem LCh.get:∀ {l:List (Nat×Nat)} {x y k a b:Nat},LCh x l y->l[k]?=some (a,b)->x <= a /\ a < b /\ b <= y
 | [],x,y,k,a,b,h,hk=>by simp at hk
 | (c,d)::l,x,y,0,a,b,⟨h1,h2,h3⟩,hk=>by
  cases hk
  have:=LCh.le h3
  omega
 | (c,d)::l,x,y,k+1,a,b,⟨h1,h2,h3⟩,hk=>by
  have:=LCh.get h3 (k:=k) (by simpa using hk)
  omega
theorem LCh.next:∀ {l:List (Nat×Nat)} {x y k a b c d:Nat},LCh x l y->l[k]?=some (a,b)->l[k+1]?=some (c,d)->c=b
 | [],x,y,k,a,b,c,d,h,hk,_=>by simp at hk
 | (e,f)::[],x,y,0,a,b,c,d,⟨h1,h2,h3⟩,hk,hk2=>by simp at hk2
 | (e,f)::(g,i)::l,x,y,0,a,b,c,d,⟨h1,h2,h3,_⟩,hk,hk2=>by
  cases hk
  cases hk2
  exact h3
 | (e,f)::l,x,y,k+1,a,b,c,d,⟨h1,h2,h3⟩,hk,hk2=>LCh.next h3 (k:=k) (by simpa using hk) (by simpa using hk2)
def Mu:Nat->List (Nat×Nat)->List Nat->Nat->Nat
 | _,[],_,_=>0
 | w,(_,b)::l,Gs,u=>if u < b then max w (Gs.headD 0) else Mu (Gs.headD 0) l Gs.tail u
theorem Mu_get {u:Nat}:∀ {l:List (Nat×Nat)} {Gs:List Nat} {w x y k a b:Nat},LCh x l y->l[k]?=some (a,b)->a <= u->u < b->Mu w l Gs u=max ((w::Gs).getD k 0) (Gs.getD k 0)
 | [],Gs,w,x,y,k,a,b,h,hk,_,_=>by simp at hk
 | (c,d)::l,Gs,w,x,y,0,a,b,⟨h1,h2,h3⟩,hk,ha,hb=>by
  cases hk
  show (if u < d then _ else _)=_
  rw [if_pos hb]
  cases Gs <;> rfl
 | (c,d)::l,Gs,w,x,y,k+1,a,b,⟨h1,h2,h3⟩,hk,ha,hb=>by
  have hk:l[k]?=some (a,b):=by simpa using hk
  have h4:=LCh.get h3 hk
  show (if u < d then _ else _)=_
  rw [if_neg (by omega),Mu_get (Gs:=Gs.tail) (w:=Gs.headD 0) h3 hk ha hb]
  cases Gs with
  | nil=>cases k <;> simp
  | cons g Gs=>rfl
theorem ZDl {p r v3 g u:Nat}:∀ {L:List (Nat×Nat)} {Gs:List Nat} {w x:Nat},LCh x (L++[(p,r)]) r->Gs.length=L.length->(u < r->Mu w (L++[(p,r)]) Gs u <= Mu w (L++[(p,r)]++[(r,v3)]) (Gs++[g]) u) /\ (p <= u->u < v3->g <= Mu w (L++[(p,r)]++[(r,v3)]) (Gs++[g]) u)
 | [],g'::Gs,w,x,h,hl=>by simp at hl
 | [],[],w,x,h,hl=>by
  show (u < r->(if u < r then max w 0 else 0) <= (if u < r then max w g else if u < v3 then max g 0 else 0)) /\ (p <= u->u < v3->g <= (if u < r then max w g else if u < v3 then max g 0 else 0))
  refine ⟨fun h1=>?_,fun h1 h2=>?_⟩
  .rw [if_pos h1,if_pos h1];omega
  .rw [if_pos h2];split <;> omega
 | (a,b)::L,[],w,x,h,hl=>by simp at hl
 | (a,b)::L,g'::Gs,w,x,⟨h1,h2,h3⟩,hl=>by
  obtain ⟨i1,i2⟩:=ZDl (v3:=v3) (g:=g) (u:=u) (L:=L) (Gs:=Gs) (w:=g') h3 (by simpa using hl)
  have h4:b <= p:=(LCh.get h3 (k:=L.length) (a:=p) (b:=r) (ZA5 ..)).1
  show (u < r->(if u < b then max w g' else Mu g' (L++[(p,r)]) Gs u) <= (if u < b then max w g' else Mu g' (L++[(p,r)]++[(r,v3)]) (Gs++[g]) u)) /\ (p <= u->u < v3->g <= (if u < b then max w g' else Mu g' (L++[(p,r)]++[(r,v3)]) (Gs++[g]) u))
  refine ⟨fun q1=>?_,fun q1 q2=>?_⟩
  .split
   .exact yAA _
   .exact i1 q1
  .rw [if_neg (by omega)];exact i2 q1 q2
def fL (s:Nat) (ls:List (Nat×Nat)) (j:Nat):Int:=((ls[j]?).map fun q=>((q.1:Int)-s)+((q.2:Int)-s)).getD 0
theorem ZDF {s j a b:Nat} {ls:List (Nat×Nat)} (h:ls[j]?=some (a,b)):fL s ls j=((a:Int)-s)+((b:Int)-s):=by unfold fL;rw [h];rfl
theorem fL_app {s j:Nat} {ls r:List (Nat×Nat)} (h:j < ls.length):fL s (ls++r) j=fL s ls j:=by unfold fL;rw [yAU h]
theorem fL_in {s e r j:Nat} {ls:List (Nat×Nat)} (h:LCh s ls r) (hr:r <= e) (hj:j < ls.length):0 <= fL s ls j /\ fL s ls j < 2 * ((e:Int)-s):=by
 obtain ⟨⟨a,b⟩,hk⟩:∃ c,ls[j]?=some c:=⟨_,yAR hj⟩
 have:=h.get hk
 rw [ZDF hk]
 omega
theorem fL_up {s r j:Nat} {ls:List (Nat×Nat)} (h:LCh s ls r) (hj:j+1 < ls.length):fL s ls j+2 <= fL s ls (j+1):=by
 obtain ⟨⟨a,b⟩,hk⟩:∃ c,ls[j]?=some c:=⟨_,yAR (by omega)⟩
 obtain ⟨⟨c,d⟩,hk2⟩:∃ c,ls[j+1]?=some c:=⟨_,yAR hj⟩
 have h1:=h.get hk
 have h2:=h.get hk2
 have h3:=h.next hk hk2
 rw [ZDF hk,ZDF hk2]
 omega
theorem Pil.congr {m:Int} {f f':Nat->Int} {gr gr':Nat->Nat} {k:Nat} {gs:List Nat} (P:Gr.Pil m f gr k gs) (hf:∀ j,j <= k->0 < k->f' j=f j) (hg:∀ j,j < k->gr' j=gr j):Gr.Pil m f' gr' k gs :=
 ⟨fun j hj=>by rw [hf j (by omega) (by omega),hf (j+1) (by omega) (by omega),hg j hj];exact P.g j hj,P.srt,fun x hx=>by
  obtain ⟨i,h1,h2,h3⟩:=P.at' x hx
  exact ⟨i,h1,by rw [hg i h1];exact h2,fun j q1 q2=>by rw [hg j q2];exact h3 j q1 q2⟩⟩
theorem Pil.pos {m:Int} {f:Nat->Int} {gr:Nat->Nat} {k:Nat} {gs:List Nat} (P:Gr.Pil m f gr k gs) {x:Nat} (hx:x∈gs):0 < x:=by
 obtain ⟨i,h1,h2,_⟩:=P.at' x hx
 have:=(P.g i h1).pos
 omega
def gD (Gs:List Nat) (j:Nat):Nat:=Gs.getD j 0
structure P54 (ks:List Int) (s e:Nat) (ls:List (Nat×Nat)) (Gs:List Nat) (J:Nat->Nat) (ps:List (Nat×List Nat)) (gs:List Nat) (r:Nat):Prop where
 lc:LCh s ls r
 gl:Gs.length=ls.length-1
 gg:∀ k g,Gs[k]?=some g->Gr.IsG ((e:Int)-s) (fL s ls k) (fL s ls (k+1)) g
 ne:ps=[]->ls=[]
 tp:r < e->∀ A p,ps=A++[p]->(∃ L,ls=L++[(p.1,r)]) /\ ∀ u,p.1 <= u->J u=0
 z:∀ u,u < s∨r <= u->J u=0
 ji:JIn J (Mu 0 ls Gs) 0 ps gs r
 pl:Gr.Pil ((e:Int)-s) (fL s ls) (gD Gs) Gs.length gs∨∃ P g H,gs=P++[g] /\ Gs=H++[g] /\ Gr.Pil ((e:Int)-s) (fL s ls) (gD Gs) H.length P
theorem P54.pil {ks:List Int} {s e r:Nat} {ls:List (Nat×Nat)} {Gs gs:List Nat} {J:Nat->Nat} {ps:List (Nat×List Nat)} (h:P54 ks s e ls Gs J ps gs r) (hr:r <= e) (hd:dueB gs=false):Gr.Pil ((e:Int)-s) (fL s ls) (gD Gs) Gs.length gs:=by
 rcases h.pl with z | ⟨P,g,H,e1,e2,P1⟩
 .exact z
 have hl:=h.gl
 rw [e2,yAB,yAN] at hl
 have hle:=h.lc.le
 have hg:Gr.IsG ((e:Int)-s) (fL s ls H.length) (fL s ls (H.length+1)) g:=h.gg H.length g (by rw [e2];exact ZA5 ..)
 have hno:=P1.no (g:=g) (by omega) (fun j hj=>fL_in h.lc hr (by omega)) (fun j hj=>by have:=fL_up h.lc (j:=j) (by omega);omega) hg
 have hlt:∀ x∈P,x < g:=fun x hx=>by
  rcases List.eq_nil_or_concat P with z | ⟨P',v,z⟩
  .rw [z] at hx;cases hx
  .rw [List.concat_eq_append] at z
   subst z
   rw [e1,yAL] at hd
   have hd:dueB (P'++[v,g])=false:=hd
   rw [ZCw] at hd
   have hv:¬ g < v:=of_decide_eq_false hd
   have h1:=Gr.last_le P1.srt (show v <= g by omega) x hx
   have:x≠g:=fun z=>hno (z ▸ hx)
   omega
 have h2:=P1.push hg hlt
 rw [e1,show Gs.length=H.length+1 by rw [e2,yAB,yAN]]
 refine Pil.congr h2 (fun _ _ _=>rfl) (fun j hj=>?_)
 by_cases q:j=H.length
 .rw [if_pos q,q,e2];unfold gD;rw [yBA,ZA5];rfl
 .rw [if_neg q]
theorem left_of {G R:List Nat} {v:Nat} (h:(G++v::R).Pairwise (· < ·)) (hv:0 < v):(0::(G++v::R)).getD G.length 0 < v:=by
 rcases List.eq_nil_or_concat G with z | ⟨G',w,z⟩
 .rw [z];exact hv
 .rw [List.concat_eq_append] at z
  subst z
  rw [yBA,yAB,yAN,List.getElem?_cons_succ,yAL,show [w]++v::R=w::(v::R) from rfl,ZA5]
  exact (List.pairwise_append.mp h).2.2 w (by simp) v (by simp)
theorem P54.join {ks:List Int} {s e r v1 v2 v3:Nat} {L:List (Nat×Nat)} {ls:List (Nat×Nat)} {Gs gs gs':List Nat} {J J':Nat->Nat} {ps ps':List (Nat×List Nat)} {A:List (Nat×List Nat)} {o1 o2 o:List Nat} {B:List (Nat×List Nat)} (h:P54 ks s e ls Gs J ps gs r) (pi:PInv ks s e r ps gs) (st:StJ ks e ps gs r v1 v2 v3 L ps' gs' A o1 o2 o B) (hJ:∀ u,J' u=if v1 <= u /\ u < v3 then J u+1 else J u):P54 ks s e ls Gs J' ps' gs' r:=by
 have e1:=st.e1
 have e2:=st.e2
 have e3:=st.e3
 have e4:=st.e4
 subst e1 e2 e3 e4
 have gl:=pi.gl
 rw [yAB,yAG,yAG] at gl
 have key:gs.getD A.length 0 < gs.getD A.length 0+1->True:=fun _=>trivial
 have hch:=pi.ch
 obtain ⟨v3',c1,c2,c3,_,_,c6,_⟩:=hch.two
 have c7:=c6.bey
 have c8:=c6.le
 have c9:=c1.le
 have ji:(0::gs).getD A.length 0 < gs.getD A.length 0->gs.getD (A.length+1) 0 < gs.getD A.length 0->JIn J' (Mu 0 ls Gs) 0 (A++(v1,o)::B) (gs.eraseIdx A.length) r:=fun h1 h2=>
  JIn.join (p1:=(v1,o1)) (p2:=(v2,o2)) (fun u=>by rw [hJ u];split <;> omega) (fun u hn=>by rw [hJ u,if_neg hn];exact yAA _) hch h.ji h1 h2
 have hz:∀ u,u < s∨r <= u->J' u=0:=fun u hu=>by rw [hJ u,if_neg (by omega)];exact h.z u hu
 rcases st.wh with ⟨hd,hB⟩ | ⟨hd,re,hB⟩
 .obtain ⟨G,g1,g2,eg⟩:=ZCJ (l:=gs) (by omega)
  have hG:G.length=A.length:=by
   have:=congrArg List.length eg
   rw [yAB] at this
   have t2:([g1,g2]:List Nat).length=2:=rfl
   omega
  have hg:g2 < g1:=by rw [eg,ZCw] at hd;exact of_decide_eq_true hd
  have a1:gs.getD A.length 0=g1:=by rw [eg,yBA,<- hG,ZA5];rfl
  have a2:gs.getD (A.length+1) 0=g2:=by rw [eg,yBA,<- hG,ZBr];rfl
  have a3:gs.eraseIdx A.length=G++[g2]:=by rw [eg,<- hG,List.eraseIdx_append_of_length_le (yAA _),yAY];rfl
  obtain ⟨P,g,H,b1,b2,P1⟩:∃ P g H,gs=P++[g] /\ Gs=H++[g] /\ Gr.Pil ((e:Int)-s) (fL s ls) (gD Gs) H.length P:=by
   rcases h.pl with z | z
   .have:=z.srt
    rw [eg] at this
    have:=(List.pairwise_append.mp this).2.1
    simp at this
    omega
   .exact z
  have b3:P=G++[g1] /\ g=g2:=by
   have:P++[g]=(G++[g1])++[g2]:=by rw [<- b1,eg];simp
   have:=List.append_inj' this rfl
   exact ⟨this.1,by simpa using this.2⟩
  obtain ⟨b3,b4⟩:=b3
  subst b3 b4
  have a4:(0::gs).getD A.length 0 < g1:=by
   have h5:=left_of (G:=G) (R:=[]) P1.srt (Pil.pos P1 (by simp))
   rw [yBA] at h5 ⊢
   rw [eg,<- hG]
   cases G with
   | nil=>exact h5
   | cons x G=>
    rw [yAG,List.getElem?_cons_succ] at h5 ⊢
    rw [yAU (by simp)] at h5 ⊢
    exact h5
  refine ⟨h.lc,h.gl,h.gg,fun z=>by simp at z,fun hlt A' p ep=>?_,hz,ji (by rw [a1];exact a4) (by rw [a1,a2];exact hg),.inr ⟨G,g,H,a3,b2,P1.pre⟩⟩
  obtain ⟨p3,rfl⟩:∃ p3,B=[p3]:=by
   match B,hB with
   | [p3],_=>exact ⟨p3,rfl⟩
  obtain ⟨f1,f2⟩:=h.tp hlt (A++[(v1,o1),(v2,o2)]) p3 (by simp)
  have ep':(A++[(v1,o)])++[p3]=A'++[p]:=by rw [<- ep];simp
  have ep2:=(List.append_inj' ep' rfl).2
  obtain rfl:p3=p:=by simpa using ep2
  refine ⟨f1,fun u hu=>?_⟩
  rw [hJ u,if_neg (fun z=>?_)]
  .exact f2 u hu
  .have z2:u < p3.1:=z.2
   omega
 .subst hB
  have P1:=h.pil pi.re hd
  obtain ⟨G,v,eg⟩:∃ G v,gs=G++[v]:=by
   rcases List.eq_nil_or_concat gs with z | ⟨G,v,z⟩
   .rw [z] at gl;simp at gl
   .exact ⟨G,v,by rw [z,List.concat_eq_append]⟩
  have hG:G.length=A.length:=by
   have:=congrArg List.length eg
   rw [yAB,yAN] at this
   simp at gl
   omega
  have hv:0 < v:=Pil.pos P1 (by rw [eg];simp)
  have a1:gs.getD A.length 0=v:=by rw [eg,yBA,<- hG,ZA5];rfl
  have a2:gs.getD (A.length+1) 0=0:=by rw [eg,yBA,<- hG,yBJ (by simp)];rfl
  have a3:gs.eraseIdx A.length=G:=by rw [eg,<- hG,List.eraseIdx_append_of_length_le (yAA _),yAY];simp
  have a4:(0::gs).getD A.length 0 < v:=by rw [eg,<- hG];exact left_of (R:=[]) (eg ▸ P1.srt) hv
  refine ⟨h.lc,h.gl,h.gg,fun z=>by simp at z,fun hlt=>absurd hlt (by omega),hz,ji (by rw [a1];exact a4) (by rw [a1,a2];exact hv),.inl ?_⟩
  rw [a3]
  rw [eg] at P1
  exact P1.pre
theorem P54.lay {ks:List Int} {ls0 s e r v1 v2 v3 r':Nat} {L:List (Nat×Nat)} {ls:List (Nat×Nat)} {Gs gs gs':List Nat} {J:Nat->Nat} {ps ps':List (Nat×List Nat)} {f:Bool} {os:List Nat} {l:List (Nat×Nat)} (h:P54 ks s e ls Gs J ps gs r) (pi:PInv ks s e r ps gs) (st:StL ks ls0 s e ps gs r v1 v2 v3 L ps' gs' r' f os l):∃ Gs',P54 ks s e (ls++[(v1,v3)]) Gs' J ps' gs' r':=by
 obtain ⟨o1,o2,o3⟩:=st.ord
 have e1:=st.e1
 have e4:=st.e4
 have e5:=st.e5
 have hlt:=st.lt
 subst e1 e4 e5
 have P1:=h.pil pi.re st.wh
 have gl:=pi.gl
 have z':∀ u,u < s∨r' <= u->J u=0:=fun u hu=>h.z u (by omega)
 rcases st.gr with ⟨g1,g2⟩ | ⟨A,p,g,g1,g2,g3,g4⟩
 .subst g1 g2
  have hls:=h.ne rfl
  subst hls
  have hGs:Gs=[]:=List.length_eq_zero_iff.mp h.gl
  have hgs:gs'=[]:=List.length_eq_zero_iff.mp gl
  subst hGs hgs
  have hsr:s=v1:=h.lc
  refine ⟨[],⟨hsr.symm,o2,rfl⟩,rfl,fun k g hk=>by simp at hk,fun z=>by simp at z,fun _ A p ep=>?_,z',⟨fun u a b=>?_,trivial⟩,.inl ⟨fun j hj=>absurd hj (by simp),List.Pairwise.nil,fun x hx=>by cases hx⟩⟩
  .have ep2:A=[] /\ p=(v1,os):=by
    have:=List.append_inj' (show ([]:List (Nat×List Nat))++[(v1,os)]=A++[p] from ep) rfl
    exact ⟨this.1.symm,by simpa using this.2.symm⟩
   obtain ⟨rfl,rfl⟩:=ep2
   exact ⟨⟨[],rfl⟩,fun u hu=>h.z u (.inr hu)⟩
  .have a:v1 <= u:=a
   rw [h.z u (.inr a)]
   show 0+max 0 0 <= _
   omega
 .subst g1 g2
  obtain ⟨⟨L',eL⟩,hz⟩:=h.tp hlt A p rfl
  subst eL
  have hGl:=h.gl
  rw [yAB,yAN] at hGl
  have hgl:gs.length=A.length:=by rw [gl,yAB,yAN];omega
  have hlc:=h.lc.snoc o2
  have f1:fL s (L'++[(p.1,v1)]) Gs.length=((p.1:Int)-s)+((v1:Int)-s):=ZDF (by rw [show Gs.length=L'.length by omega];exact ZA5 ..)
  have f2:fL s (L'++[(p.1,v1)]++[(v1,r')]) (Gs.length+1)=((v1:Int)-s)+((r':Int)-s):=ZDF (by rw [show Gs.length+1=(L'++[(p.1,v1)]).length by simp;omega];exact ZA5 ..)
  have f3:∀ j,j <= Gs.length->fL s (L'++[(p.1,v1)]++[(v1,r')]) j=fL s (L'++[(p.1,v1)]) j:=fun j hj=>fL_app (by rw [yAB,yAN];omega)
  have f4:∀ j,j < Gs.length->gD (Gs++[g]) j=gD Gs j:=fun j hj=>by unfold gD;rw [yBA,yBA,yAU hj]
  refine ⟨Gs++[g],hlc,by simp;omega,fun k g' hk=>?_,fun z=>by simp at z,fun _ A' p' ep=>?_,z',?_,.inr ⟨gs,g,Gs,rfl,rfl,Pil.congr P1 (fun j hj _=>f3 j hj) f4⟩⟩
  .rcases Nat.lt_trichotomy k Gs.length with q | q | q
   .rw [yAU q] at hk
    rw [f3 k (by omega),f3 (k+1) (by omega)]
    exact h.gg k g' hk
   .subst q
    rw [ZA5] at hk
    cases hk
    rw [f3 _ (yAA _),f1,f2]
    exact g3
   .rw [yBJ (by simp;omega)] at hk
    cases hk
  .have:=List.append_inj' ep rfl
   obtain rfl:(v1,os)=p':=by simpa using this.2
   exact ⟨⟨L'++[(p.1,v1)],rfl⟩,fun u hu=>h.z u (.inr hu)⟩
  .exact JIn.lay (M:=Mu 0 (L'++[(p.1,v1)]) Gs) (fun u hu=>(ZDl h.lc (by omega)).1 hu) (fun u a b=>⟨hz u a,(ZDl h.lc (by omega)).2 a b⟩) (by omega) hgl pi.ch h.ji
theorem P54.fin {ks:List Int} {s e r:Nat} {ls:List (Nat×Nat)} {Gs gs:List Nat} {J:Nat->Nat} {ps:List (Nat×List Nat)} (h:P54 ks s e ls Gs J ps gs r) (pi:PInv ks s e r ps gs) (h1:ps.length <= 1) (u:Nat) (hs:s <= u) (hu:u < r):J u <= Mu 0 ls Gs u:=by
 have ch:=pi.ch
 have ji:=h.ji
 match ps,h1 with
 | [],_=>have ch:s=r:=ch;omega
 | [p],_=>
  have e1:p.1=s:=ch.1
  have:=ji.1 u (by omega) hu
  omega
theorem qt_ne' {m a b:Int} {p:Nat} (hm:0 < m) (h:2 * m <= (b-a) * 2 ^ p):Gr.qt m a p≠Gr.qt m b p:=by
 unfold Gr.qt
 have h1:a * 2 ^ p+2 * m <= b * 2 ^ p:=by rw [Int.sub_mul] at h;omega
 have h2:(a * 2 ^ p+2 * m) / (2 * m) <= b * 2 ^ p / (2 * m):=Int.ediv_le_ediv (by omega) h1
 rw [Int.add_ediv_of_dvd_right (Int.dvd_refl _),Int.ediv_self (by omega)] at h2
 omega
theorem g_le {m a b:Int} {g h:Nat} (hm:0 < m) (x:Gr.IsG m a b g) (h1:1 <= h) (hh:2 * m <= (b-a) * 2 ^ h):g <= h :=
 Nat.le_of_not_lt fun z=>qt_ne' hm hh (x.eq h h1 z)
def SJ (J:Nat->Nat) (x:Nat):Nat->Nat
 | 0=>0
 | d+1=>SJ J x d+J (x+d)
theorem ZDQ (J:Nat->Nat) (x d:Nat):∀ c,SJ J x (d+c)=SJ J x d+SJ J (x+d) c
 | 0=>rfl
 | c+1=>by
  show SJ J x (d+c)+J (x+(d+c))=SJ J x d+(SJ J (x+d) c+J (x+d+c))
  rw [ZDQ J x d c,Nat.add_assoc x d c]
  omega
theorem ZD9 {J:Nat->Nat} {x h:Nat}:∀ {d:Nat},(∀ u,x <= u->u < x+d->J u <= h)->SJ J x d <= d * h
 | 0,_=>yAH _
 | d+1,H=>by
  have h1:=ZD9 (d:=d) fun u a b=>H u a (by omega)
  have h2:=H (x+d) (by omega) (by omega)
  show SJ J x d+J (x+d) <= (d+1) * h
  rw [Nat.succ_mul]
  omega
theorem ZDr {J J':Nat->Nat} {x c:Nat}:∀ {d:Nat},(∀ u,x <= u->u < x+d->J' u=J u+c)->SJ J' x d=SJ J x d+d * c
 | 0,_=>by show 0=0+0 * c;rw [Nat.zero_mul]
 | d+1,H=>by
  have h1:=ZDr (d:=d) (c:=c) fun u a b=>H u a (by omega)
  have h2:=H (x+d) (by omega) (by omega)
  show SJ J' x d+J' (x+d)=SJ J x d+J (x+d)+(d+1) * c
  rw [Nat.succ_mul,h1,h2]
  omega
theorem SJ_join {J J':Nat->Nat} {s e v1 v3:Nat} (h1:s <= v1) (h2:v1 <= v3) (h3:v3 <= e) (hJ:∀ u,J' u=if v1 <= u /\ u < v3 then J u+1 else J u):SJ J' s (e-s)=SJ J s (e-s)+(v3-v1):=by
 have e1:∀ K:Nat->Nat,SJ K s (e-s)=SJ K s (v1-s)+SJ K v1 (v3-v1)+SJ K v3 (e-v3):=fun K=>by
  have a:=ZDQ K s (v1-s) (e-v1)
  have b:=ZDQ K v1 (v3-v1) (e-v3)
  rw [show v1-s+(e-v1)=e-s by omega,show s+(v1-s)=v1 by omega] at a
  rw [show v3-v1+(e-v3)=e-v1 by omega,show v1+(v3-v1)=v3 by omega] at b
  omega
 have a:=ZDr (J:=J) (J':=J') (x:=s) (c:=0) (d:=v1-s) fun u a b=>by rw [hJ u,if_neg (by omega)];rfl
 have b:=ZDr (J:=J) (J':=J') (x:=v1) (c:=1) (d:=v3-v1) fun u a b=>by rw [hJ u,if_pos (by omega)]
 have c:=ZDr (J:=J) (J':=J') (x:=v3) (c:=0) (d:=e-v3) fun u a b=>by rw [hJ u,if_neg (by omega)];rfl
 rw [e1 J',e1 J]
 omega
def wsum:List (Nat×Nat)->List Nat->Nat
 | [],_=>0
 | (a,b)::l,hs=>(b-a) * hs.headD 0+wsum l hs.tail
theorem SJ_lays {J:Nat->Nat}:∀ {ls:List (Nat×Nat)} {hs:List Nat} {x y:Nat},LCh x ls y->(∀ k a b,ls[k]?=some (a,b)->∀ u,a <= u->u < b->J u <= hs.getD k 0)->SJ J x (y-x) <= wsum ls hs
 | [],hs,x,y,h,_=>by have h:x=y:=h;rw [h,yAY];exact yAA _
 | (a,b)::l,hs,x,y,⟨h1,h2,h3⟩,H=>by
  have h4:=LCh.le h3
  subst h1
  have i1:=ZD9 (J:=J) (x:=a) (h:=hs.headD 0) (d:=b-a) fun u c d=>by
   have:=H 0 a b rfl u c (by omega)
   cases hs <;> exact this
  have i2:=SJ_lays (J:=J) (hs:=hs.tail) h3 fun k a' b' hk u c d=>by
   have:=H (k+1) a' b' (by simpa using hk) u c d
   cases hs with
   | nil=>simpa using this
   | cons g hs=>exact this
  have i3:=ZDQ J a (b-a) (y-b)
  rw [show b-a+(y-b)=y-a by omega,show a+(b-a)=b by omega] at i3
  show SJ J a (y-a) <= (b-a) * hs.headD 0+wsum l hs.tail
  omega
theorem P54.seam {ks:List Int} {s e r:Nat} {ls:List (Nat×Nat)} {Gs gs:List Nat} {J:Nat->Nat} {ps:List (Nat×List Nat)} (h:P54 ks s e ls Gs J ps gs r) (hr:r <= e) {k a b hh u:Nat} (hk:ls[k]?=some (a,b)) (h1:1 <= hh) (h2:2 * (e-s) <= (b-a+1) * 2 ^ hh) (ha:a <= u) (hb:u < b):Mu 0 ls Gs u <= hh:=by
 rw [Mu_get h.lc hk ha hb]
 have hq:=h.lc.get hk
 have c1:((2 * (e-s):Nat):Int) <= (((b-a+1) * 2 ^ hh:Nat):Int):=Int.ofNat_le.mpr h2
 rw [show (((b-a+1) * 2 ^ hh:Nat):Int)=((b-a+1:Nat):Int) * 2 ^ hh by rw [Int.natCast_mul,Int.natCast_pow];rfl] at c1
 have c2:(((b-a+1:Nat)):Int)=(b:Int)-a+1:=by omega
 rw [c2] at c1
 have c3:2 * ((e:Int)-s) <= ((b:Int)-a+1) * 2 ^ hh:=by
  have:((2 * (e-s):Nat):Int)=2 * ((e:Int)-s):=by omega
  rw [this] at c1
  exact c1
 have key:∀ {j g:Nat},Gs[j]?=some g->(j=k∨j+1=k)->g <= hh:=fun {j g} hj hjk=>by
  have hG:=h.gg j g hj
  have hjl:=(yAJ.mp hj).1
  have hgl:=h.gl
  refine g_le (by omega) hG h1 (Int.le_trans c3 (Int.mul_le_mul_of_nonneg_right ?_ (Int.le_of_lt (Gr.p2pos hh))))
  obtain ⟨⟨a1,b1⟩,q1⟩:∃ c,ls[j]?=some c:=⟨_,yAR (by omega)⟩
  obtain ⟨⟨a2,b2⟩,q2⟩:∃ c,ls[j+1]?=some c:=⟨_,yAR (by omega)⟩
  have w1:=h.lc.get q1
  have w2:=h.lc.get q2
  have w3:=h.lc.next q1 q2
  rw [ZDF q1,ZDF q2]
  rcases hjk with z | z
  .subst z
   rw [hk] at q1
   cases q1
   omega
  .subst z
   rw [hk] at q2
   cases q2
   omega
 have m1:Gs.getD k 0 <= hh:=by
  rw [yBA]
  cases hz:Gs[k]? with
  | none=>exact yAH _
  | some g=>exact key hz (.inl rfl)
 have m2:(0::Gs).getD k 0 <= hh:=by
  cases k with
  | zero=>exact yAH _
  | succ k=>
   rw [List.getD_cons_succ,yBA]
   cases hz:Gs[k]? with
   | none=>exact yAH _
   | some g=>exact key hz (.inr rfl)
 omega
theorem P54.two {ks:List Int} {s e r:Nat} {ls:List (Nat×Nat)} {Gs gs:List Nat} {J:Nat->Nat} {ps:List (Nat×List Nat)} (h:P54 ks s e ls Gs J ps gs r) (pi:PInv ks s e r ps gs) (h1:ps.length <= 1) (hr:r=e) (hl:ls.length < 2):SJ J s (e-s)=0:=by
 have hGs:Gs=[]:=List.length_eq_zero_iff.mp (by rw [h.gl];omega)
 have:=ZD9 (J:=J) (x:=s) (h:=0) (d:=e-s) fun u a b=>by
  have h2:=h.fin pi h1 u a (by omega)
  rw [hGs] at h2
  match ls,hl,h.lc with
  | [],_,hlc=>have hlc:s=r:=hlc;omega
  | [(a',b')],_,⟨e1,e2,e3⟩=>
   have e3:b'=r:=e3
   have:Mu 0 [(a',b')] [] u=0:=by show (if u < b' then max 0 0 else 0)=0;split <;> rfl
   omega
 omega
theorem P54.all {ks:List Int} {s e r:Nat} {ls:List (Nat×Nat)} {Gs gs:List Nat} {J:Nat->Nat} {ps:List (Nat×List Nat)} (h:P54 ks s e ls Gs J ps gs r) (pi:PInv ks s e r ps gs) (h1:ps.length <= 1) (hr:r=e) {hs:List Nat} (hh:∀ k a b,ls[k]?=some (a,b)->1 <= hs.getD k 0 /\ 2 * (e-s) <= (b-a+1) * 2 ^ hs.getD k 0):SJ J s (e-s) <= wsum ls hs:=by
 have hlc:=h.lc
 rw [hr] at hlc
 refine SJ_lays hlc fun k a b hk u ha hb=>?_
 have hq:=h.lc.get hk
 exact yAI (h.fin pi h1 u (by omega) (by omega)) (h.seam pi.re hk (hh k a b hk).1 (hh k a b hk).2 ha hb)
theorem StJ.asks {ks:List Int} {e:Nat} {ps:List (Nat×List Nat)} {gs:List Nat} {r v1 v2 v3 s:Nat} {L:List (Nat×Nat)} {ps':List (Nat×List Nat)} {gs':List Nat} {A:List (Nat×List Nat)} {o1 o2 o:List Nat} {B:List (Nat×List Nat)} (j:StJ ks e ps gs r v1 v2 v3 L ps' gs' A o1 o2 o B) (pi:PInv ks s e r ps gs):s <= v1 /\ v1 < v3 /\ v3 <= e /\ L.length+1 <= (v3-v1)+(v3-v1) / 7:=by
 have ch:=pi.ch
 rw [j.e1] at ch
 obtain ⟨v3',h1,h2,h3,h4,h5,h6,_⟩:=ch.two
 have e3:=j.e3
 have hb:=h6.bey
 have:=h6.le
 have:=h1.le
 have:=pi.re
 have l1:=h4.len
 have l2:=h5.len
 have:=j.jt.most (by decide) (yAH _) (yAH _) (by omega)
 have ee:(o1.length-0)+(o2.length-0)=v3-v1:=by omega
 rw [ee] at this
 exact ⟨by omega,by omega,by omega,this⟩
theorem Halv.bits {ks:List Int} {os:List Nat} {pl low high r:Nat} {l:List (Nat×Nat)} (h:Halv ks os pl low high r l):∀ n,l.length=n+1->2 ^ n <= high-low:=by
 have two:∀ n k m:Nat,2 ^ n <= k->2 * k <= m->2 ^ (n+1) <= m:=fun n k m h1 h2=>by rw [yBH];omega
 induction h with
 | done n=>intro n z;simp at z
 | @less low high r o l a b c d ih=>
  intro n z
  rw [yAG] at z
  cases n with
  | zero=>show 1 <= _;omega
  | succ n=>exact two n _ _ (ih n (by omega)) (by omega)
 | @more low high r o l a b c d ih=>
  intro n z
  rw [yAG] at z
  cases n with
  | zero=>show 1 <= _;omega
  | succ n=>exact two n _ _ (ih n (by omega)) (by omega)
theorem nbits_ge {n z:Nat} (h:2 ^ n <= z):n+1 <= ZBN z:=by
 have h0:z≠0:=fun e=>by have:=Nat.pow_pos (n:=n) (show 0 < 2 by decide);omega
 unfold ZBN
 rw [if_neg h0]
 have:=(Nat.le_log2 h0).mpr h
 omega
def bsum (z:Nat):Nat->Nat
 | 0=>0
 | d+1=>ZBN z+bsum (z+1) d
theorem Put.bits {ks:List Int} {os os':List Nat} {p e:Nat} {l:List (Nat×Nat)} (h:Put ks os p e os' l):l.length <= bsum os.length (e-p):=by
 induction h with
 | nil n=>exact yAH _
 | @cons os os' p e r l l' a b c ih=>
  rw [show e-p=(e-(p+1))+1 by omega]
  have hl:l.length <= ZBN os.length:=by
   rcases Nat.eq_zero_or_pos l.length with z | z
   .omega
   .have h1:=b.bits (l.length-1) (by omega)
    rw [Nat.sub_zero] at h1
    have:=nbits_ge h1
    omega
  rw [insN_len] at ih
  show (l++l').length <= ZBN os.length+bsum (os.length+1) (e-(p+1))
  rw [yAB]
  omega
theorem StL.asks {ks:List Int} {ls s e:Nat} {ps:List (Nat×List Nat)} {gs:List Nat} {r v1 v2 v3:Nat} {L:List (Nat×Nat)} {ps':List (Nat×List Nat)} {gs':List Nat} {r':Nat} {f:Bool} {os:List Nat} {l:List (Nat×Nat)} (j:StL ks ls s e ps gs r v1 v2 v3 L ps' gs' r' f os l):v1 < v2 /\ v2 <= v3 /\ v3 <= e /\ L.length <= v2-v1-1+(if v2 < e then 1 else 0)+bsum (v2-v1) (v3-v2) /\ (ls=1->v3=v2):=by
 obtain ⟨o1,o2,o3⟩:=j.ord
 have hb:=j.by'.two
 have e1:=j.e1
 have e3:=j.e3
 have hlt:=j.lt
 have f1:=j.put.bits
 rw [turnN_len] at f1
 rw [j.e2,yAB,ZCO,e1]
 refine ⟨by omega,by omega,o3,?_,fun z=>by omega⟩
 have e4:min (r+ls) e-v2=v3-v2:=by omega
 rw [e4] at f1
 split <;> omega
def A56 (s e r n T:Nat):Prop:=n+(if r=e /\ s < e then 1 else 0) <= (r-s)+T+T / 7
theorem A56.step {ks:List Int} {s e:Nat} {ps:List (Nat×List Nat)} {gs:List Nat} {r:Nat} {k:Bool} {v1 v2 v3:Nat} {L:List (Nat×Nat)} {ps':List (Nat×List Nat)} {gs':List Nat} {r':Nat} {J J':Nat->Nat} {n:Nat} (h:Stp ks 1 s e ps gs r k v1 v2 v3 L ps' gs' r') (i:PInv ks s e r ps gs) (hJ:∀ u,J' u=if k=true /\ v1 <= u /\ u < v3 then J u+1 else J u) (a:A56 s e r n (SJ J s (e-s))):A56 s e r' (n+L.length) (SJ J' s (e-s)):=by
 have hcl:=i.ch.le
 unfold A56 at *
 rcases h with ⟨rfl,rfl,A,o1,o2,o,B,j⟩ | ⟨rfl,f,os,l,j⟩
 .obtain ⟨b1,b2,b3,b4⟩:=j.asks i
  rw [SJ_join (J:=J) b1 (by omega) b3 (fun u=>by rw [hJ u];simp)]
  omega
 .obtain ⟨b1,b2,b3,b4,b5⟩:=j.asks
  have e3:=b5 rfl
  have e4:=j.e4
  have hv1:=j.e1
  have hlt:=j.lt
  have eJ:J'=J:=funext fun u=>by rw [hJ u,if_neg (by simp)]
  rw [e3,yAY] at b4
  have b4:L.length <= v2-v1-1+(if v2 < e then 1 else 0)+0:=b4
  rw [eJ]
  rw [if_neg (by omega)] at a
  by_cases z:v2 < e
  .rw [if_pos z] at b4
   rw [if_neg (by omega)]
   omega
  .rw [if_neg z] at b4
   split <;> omega
theorem JT.down {ks:List Int} {ls rs ps:List Nat} {i j w:Nat} {s:Bool} {L:List (Nat×Nat)} (h:JT ks ls rs i j w s ps L):(∀ x∈ls,∀ y∈rs,x≠y)->∀ c∈L,c.2 < c.1:=by
 have mx:∀ {x y:Nat},x≠y->(max x y,min x y).2 < (max x y,min x y).1:=fun {x y} a=>by show min x y < max x y;omega
 induction h with
 | done _=>intro _ c hc;cases hc
 | step a b c d e ih=>
  intro h1 c hc
  rcases yAF.mp hc with z | z
  .rw [z];exact mx (h1 _ (yAO a) _ (yAO b))
  .exact ih h1 c z
 | @leap ls rs ps G i j w x y z s L a b c d e f g k l ih=>
  intro h1 c hc
  rcases yAF.mp hc with t | t
  .rw [t];exact mx (h1 _ (yAO a) _ (yAO b))
  rcases yBC.mp t with t | t
  .obtain ⟨m,hm,rfl⟩:=yBM.mp t
   have hr:=k.range (yAA _) (by omega) (yAA _) m hm
   have he:=yAR hr.2
   rw [ask1_eq he]
   exact mx (h1 _ (yAO he) _ (yAO b))
  .exact ih h1 c t
 | @last ls rs ps G i j w x y s L a b c d g k l ih=>
  intro h1 c hc
  rcases yAF.mp hc with t | t
  .rw [t];exact mx (h1 _ (yAO a) _ (yAO b))
  rcases yBC.mp t with t | t
  .obtain ⟨m,hm,rfl⟩:=yBM.mp t
   have hr:=k.range (yAA _) (yAJ.mp a).1 (yAA _) m hm
   have he:=yAR hr.2
   rw [ask1_eq he]
   exact mx (h1 _ (yAO he) _ (yAO b))
  .exact ih h1 c t
 | swap h ih=>exact fun h1=>ih fun x hx y hy=>Ne.symm (h1 y hy x hx)
theorem Stp.down {ks:List Int} {ls s e:Nat} {ps:List (Nat×List Nat)} {gs:List Nat} {r:Nat} {k:Bool} {v1 v2 v3:Nat} {L:List (Nat×Nat)} {ps':List (Nat×List Nat)} {gs':List Nat} {r':Nat} (h:Stp ks ls s e ps gs r k v1 v2 v3 L ps' gs' r') (i:PInv ks s e r ps gs):∀ c∈L,c.2 < c.1:=by
 rcases h with ⟨_,rfl,A,o1,o2,o,B,j⟩ | ⟨_,f,os,l,j⟩
 .have ch:=i.ch
  rw [j.e1] at ch
  obtain ⟨v3',h1,h2,h3,h4,h5,h6,_⟩:=ch.two
  refine j.jt.down fun x hx y hy=>?_
  have:=(h4.mem x).mp hx
  have:=(h5.mem y).mp hy
  omega
 .have hb:=j.by'.two
  have hlt:=j.lt
  obtain ⟨_,o3⟩:=j.put.all (first:=r) (asks r (min (v2+1) e)) (by omega) j.by'.ord
  rw [j.e2]
  intro c hc
  rcases yBC.mp hc with z | z
  .unfold asks at z
   obtain ⟨q,hq,rfl⟩:=yBM.mp z
   have:=List.mem_range'_1.mp hq
   show q-1 < q
   omega
  .exact o3 c z
def spn:List (Nat×List Nat)->List Nat->Nat->List (Nat×Nat×Nat)
 | [],_,_=>[]
 | p::ps,gs,r=>(p.1,bB ps r,gs.headD 0)::spn ps gs.tail r
theorem spn_len (ps:List (Nat×List Nat)) (gs:List Nat) (r:Nat):(spn ps gs r).length=ps.length:=by
 induction ps generalizing gs with
 | nil=>rfl
 | cons p ps ih=>show (spn ps gs.tail r).length+1=ps.length+1;rw [ih]
theorem spn_get {r:Nat}:∀ {ps:List (Nat×List Nat)} {gs:List Nat} {i:Nat} {p:Nat×List Nat},ps[i]?=some p->(spn ps gs r)[i]?=some (p.1,bB (ps.drop (i+1)) r,(gs[i]?).getD 0)
 | [],gs,i,p,h=>by simp at h
 | q::ps,gs,0,p,h=>by
  cases h
  show some (q.1,bB ps r,gs.headD 0)=_
  cases gs <;> rfl
 | q::ps,gs,i+1,p,h=>by
  show (spn ps gs.tail r)[i]?=_
  rw [spn_get (ps:=ps) (gs:=gs.tail) (i:=i) (by simpa using h)]
  cases gs <;> rfl
structure Spans (H:Hp) (ss:List (Nat×Nat×Nat)) (ts:List V):Prop where
 len:ts.length=ss.length
 get:∀ (j x y z:Nat),ss[j]?=some (x,y,z)->∃ t,ts[j]?=some (V.ref t) /\ H t=some (.tup [.int x,.int y,.int z])
theorem Spans.keep {H H':Hp} {ss:List (Nat×Nat×Nat)} {ts:List V} (h:Spans H ss ts) (e:∀ t x,H t=some (.tup x)->H' t=some (.tup x)):Spans H' ss ts :=
 ⟨h.len,fun j x y z hj=>let ⟨t,a,b⟩:=h.get j x y z hj;⟨t,a,e _ _ b⟩⟩
theorem Spans.snoc {H:Hp} {ss:List (Nat×Nat×Nat)} {ts:List V} {x y z:Nat} {t:Addr} (h:Spans H ss ts) (ht:H t=some (.tup [.int x,.int y,.int z])):Spans H (ss++[(x,y,z)]) (ts++[.ref t]):=by
 refine ⟨by rw [yAB,yAB,h.len];rfl,fun j x' y' z' hj=>?_⟩
 by_cases hl:j < ss.length
 .rw [yAU hl] at hj
  obtain ⟨t',a,b⟩:=h.get j x' y' z' hj
  exact ⟨t',by rw [yAU (by rw [h.len];exact hl)];exact a,b⟩
 .have e:=(yAJ.mp hj).1
  rw [yAB] at e
  have hj':j=ss.length:=by have:([(x,y,z)]:List (Nat×Nat×Nat)).length=1:=rfl;omega
  subst hj'
  rw [yBD (yAA _),yAY] at hj
  cases hj
  exact ⟨t,by rw [<- h.len,yBD (yAA _),yAY];rfl,ht⟩
def ZCD (CP:Addr):Sp:=fun vs H Q _=>∃ (x a fs od gr:Addr) (ls s e r:Nat) (oa:List Addr) (ps:List (Nat×List Nat)) (gs:List Nat),vs=[.ref x] /\ PileAt CP H x a fs od gr ls s e r oa ps gs /\ ps.length <= 63 /\ gs.length=ps.length-1 /\ ∀ l H' ts,Same H H'->H l=none->H' l=some (.lst ts)->Spans H' (spn ps gs r) ts->Q (.ref l) H'
structure Lys (H:Hp) (ls:List (Nat×Nat)) (ts:List V):Prop where
 len:ts.length=ls.length
 get:∀ (j a b:Nat),ls[j]?=some (a,b)->∃ t,ts[j]?=some (V.ref t) /\ H t=some (.tup [.int a,.int b])
theorem Lys.keep {H H':Hp} {ls:List (Nat×Nat)} {ts:List V} (h:Lys H ls ts) (e:∀ t x,H t=some (.tup x)->H' t=some (.tup x)):Lys H' ls ts :=
 ⟨h.len,fun j x y hj=>let ⟨t,a,b⟩:=h.get j x y hj;⟨t,a,e _ _ b⟩⟩
theorem Lys.snoc {H:Hp} {ls:List (Nat×Nat)} {ts:List V} {x y:Nat} {t:Addr} (h:Lys H ls ts) (ht:H t=some (.tup [.int x,.int y])):Lys H (ls++[(x,y)]) (ts++[.ref t]):=by
 refine ⟨by rw [yAB,yAB,h.len];rfl,fun j x' y' hj=>?_⟩
 rcases Nat.lt_trichotomy j ls.length with z | z | z
 .rw [yAU z] at hj
  obtain ⟨t',a,b⟩:=h.get j x' y' hj
  exact ⟨t',by rw [yAU (by rw [h.len];exact z)];exact a,b⟩
 .subst z
  rw [ZA5] at hj
  cases hj
  exact ⟨t,by rw [<- h.len];exact ZA5 ..,ht⟩
 .rw [yBJ (by simp;omega)] at hj;cases hj
def mo56 (k:Bool) (v1 v2 v3 n:Nat):Nat:=if k then (v3-v1)-1+(v3-v1) / 7 else v2-v1-1+(if v2 < n then 1 else 0)+bsum (v2-v1) (v3-v2)
theorem bsum_snoc:∀ (d z:Nat),bsum z (d+1)=bsum z d+ZBN (z+d)
 | 0,z=>by show ZBN z+0=0+ZBN z;omega
 | d+1,z=>by
  show ZBN z+bsum (z+1) (d+1)=ZBN z+bsum (z+1) d+ZBN (z+(d+1))
  rw [bsum_snoc d (z+1),show z+1+d=z+(d+1) by omega]
  omega
theorem intBits_n (n:Nat):Builtin.Int.intBits (n:Int)=ZBN n:=by
 unfold ZBN
 split
 .rename_i h;rw [h];rfl
 .rename_i h;exact bits_nat n h
def ZCj:Sp:=fun vs H Q _=>∃ (x:Addr) (k:Bool) (v1 v2 v3 n:Nat),vs=[.ref x,.int n] /\ H x=some (.tup [kS k,.int v1,.int v2,.int v3]) /\ v1 < v2 /\ v2 <= v3 /\ v3 <= 63 /\ n <= 63 /\ Q (.int (mo56 k v1 v2 v3 n)) H
def ZC5:Sp:=fun vs H Q _=>∃ (x:Addr) (n:Nat) (ls:List (Nat×Nat)) (ts:List V),vs=[.ref x,.int n] /\ H x=some (.lst ts) /\ Lys H ls ts /\ LCh 0 ls n /\ n <= 63 /\ (ls.length < 2->Q (.int 0) H) /\ ∀ hs:List Nat,2 <= ls.length->(∀ k a b,ls[k]?=some (a,b)->1 <= hs.getD k 0 /\ 2 * n <= (b-a+1) * 2 ^ hs.getD k 0)->Q (.int (wsum ls hs:Nat)) H
theorem wsum_snoc {a b p:Nat}:∀ {l:List (Nat×Nat)} {hs:List Nat},l.length=hs.length->wsum (l++[(a,b)]) (hs++[p])=wsum l hs+(b-a) * p
 | [],[],_=>by show (b-a) * p+0=0+(b-a) * p;omega
 | [],h::hs,e=>by simp at e
 | c::l,[],e=>by simp at e
 | (c,d)::l,h::hs,e=>by
  have ih:=wsum_snoc (a:=a) (b:=b) (p:=p) (l:=l) (hs:=hs) (by simpa using e)
  show (d-c) * h+wsum (l++[(a,b)]) (hs++[p])=(d-c) * h+wsum l hs+(b-a) * p
  omega
structure W57 (CA:Addr) (CR:Addr) (CP:Addr) (X:Hp) (ks:List Int) (xs:List V) (ak rl ru tl g lg x fs od gr:Addr) (pr:List (Nat×Nat)) (ls s e r:Nat) (oa:List Addr) (ps:List (Nat×List Nat)) (gs:List Nat):Prop where
 pa:PileAt CP X x ak fs od gr ls s e r oa ps gs
 px:PXl ak rl ru lg tl x fs od gr oa
 pi:PInv ks s e r ps gs
 st:SitL CA CR X ks xs ak rl ru tl g lg pr
 rn:Rn ks ls s e [] [] s pr ps gs r
section
variable {CA:Addr} {CR:Addr} {CP:Addr} {X Y:Hp} {ks:List Int} {xs:List V} {ak rl ru tl g lg x fs od gr:Addr} {pr:List (Nat×Nat)} {ls s e r:Nat} {oa:List Addr} {ps:List (Nat×List Nat)} {gs:List Nat}
theorem W57.fr {S:List Addr} (w:W57 CA CR CP X ks xs ak rl ru tl g lg x fs od gr pr ls s e r oa ps gs) (f:Fr S X Y) (hS:∀ b∈S,∃ l,X b=some (.lst l)) (n:∀ b∈S,b∉[x,fs,od,gr,ak,lg,tl] /\ b∉oa /\ b≠rl):W57 CA CR CP Y ks xs ak rl ru tl g lg x fs od gr pr ls s e r oa ps gs:=by
 have hne:∀ {b:Addr},b∈[x,fs,od,gr,ak,lg,tl]->b∉S:=fun {b} h z=>(n b z).1 h
 have m1:x∈[x,fs,od,gr,ak,lg,tl]:=yAE
 have m2:fs∈[x,fs,od,gr,ak,lg,tl]:=yAC _ yAE
 have m3:od∈[x,fs,od,gr,ak,lg,tl]:=yAC _ (yAC _ yAE)
 have m4:gr∈[x,fs,od,gr,ak,lg,tl]:=yAC _ (yAC _ (yAC _ yAE))
 have m6:tl∈[x,fs,od,gr,ak,lg,tl]:=yAV [x,fs,od,gr,ak] (yAC _ yAE)
 have m5:lg∈[x,fs,od,gr,ak,lg,tl]:=yAV [x,fs,od,gr,ak] yAE
 exact ⟨w.pa.fr f ⟨hne m1,hne m2,hne m3,hne m4⟩ (fun b hb z=>(n b z).2.1 hb),w.px,w.pi,w.st.apart f hS ⟨fun z=>(n _ z).2.2 rfl,hne m5,hne m6⟩,w.rn⟩
theorem W57.mono (w:W57 CA CR CP X ks xs ak rl ru tl g lg x fs od gr pr ls s e r oa ps gs) (f:Same X Y):W57 CA CR CP Y ks xs ak rl ru tl g lg x fs od gr pr ls s e r oa ps gs:=w.fr (S:=[]) f.fr (fun b h=>by cases h) (fun b h=>by cases h)
theorem W57.free (w:W57 CA CR CP X ks xs ak rl ru tl g lg x fs od gr pr ls s e r oa ps gs) {b:Addr} (hb:X b=none):b∉[x,fs,od,gr,ak,lg,tl] /\ b∉oa /\ b≠rl:=by
 refine ⟨seven (w.pa.hp.neN hb) (fun z=>by rw [z,w.pa.hfs] at hb;cases hb) (fun z=>by rw [z,w.pa.hod] at hb;cases hb) (fun z=>by rw [z,w.pa.hgr] at hb;cases hb) (w.st.newS hb),fun z=>?_,(fun z=>by rw [z,w.st.hrl] at hb;cases hb)⟩
 obtain ⟨i,hi⟩:=List.getElem?_of_mem z
 obtain ⟨p',_,hp'⟩:=w.pa.oat.get hi
 rw [hp'] at hb;cases hb
theorem W57.nt (w:W57 CA CR CP X ks xs ak rl ru tl g lg x fs od gr pr ls s e r oa ps gs) {b:Addr} {us:List V} (hb:X b=some (.tup us)):b∉[x,fs,od,gr,ak,lg,tl]:=by
 obtain ⟨w2,h2,_⟩:=w.st.htl
 obtain ⟨w3,h3,_⟩:=w.st.hlg
 have L':∀ {c:Addr} {l:List V},X c=some (.lst l)->b≠c:=fun {c l} hc z=>by rw [<- z,hb] at hc;cases hc
 have I:∀ {c C:Addr} {f:List (Str×V)},Ins X c C f->b≠c:=fun {c C f} hc z=>by obtain ⟨d,fs,e1,_⟩:=hc.ex;rw [<- z,hb] at e1;cases e1
 exact seven (I w.pa.hp) (L' w.pa.hfs) (L' w.pa.hod) (L' w.pa.hgr) (ZD4 (I w.st.ha) (L' h3) (L' h2))
theorem W57.step {t:Addr} {L:List (Nat×Nat)} {r':Nat} {oa':List Addr} {ps':List (Nat×List Nat)} {gs':List Nat} {k:Bool} {v1 v2 v3:Nat} (w:W57 CA CR CP X ks xs ak rl ru tl g lg x fs od gr pr ls s e r oa ps gs) (lf:Left CA CR CP X ks xs ak rl ru tl g lg x fs od gr pr ls s e oa k v1 v2 v3 L oa' ps' gs' r' t Y) (stp:Stp ks ls s e ps gs r k v1 v2 v3 L ps' gs' r'):W57 CA CR CP Y ks xs ak rl ru tl g lg x fs od gr (pr++L) ls s e r' oa' ps' gs':=by
 obtain ⟨fr,hoa,ht,pa,px,st'⟩:=lf
 exact ⟨pa,px,stp.inv w.pi,st',.snoc w.rn stp⟩
theorem W57.few (w:W57 CA CR CP X ks xs ak rl ru tl g lg x fs od gr pr ls s e r oa ps gs) (hes:e-s <= 63) (hse:s <= e):pr.length <= 13000:=by
 have h1:=w.rn.cost ⟨rfl,hse,rfl,fun g hg=>by cases hg⟩ hes
 have h2:=w.pi.re
 simp only [yBR,yAY] at h1
 omega
end
theorem compL_big {K:W.Frag} {a:Addr} {xs:List V} {g:TG} {tt:TT} {te:TE} {Q:VK} {σ0:St} {H:Hp} (h:SqL K H a xs) (hz:xs.length <= 20000) (P:Nat->List V->St->Hp->Prop) (h0:P 0 [] σ0 H) (hl:∀ i ys σ H,i <= xs.length->P i ys σ H->SqL K H a xs /\ ys.length <= i)
  (hs:∀ i ys x σ H,i < xs.length->xs[i]?=some x->P i ys σ H->g x σ H fun σ2 H2=>tt σ2 H2 fun b H3=>if b=true then te σ2 H3 fun y H4=>Nxt P xs.length i (ys++[y]) σ2 H4 else Nxt P xs.length i ys σ2 H3)
  (hd:∀ ys σ H,P xs.length ys σ H->∀ p,H p=none->Q (.ref p) (upd H p (.lst ys))):compL K g tt te σ0 Q (.ref a) H:=⟨a,rfl,⟨xs,h⟩,comp_list P h0 hl (yAI hz (by decide)) hs hd⟩
def I57 (CA CR CP:Addr) (ks:List Int) (xs:List V) (ak rl ru tl g lg x fs od gr a bl sd:Addr) (ls:Nat) (n:Nat) (σ:St) (X:Hp):Prop :=
 ∃ (fv:V) (pr:List (Nat×Nat)) (r:Nat) (oa:List Addr) (ps:List (Nat×List Nat)) (gs:List Nat) (ly:List (Nat×Nat)) (Gs:List Nat) (J:Nat->Nat) (ts:List V) (na:Nat),
  σ=[some (.ref a),some (.int (ks.length:Nat)),some (.int ls),some (.ref bl),some (.ref lg),some (.ref ru),some (.ref x),some (.ref sd),some (.int na),some fv,none] /\ W57 CA CR CP X ks xs ak rl ru tl g lg x fs od gr pr ls 0 ks.length r oa ps gs /\ X sd=some (.lst ts) /\ Lys X ly ts /\ sd∉oa /\ (∀ c∈pr,c.2 < c.1) /\
  ((fv=.non /\ n=0 /\ Fin' ks.length ps gs r /\ P54 ks 0 ks.length ly Gs J ps gs r /\ na=pr.length /\ (ls=1->A56 0 ks.length r pr.length (SJ J 0 (ks.length-0)))) ∨
    ∃ t k v1 v2 v3 L ps0 gs0 r0 pr0,fv=.ref t /\ n=2 * (ks.length-r)+ps.length+1 /\ X t=some (.tup [kS k,.int (v1:Nat),.int (v2:Nat),.int (v3:Nat)]) /\ Stp ks ls 0 ks.length ps0 gs0 r0 k v1 v2 v3 L ps gs r /\ PInv ks 0 ks.length r0 ps0 gs0 /\ P54 ks 0 ks.length ly Gs J ps0 gs0 r0 /\ pr=pr0++L /\ na=pr0.length /\ (ls=1->A56 0 ks.length r0 pr0.length (SJ J 0 (ks.length-0))))
theorem range_sorted {ms:List Int} {p:List Nat} {s n:Nat} (hp:p.Perm (List.range' s n)) (h:ms.Perm (p.map fun x:Nat=>(x:Int))) (hs:ms.Pairwise (· <= ·)):ms=(List.range' s n).map fun x:Nat=>(x:Int):=by
 refine List.Perm.eq_of_pairwise (le:=(· <= ·)) (fun a b _ _ h1 h2=>Int.le_antisymm h1 h2) hs ?_ (h.trans (hp.map _))
 rw [List.pairwise_map]
 exact List.Pairwise.imp (fun h=>by omega) List.pairwise_le_range'
theorem Ch.pm {ks:List Int}:∀ {x y:Nat} {ps:List (Nat×List Nat)},Ch ks x ps y->(flt ps).Perm (List.range' x (y-x))
 | x,y,[],h=>by have e:x=y:=h;rw [e,yAY];exact .refl _
 | x,y,(f,o)::r,⟨h1,m,h2,h3,h4⟩=>by
  have h5:=Ch.le h4
  show (o++flt r).Perm _
  refine (h3.pm.append (Ch.pm h4)).trans ?_
  rw [show y-x=(m-x)+(y-m) by omega,<- List.range'_append,show x+1 * (m-x)=m by omega]
theorem PInv.pm {ks:List Int} {s e r:Nat} {ps:List (Nat×List Nat)} {gs:List Nat} (i:PInv ks s e r ps gs):(flt ps++List.range' r (e-r)).Perm (List.range' s (e-s)):=by
 have h1:=i.ch.le
 have h2:=i.re
 refine (i.ch.pm.append (.refl _)).trans ?_
 rw [show e-s=(r-s)+(e-r) by omega,<- List.range'_append,show s+1 * (r-s)=r by omega]
section
variable {P:Program} {w:World} {K:W.Frag} {mg:Str->Option Value} {base:Heap} {C_Join C_Pile C_Asker C_AskedRule:Addr} {cc_teller Pt_teller:Addr}
theorem ok_teller {f:Addr} {fd:FuncData} (F:Fun K "_law_teller" "_law_teller" ZBd f fd) (hcd:fd.code=.ref cc_teller) (C:PySem.W.CodeHd base cc_teller Pt_teller) (B:ZC3 mg base):FnOk P w K mg base CX0 1 f fd ["_law_bits","_law_way","_law_written"] (ZDH Pt_teller (ZDk ZAN) "_law_ask" "_law_teller.<locals>._law_ask" (ZAL ZAN) (ZAK ZAN) (ZAC ZAN) ["_law_way","_law_bits","_law_written"] [1,0,2] 3) :=
 teller_ok F sc_teller hcd C B rfl (fun _ _=>rfl) rfl rfl (fun _ _=>rfl) rfl (by decide) (by decide) (by decide +kernel) (by decide +kernel) (by decide +kernel) (hix_of rfl) rfl
theorem clo_teller (T:Bt K mg C_Join C_Pile C_Asker C_AskedRule):CloOk P w K mg base 1 (ZA7):=by
 refine clo_of (k:=0) (iname:="_law_ask") (iq:="_law_teller.<locals>._law_ask") (ip:=ZAL ZAN) (ib:=ZAK ZAN) (isc:=ZAC ZAN) csc_teller (fun f vs H Q h=>?_) (fun f vs H Q h=>?_) (fun cl doc pm ctv c' us hl=>match us,hl with | [_,_],_=>rfl) (fun g cs cl cd A outer s H vs Q hr C h=>?_)
 .obtain ⟨g,lg,bl,way,i,j,bs,ob,ws,rfl,rfl,hclo,hbl,hbs,hbz,hi,hj,hlg,hws,q⟩:=h
  exact ⟨_,_,rfl,hclo⟩
 .obtain ⟨g,lg,bl,way,i,j,bs,ob,ws,rfl,rfl,hclo,hbl,hbs,hbz,hi,hj,hlg,hws,q⟩:=h
  rfl
 obtain ⟨g,lg,bl,way,i,j,bs,ob,ws,eg,rfl,hclo,hbl,hbs,hbz,hi,hj,hlg,hws,q⟩:=h
 cases eg
 obtain ⟨cl2,C2⟩:=hclo
 obtain rfl:=C.inj' C2
 refine ⟨_,(ZAB (ZAu (ZCI PySem.F.plainAttrs_list PySem.F.slot_list_append PySem.F.type_list_append ZBc (pv 4) (ZAA (ZBu (ZAA (pv 0) (ZAA (pv 1) ZAE))) ZAE)))
  (ZAB (ZBU (ZAS ZCT (pv 2) ZAG (ZAV _))
  (ZAI (ZAX (ZAc ZAe (pv 3) (ZAQ ZCS (ZAT ZAO rfl T.b_len PySem.boot_len (ZAA (pv 4) ZAE)) (ZAT ZAO rfl T.b_len PySem.boot_len (ZAA (pv 3) ZAE))) (fun _ _=>rfl)))) ZAx)
  (ZAI (ZAX (ZAc ZAe (pv 3) (ZAQ ZCS (ZAQ ZAq (ZAQ ZBb ZAG (pv 0)) (ZAQ ZBb ZAG (pv 1))) (ZAT ZAO rfl T.b_len PySem.boot_len (ZAA (pv 3) ZAE))) (fun _ _=>rfl)))))),?_⟩
 walk_at "rd"
 have cells:=C.cells
 have hlg':hid cl H lg=some (.lst ws):=ZBq cells hlg (by intro ob z;cases z)
 have hbl':hid cl H bl=some (.frz ob (.lst (bs.map V.bl))):=ZBq cells hbl (by intro ob z;cases z)
 have hb0:0 < bs.length:=List.length_pos_iff.mpr hbs
 refine ⟨.inl ⟨rfl,_,SqL.of hlg'⟩,ZAd (by decide),fun t ht=>?_⟩
 have ntl:t≠lg:=fun z=>by rw [z,hlg'] at ht;cases ht
 refine ⟨lg,ws,_,rfl,rfl,ZAR ht _ _ _ hlg',smallL (by omega),?_⟩
 have hbl2:upd (upd (hid cl H) t (.tup [.int i,.int j])) lg (.lst (ws++[.ref t])) bl=some (.frz ob (.lst (bs.map V.bl))):=by
  rw [ZAF (fun z=>by rw [z,hlg'] at hbl';cases hbl'),ZAF (ZAD hbl' ht)];exact hbl'
 have hl0:(0:Int) < bs.length:=by omega
 have fin:∀ b:Bool,NoC cl (upd (upd (hid cl H) t (.tup [.int i,.int j])) lg (.lst (ws++[.ref t])))->Q (.bl b) (back cl H (upd (upd (hid cl H) t (.tup [.int i,.int j])) lg (.lst (ws++[.ref t])))):=fun b hn=>by
  have nt:=hn.ne (b:=t) (by rw [ZAF ntl,ZAH])
  have nl:=hn.ne (b:=lg) ZAH
  rw [back_upd nl,back_upd nt,back_hid]
  exact q t b (hid_none cells ht nt)
 have look:∀ (z:Int) {Q':VK},(∀ b,Q' (.bl b) (upd (upd (hid cl H) t (.tup [.int i,.int j])) lg (.lst (ws++[.ref t]))))->rIxL K (.ref bl) (.int (z % (bs.length:Int))) (upd (upd (hid cl H) t (.tup [.int i,.int j])) lg (.lst (ws++[.ref t]))) Q':=fun z Q' h=>by
  have m0:=Int.emod_nonneg z (show (bs.length:Int)≠0 by omega)
  have m1:=Int.emod_lt_of_pos z hl0
  have hlt:(z % (bs.length:Int)).toNat < bs.length:=by omega
  exact ZA2 (.inl (.inr ⟨_,hbl2⟩)) (ZAh (v:=.bl bs[(z % (bs.length:Int)).toNat]) (by omega) (by rw [yAQ,yAR hlt];rfl)) (h _)
 walk_at "rd"
 by_cases hw:way=0
 .rw [if_pos hw]
  refine ⟨lg,_,rfl,.inl (SqL.of ZAH),bl,_,rfl,.inl (.inl (.inr ⟨_,hbl2⟩)),?_⟩
  rw [yAD]
  exact ⟨hl0,look _ fin⟩
 .rw [if_neg hw]
  refine ⟨.inl ⟨by omega,by omega⟩,.inl ⟨by omega,by omega⟩,bl,_,rfl,.inl (.inl (.inr ⟨_,hbl2⟩)),?_⟩
  rw [yAD]
  exact ⟨hl0,look _ fin⟩
theorem ok_Asker_init {f:Addr} {fd:FuncData} {dv:List Value} (F:FunD K "__init__" "Asker.__init__" ZBB f fd dv) (T:Bt K mg C_Join C_Pile C_Asker C_AskedRule)
 :FnOk P w K mg base CX0 1 f fd ["self","row","rule","most"] (ZBx C_Asker):=by
 refine F.ok sc_Asker_init (fun vs H Q E h=>?_) (fun cdv A outer s H vs Q E hr h=>?_)
 .obtain ⟨x,dx,r,ru,m,xs,rfl,hx,hr',q⟩:=h
  rfl
 obtain ⟨x,dx,r,ru,m,xs,rfl,hx,hr',q⟩:=h
 refine ⟨_,(ZAB (ZBC (pv 0) (ZAn ZBT rfl T.b_list PyProof.Rows.boot_list (ZAA (pv 1) ZAE)) rfl)
  (ZAB (ZBC (pv 0) (pv 2) rfl)
  (ZAB (ZBC (pv 0) (pv 3) rfl)
  (ZAB (ZBC (pv 0) ZAG rfl)
  (ZAI (ZBC (pv 0) (ZBa ZAE) rfl)))))),?_⟩
 walk_at "rd"
 refine ⟨r,xs,rfl,.inl (SqL.of hr'),fun rl hrl=>?_⟩
 have hxr:x≠rl:=ZAD hx hrl
 obtain ⟨H1,e1,s1,h1⟩:=newH hrl (.lst xs)
 rw [e1];clear e1
 refine setX (s1 _ _ hx) T.cl_Asker T.n_Asker_row (by decide) fun H2 x2 k2=>?_
 walk_at "rd"
 refine setX x2 T.cl_Asker T.n_Asker_rule ZDp fun H3 x3 k3=>?_
 walk_at "rd"
 refine setX x3 T.cl_Asker T.n_Asker_most ZDo fun H4 x4 k4=>?_
 walk_at "rd"
 refine setX x4 T.cl_Asker T.n_Asker_asked ZDn fun H5 x5 k5=>?_
 walk_at "rd"
 refine ⟨ZAd (by decide),fun tl htl=>?_⟩
 obtain ⟨H6,e6,s6,h6⟩:=newH htl (.lst [])
 rw [e6];clear e6
 have hxt:x≠tl:=ZAD x5 htl
 refine setX (s6 _ _ x5) T.cl_Asker T.n_Asker_told ZD2 fun H7 x7 k7=>?_
 have up:∀ b o,b≠x->H b=some o->H5 b=some o:=fun b o n e=>by rw [k5 b n,k4 b n,k3 b n,k2 b n];exact s1 b o e
 have h5:H5 rl=some (.lst xs):=by rw [k5 rl (Ne.symm hxr),k4 rl (Ne.symm hxr),k3 rl (Ne.symm hxr),k2 rl (Ne.symm hxr)];exact h1
 refine q rl tl H7 (fun b o n e=>by rw [k7 b n];exact s6 _ _ (up b o n e)) hrl ?_ (ZAD h5 htl) ((Ins.of x7 (yAI putL5 (by decide))).congr fA_canon) (by rw [k7 rl (Ne.symm hxr)];exact s6 _ _ h5) (by rw [k7 tl (Ne.symm hxt)];exact h6)
 cases e:H tl with
 | none=>rfl
 | some o=>rw [up tl o (Ne.symm hxt) e] at htl;cases htl
theorem ok_Asker_many {f:Addr} {fd:FuncData} (F:Fun K "many" "Asker.many" ZBA f fd) (T:Bt K mg C_Join C_Pile C_Asker C_AskedRule)
 :FnOk P w K mg base CX0 1 f fd ["self"] (ZC0 C_Asker):=by
 refine F.ok sc_Asker_many (fun vs H Q E h=>?_) (fun cdv A outer s H vs Q E hr h=>?_)
 .obtain ⟨a,rl,ru,tl,m,n,xs,rfl,ha,hrl,q⟩:=h
  rfl
 obtain ⟨a,rl,ru,tl,m,n,xs,rfl,ha,hrl,q⟩:=h
 refine ⟨_,(ZAI (ZAX (ZAT ZAO rfl T.b_len PySem.boot_len (ZAA (ZAM (pv 0) rfl) ZAE)))),?_⟩
 walk_at "rd"
 refine ha.get T.cl_Asker T.n_Asker_row (by walk_at "lk") ⟨rl,xs,rfl,.inl (SqL.of hrl),q⟩
theorem ok_AskedRule_init {f:Addr} {fd:FuncData} (F:Fun K "__init__" "AskedRule.__init__" ZAm f fd) (T:Bt K mg C_Join C_Pile C_Asker C_AskedRule)
 :FnOk P w K mg base CX0 1 f fd ["self","teller"] (ZCE C_AskedRule):=by
 refine F.ok sc_AskedRule_init (fun vs H Q E h=>?_) (fun cdv A outer s H vs Q E hr h=>?_)
 .obtain ⟨x,dx,g,rfl,hx,q⟩:=h
  rfl
 obtain ⟨x,dx,g,rfl,hx,q⟩:=h
 refine ⟨_,(ZAI (ZBC (pv 0) (pv 1) rfl)),?_⟩
 walk_at "rd"
 refine setX hx T.cl_AskedRule T.n_AskedRule_teller (by decide) fun H2 x2 k2=>?_
 exact q H2 (fun b o n e=>by rw [k2 b n];exact e) ((Ins.of x2 (yAI ZDp (by decide))).congr fun f=>by simp only [ZAZ,lkc])
theorem ok_AskedRule_before {f:Addr} {fd:FuncData} (F:Fun K "before" "AskedRule.before" ZAb f fd) (T:Bt K mg C_Join C_Pile C_Asker C_AskedRule)
  (clo_teller:CloOk P w K mg base 1 (ZA7))
 :FnOk P w K mg base CX0 2 f fd ["self","x","y"] (ZCL C_AskedRule ZA7):=by
 refine F.ok sc_AskedRule_before (fun vs H Q E h=>?_) (fun cdv A outer s H vs Q E hr h=>?_)
 .obtain ⟨ru,g,x,y,rfl,hru,⟨o,ho,hfd⟩,q⟩:=h
  rfl
 obtain ⟨ru,g,x,y,rfl,hru,⟨o,ho,hfd⟩,q⟩:=h
 refine ⟨_,(ZAB (ZAJ (i:=3) sc_AskedRule_before.nd rfl (by walk_at "o") (ZAM (pv 0) rfl))
  (ZAI (ZAX (pe_callV (clo_teller.at (hr.mono (by decide))) (pv 3) (ZAA (pv 1) (ZAA (pv 2) ZAE)))))),?_⟩
 walk_at "rd"
 refine hru.get T.cl_AskedRule T.n_AskedRule_teller (by walk_at "lk") ⟨⟨g,o,rfl,ho,hfd⟩,?_⟩
 exact q
theorem ok_Asker_ahead {f:Addr} {fd:FuncData} (F:Fun K "ahead" "Asker.ahead" ZA3 f fd) (T:Bt K mg C_Join C_Pile C_Asker C_AskedRule)
  (t_AskedRule_before:Mt P w K mg base CX0 C_AskedRule "before" 2 ["self","x","y"] (ZCL C_AskedRule ZA7))
 :FnOk P w K mg base CX0 3 f fd ["self","p","q"] (ZBy C_Asker C_AskedRule ZA7):=by
 refine F.ok sc_Asker_ahead (fun vs H Q E h=>?_) (fun cdv A outer s H vs Q E hr h=>?_)
 .obtain ⟨a,rl,ru,tl,n,p,q,xs,ts,x,y,rfl,ha,hrl,hpq,hp0,hq0,hx,hy,hb⟩:=h
  rfl
 obtain ⟨a,rl,ru,tl,n,p,q,xs,ts,x,y,rfl,ha,hrl,hpq,hp0,hq0,hx,hy,hb⟩:=h
 refine ⟨_,(ZAB (ZBU (PW.pt (ZDI (ZAS op_notN (ZAM (pv 0) rfl) ZCR (ZAV _)) (ZCq (ZAS op_ge (ZAM (pv 0) rfl) (ZAM (pv 0) rfl) (ZAV _)))))
  (ZAI (ps_never)) ZAx)
  (ZAW
  (ZAB (ZAJ (i:=3) sc_Asker_ahead.nd rfl (by walk_at "o") (ZAT (call_max2 rfl) rfl T.b_max PyProof.Rows.boot_max (ZAA (pv 1) (ZAA (pv 2) ZAE))))
  (ZAB (ZAJ (i:=4) sc_Asker_ahead.nd rfl (by walk_at "o") (ZAT (ZCA rfl) rfl T.b_min PyProof.Rows.boot_min (ZAA (pv 1) (ZAA (pv 2) ZAE))))
  (ZAB (ZAJ (i:=5) sc_Asker_ahead.nd rfl (by walk_at "o") (ZBI t_AskedRule_before (hr.mono (by decide)) ZAa (ZAM (pv 0) rfl) (ZAA (ZAc ZAe (ZAM (pv 0) rfl) (pv 3) (fun _ _=>rfl)) (ZAA (ZAc ZAe (ZAM (pv 0) rfl) (pv 4) (fun _ _=>rfl)) ZAE))))
  (ZAW
  (ZAB (ps_fldaug (pv 0) ZAG in_add)
  (ZAB (ZAu (ZCI PySem.F.plainAttrs_list PySem.F.slot_list_append PySem.F.type_list_append ZBc (ZAM (pv 0) rfl) (ZAA (ZBu (ZAA (pv 3) (ZAA (pv 4) (ZAA (pv 5) ZAE)))) ZAE)))
  (ZAI (ZAX (ZBJ (ZAS ZCT (pv 1) (pv 3) (ZAV _)) (pv 5) (pe_not (pv 5))))))))))))),?_⟩
 walk_at "rd"
 obtain ⟨ru',g,x',y',e,hru,ho,hrT⟩:=hb
 cases e
 refine ha.get T.cl_Asker T.n_Asker_most (by walk_at "lk") ?_
 rw [if_neg (by simp)]
 refine ZAj ?_
 walk_at "rd"
 refine ⟨p,q,rfl,p,q,rfl,ha.get T.cl_Asker T.n_Asker_rule (by walk_at "lk") (hru.meth (by walk_at "lk") ?_)⟩
 rw [mx_eq,ZDi]
 refine ha.get T.cl_Asker T.n_Asker_row (by walk_at "lk") (ZA2 (SqL.of hrl) (ZAh (by omega) hx) ?_)
 refine ha.get T.cl_Asker T.n_Asker_row (by walk_at "lk") (ZA2 (SqL.of hrl) (ZAh (by omega) hy) ?_)
 refine ⟨ru,g,x,y,rfl,hru,ho,rT_mono (fun v H1 h=>?_) hrT⟩
 obtain ⟨b,rfl,ha1,htl1,hts,hq⟩:=h
 have nta:tl≠a:=ha1.ne htl1 fun _ _ _ z=>by cases z
 refine ZAj ?_
 walk_at "rd"
 refine ha1.aug T.cl_Asker T.n_Asker_asked (by walk_at "lk") fun H2 ha2 k2=>?_
 have ha2':=ha2.congr fA_asked
 have htl2:H2 tl=some (.lst ts):=by rw [k2 tl nta];exact htl1
 walk_at "rd"
 refine ha2'.get T.cl_Asker T.n_Asker_told (by walk_at "lk") ?_
 walk_at "rd"
 refine ⟨.inl ⟨rfl,_,SqL.of htl2⟩,ZAd (by decide),fun t ht=>?_⟩
 have ntt:t≠tl:=fun z=>by rw [z,htl2] at ht;cases ht
 have nat':t≠a:=ha2'.neN ht
 refine ⟨tl,ts,_,rfl,rfl,ZAR ht _ _ _ htl2,smallL (by omega),?_⟩
 have fin:=hq t (upd (upd H2 t (.tup [.int (max p q),.int (min p q),.bl b])) tl (.lst (ts++[.ref t]))) (by rw [<- k2 t nat'];exact ht) (ha2'.keep (by rw [ZAF (Ne.symm nta),ZAF (Ne.symm nat')])) ZAH (by rw [ZAF ntt,ZAH]) (fun c h1 h2 h3=>by rw [ZAF h2,ZAF h3,k2 c h1])
 by_cases hlt:q < p
 .rw [if_pos hlt] at fin
  show (if _ then _ else _)
  rw [if_pos (by omega)]
  exact fin
 .rw [if_neg hlt] at fin
  show (if _ then _ else _)
  rw [if_neg (by omega)]
  exact fin
theorem ok_stretch_from {f:Addr} {fd:FuncData} {dv:List Value} (F:FunD K "stretch_from" "stretch_from" ZAz f fd dv) (T:Bt K mg C_Join C_Pile C_Asker C_AskedRule)
  (t_Asker_ahead:Mt P w K mg base CX0 C_Asker "ahead" 3 ["self","p","q"] (ZBy C_Asker C_AskedRule ZA7))
  (t_Asker_many:Mt P w K mg base CX0 C_Asker "many" 1 ["self"] (ZC0 C_Asker))
 :FnOk P w K mg base CX0 4 f fd ["asker","first","end"] (ZCC C_Asker C_AskedRule):=by
 refine F.ok sc_stretch_from (fun vs H Q E h=>?_) (fun cdv A outer s H vs Q E hr h=>?_)
 .obtain ⟨ks,xs,a,rl,ru,tl,g,lg,pr,first,stop,e,rfl,st,he,hf,hstop,hk,hpr,q⟩:=h
  rfl
 obtain ⟨ks,xs,a,rl,ru,tl,g,lg,pr,first,stop,e,rfl,st,he,hf,hstop,hk,hpr,q⟩:=h
 refine ⟨_,(ZAB (ZAJ (i:=3) sc_stretch_from.nd rfl (by walk_at "o") (ZBJ (ZAS ZDM (pv 2) ZCR (ZAV _)) (ZBj t_Asker_many (hr.mono (by decide)) ZAa (pv 0)) (pv 2)))
  (ZAW
  (ZAB (ZAJ (i:=4) sc_stretch_from.nd rfl (by walk_at "o") (ZAQ ZAq (pv 1) ZAG))
  (ZAB (ZBU (ZAS op_ge (pv 4) (pv 3) (ZAV _))
  (ZAI (ZAX (ZBu (ZAA (pv 4) (ZAA ZDV ZAE))))) ZAx)
  (ZAB (ZAJ (i:=5) sc_stretch_from.nd rfl (by walk_at "o") (ZBI t_Asker_ahead (hr.mono (by decide)) ZAa (pv 0) (ZAA (pv 4) (ZAA (pv 1) ZAE))))
  (ZAB (ZDK (i:=4) sc_stretch_from.nd rfl (by walk_at "o") ZAG ZDP)
  (ZAB (ZBQ PassesOwn.never (PW.pt (ZDI (ZAS ZCZ (pv 4) (pv 3) (ZAV _)) (ZCq (ZAS ZCT (ZBI t_Asker_ahead (hr.mono (by decide)) ZAa (pv 0) (ZAA (pv 4) (ZAA (ZAQ ZA6 (pv 4) ZAG) ZAE))) (pv 5) (ZAV _)))))
  (ZAI (ZDK (i:=4) sc_stretch_from.nd rfl (by walk_at "o") ZAG ZDP)))
  (ZAI (ZAX (ZBu (ZAA (pv 4) (ZAA (pv 5) ZAE)))))))))))),?_⟩
 walk_at "rd"
 apply once0
 .intro tailp
  rcases he with ⟨he1,es⟩ | he2
  .rw [if_pos he1]
   refine st.ha.meth (by walk_at "lk") ⟨a,rl,ru,tl,.non,_,xs,rfl,st.ha,st.hrl,?_⟩
   walk_at "rd"
   rw [st.len,<- es]
   exact tailp
  .subst he2
   rw [if_neg (by simp)]
   walk_at "rd"
   exact tailp
 refine ZAj ?_
 walk_at "rd"
 by_cases h1:first+1=stop
 .rw [if_pos (by omega)]
  refine ⟨ZAd (by decide),fun t ht=>q _ t (first+1) false (ZAR ht _).fr ZAH (by unfold Beyond;omega) ?_⟩
  rw [show asks first (min (first+1+1) stop)=[] from asks_none (by omega),yBF]
  exact st.mono (ZAR ht _)
 rw [if_neg (by omega)]
 refine st.ha.meth (by walk_at "lk") ?_
 rw [show ((first:Int)+1)=((first+1:Nat):Int) by omega]
 refine st.ahead (p:=first+1) (q:=first) (by omega) (by omega) (by omega) (by omega) (by omega) fun bb H1 f1 s1=>?_
 rw [if_pos (by omega)]
 refine ZBO (fun m σ H'=>∃ (k:Nat) (v2:Option V),m=stop-k /\ σ=[some (.ref a),some (.int first),v2,some (.int stop),some (.int k),some (.bl bb)] /\ first+1 < k /\ k <= stop /\ Fr [a,lg,tl] H H' /\ SitL C_Asker C_AskedRule H' ks xs a rl ru tl g lg (pr++asks first k)) ⟨_,first+2,_,rfl,rfl,by omega,by omega,f1,?_⟩ ?_
 .rw [show asks first (first+2)=[(first+1,first)] by rw [show first+2=(first+1)+1 from rfl,asks_snoc (yAA _),asks_none (yAA _)];rfl]
  rw [show max (first+1) first=first+1 by omega,show min (first+1) first=first by omega] at s1
  exact s1
 rintro m σ H' ⟨k,v2,rfl,rfl,hk1,hk2,fr,s⟩
 walk_at "rd"
 have hlen:(pr++asks first k).length <= 80000:=by rw [yAB,ZCO];omega
 by_cases hks:k < stop
 .rw [if_pos (by omega)]
  refine s.ha.meth (by walk_at "lk") ?_
  rw [show ((k:Int)-1)=((k-1:Nat):Int) by omega]
  refine s.ahead (p:=k) (q:=k-1) (by omega) (by omega) (by omega) (by omega) hlen fun b2 H2 f2 s2=>?_
  rw [if_pos (by omega)]
  rw [show max k (k-1)=k by omega,show min k (k-1)=k-1 by omega,yAL,<- asks_snoc (by omega)] at s2
  walk_at "rd"
  by_cases hd:b2=bb
  .rw [if_pos hd]
   refine ZBP ?_
   walk_at "rd"
   exact ⟨stop-(k+1),by omega,k+1,_,rfl,by rw [show ((k:Int)+1)=((k+1:Nat):Int) by omega],by omega,by omega,fr.trans f2,s2⟩
  .rw [if_neg hd]
   refine ⟨ZAd (by decide),fun t ht=>q _ t k _ (fr.trans (f2.trans (ZAR ht _).fr)) ZAH (by unfold Beyond;omega) ?_⟩
   rw [show min (k+1) stop=k+1 by omega]
   exact s2.mono (ZAR ht _)
 .rw [if_neg (by omega)]
  walk_at "rd"
  refine ⟨ZAd (by decide),fun t ht=>q _ t k _ (fr.trans (ZAR ht _).fr) ZAH (by unfold Beyond;omega) ?_⟩
  rw [show min (k+1) stop=k by omega]
  exact s.mono (ZAR ht _)
theorem ok_in_turn {f:Addr} {fd:FuncData} (F:Fun K "in_turn" "in_turn" ZBY f fd) (T:Bt K mg C_Join C_Pile C_Asker C_AskedRule)
 :FnOk P w K mg base CX0 1 f fd ["first","beyond","falling"] (ZCm):=by
 refine F.ok sc_in_turn (fun vs H Q E h=>?_) (fun cdv A outer s H vs Q E hr h=>?_)
 .obtain ⟨first,j,f,rfl,hf,hj,q⟩:=h
  rfl
 obtain ⟨first,j,f,rfl,hf,hj,q⟩:=h
 refine ⟨_,(ZAB (ZAJ (i:=3) sc_in_turn.nd rfl (by walk_at "o") (ZAn (ZBD rfl) rfl T.b_list PyProof.Rows.boot_list (ZAA (ZAn call_rng2 rfl T.b_range PyProof.Rows.boot_range (ZAA (pv 0) (ZAA (pv 1) ZAE))) ZAE)))
  (ZAB (ZBU (ZB7 (pv 2))
  (ZAI (ZAu (pe_bm0 PySem.F.plainAttrs_list PySem.F.slot_list_reverse PySem.F.type_list_reverse mt_reverse (pv 3)))) ZAx)
  (ZAI (ZAX (pv 3))))),?_⟩
 walk_at "rd"
 refine ⟨first,j,rfl,fun p hp=>⟨p,first,j,rfl,ZAH,by omega,fun l hl=>?_⟩⟩
 have S:Same H (upd (upd H p (.rng first j)) l (.lst ((ZBz (first:Int) (j:Int)).map V.int))):=((Same.refl H).new hp).new hl
 have hn:H l=none:=((Same.refl H).new hp).free hl
 rw [ZB6] at S ⊢
 cases f with
 | true=>
  rw [if_pos rfl]
  refine ⟨.inl ⟨rfl,_,SqL.of ZAH⟩,l,_,rfl,rfl,ZAH,?_⟩
  rw [upd_upd]
  refine q l _ (((Same.refl H).new hp).new hl) hn ?_
  rw [ZAH]
  unfold ZCY nL
  rw [if_pos rfl,List.map_reverse]
 | false=>
  rw [if_neg (by decide)]
  refine q l _ S hn ?_
  rw [ZAH]
  rfl
theorem ok_spot_of {f:Addr} {fd:FuncData} (F:Fun K "spot_of" "spot_of" ZBX f fd) (T:Bt K mg C_Join C_Pile C_Asker C_AskedRule)
  (t_Asker_ahead:Mt P w K mg base CX0 C_Asker "ahead" 3 ["self","p","q"] (ZBy C_Asker C_AskedRule ZA7))
 :FnOk P w K mg base CX0 4 f fd ["asker","order","place"] (ZCh C_Asker C_AskedRule):=by
 refine F.ok sc_spot_of (fun vs H Q E h=>?_) (fun cdv A outer s H vs Q E hr h=>?_)
 .obtain ⟨ks,xs,a,rl,ru,tl,g,lg,ol,pr,os,pl,rfl,st,hol,nol,hos,hlt',hpl,hk1000,hpr,q⟩:=h
  rfl
 obtain ⟨ks,xs,a,rl,ru,tl,g,lg,ol,pr,os,pl,rfl,st,hol,nol,hos,hlt',hpl,hk1000,hpr,q⟩:=h
 refine ⟨_,(ZAB (ZAJ (i:=3) sc_spot_of.nd rfl (by walk_at "o") ZAG)
  (ZAB (ZAJ (i:=4) sc_spot_of.nd rfl (by walk_at "o") (ZAT ZAO rfl T.b_len PySem.boot_len (ZAA (pv 1) ZAE)))
  (ZAB (ZBQ PassesOwn.never (ZAS ZCZ (pv 3) (pv 4) (ZAV _))
  (ZAB (ZAJ (i:=5) sc_spot_of.nd rfl (by walk_at "o") (ZAQ ZCH (ZAQ ZAq (pv 3) (pv 4)) ZAG))
  (ZAI (ZBU (ZB7 (ZBI t_Asker_ahead (hr.mono (by decide)) ZAa (pv 0) (ZAA (ZAc ZAe (pv 1) (pv 5) (fun _ _=>rfl)) (ZAA (pv 2) ZAE))))
  (ZAI (ZAJ (i:=3) sc_spot_of.nd rfl (by walk_at "o") (ZAQ ZAq (pv 5) ZAG)))
  (ZAI (ZAJ (i:=4) sc_spot_of.nd rfl (by walk_at "o") (pv 5)))))))
  (ZAI (ZAX (pv 3)))))),?_⟩
 walk_at "rd"
 refine ⟨ol,_,rfl,.inl (SqL.of hol),?_⟩
 rw [yAD]
 refine ZBO (fun m σ H'=>∃ (low high:Nat) (v5:Option V) (dn:List (Nat×Nat)),m=high-low /\ σ=[some (.ref a),some (.ref ol),some (.int pl),some (.int low),some (.int high),v5] /\ low <= high /\ high <= os.length /\ dn.length+(high-low) <= os.length /\ Fr [a,lg,tl] H H' /\ SitL C_Asker C_AskedRule H' ks xs a rl ru tl g lg (pr++dn) /\ ∀ r l,Halv ks os pl low high r l->Halv ks os pl 0 os.length r (dn++l)) ⟨_,0,os.length,_,[],rfl,rfl,yAH _,yAA _,by simp,.refl,by rw [yBF];exact st,fun r l h=>h⟩ ?_
 rintro m σ H' ⟨low,high,v5,dn,rfl,rfl,hlh,hho,hdn,fr,s,hh⟩
 walk_at "rd"
 by_cases hlt:low < high
 .rw [if_pos (by omega)]
  refine ZBP ?_
  walk_at "rd"
  have hm:(low+high) / 2 < os.length:=by omega
  obtain ⟨o,ho⟩:∃ o,os[(low+high) / 2]?=some o:=⟨_,yAR hm⟩
  have hop:=hlt' o (yAO ho)
  have hem:((low:Int)+high) / 2=((low+high) / 2:Nat):=by omega
  refine ⟨⟨by decide,by decide⟩,?_⟩
  rw [hem]
  refine s.ha.meth (by walk_at "lk") ?_
  refine ZA2 (SqL.of (fr _ _ nol hol)) (ZCX ho) ?_
  refine s.ahead (p:=o) (q:=pl) (by omega) (by omega) hpl hk1000 (by rw [yAB];omega) fun bb H2 f2 s2=>?_
  rw [if_neg (by omega)]
  rw [show max o pl=pl by omega,show min o pl=o by omega,yAL] at s2
  refine ⟨_,rfl,?_⟩
  cases bb with
  | true=>
   rw [if_neg (by decide)]
   exact ⟨(low+high) / 2-low,by omega,low,(low+high) / 2,_,dn++[(pl,o)],rfl,rfl,by omega,by omega,by rw [yAB,yAN];omega,fr.trans f2,s2,fun r l h=>by rw [yAL];exact hh _ _ (.less hlt ho trivial h)⟩
  | false=>
   rw [if_pos (by decide)]
   exact ⟨high-((low+high) / 2+1),by omega,(low+high) / 2+1,high,_,dn++[(pl,o)],rfl,rfl,by omega,by omega,by rw [yAB,yAN];omega,fr.trans f2,s2,fun r l h=>by rw [yAL];exact hh _ _ (.more hlt ho trivial h)⟩
 .rw [if_neg (by omega)]
  walk_at "rd"
  have z:=hh low [] (.done hlt)
  rw [yBF] at z
  exact q H' low dn fr z s
theorem ok_filled {f:Addr} {fd:FuncData} {dv:List Value} (F:FunD K "filled" "filled" ZBo f fd dv) (T:Bt K mg C_Join C_Pile C_Asker C_AskedRule)
  (f_stretch_from:Fn P w K mg base CX0 "stretch_from" 4 ["asker","first","end"] (ZCC C_Asker C_AskedRule))
  (f_in_turn:Fn P w K mg base CX0 "in_turn" 1 ["first","beyond","falling"] (ZCm))
  (f_spot_of:Fn P w K mg base CX0 "spot_of" 4 ["asker","order","place"] (ZCh C_Asker C_AskedRule))
  (t_Asker_many:Mt P w K mg base CX0 C_Asker "many" 1 ["self"] (ZC0 C_Asker))
 :FnOk P w K mg base CX0 5 f fd ["asker","first","least","end"] (ZCo C_Asker C_AskedRule):=by
 refine F.ok sc_filled (fun vs H Q E h=>?_) (fun cdv A outer s H vs Q E hr h=>?_)
 .obtain ⟨ks,xs,a,rl,ru,tl,g,lg,pr,first,least,stop,e,rfl,st,hprl,he,hf,hstop,hk,hls,q⟩:=h
  rfl
 obtain ⟨ks,xs,a,rl,ru,tl,g,lg,pr,first,least,stop,e,rfl,st,hprl,he,hf,hstop,hk,hls,q⟩:=h
 refine ⟨_,(ZAB (ZAJ (i:=4) sc_filled.nd rfl (by walk_at "o") (ZBJ (ZAS ZDM (pv 3) ZCR (ZAV _)) (ZBj t_Asker_many (hr.mono (by decide)) ZAa (pv 0)) (pv 3)))
  (ZAW
  (ZAB (ZAJ (i:=5) sc_filled.nd rfl (by walk_at "o") (ZB8 f_stretch_from (hr.mono (by decide)) rfl ZAa (ZAA (pv 0) (ZAA (pv 1) (ZAA (pv 4) ZAE)))))
  (ZAB (ZAJ (i:=6) sc_filled.nd rfl (by walk_at "o") (ZAc ZAw (pv 5) ZAG (fun _ _=>rfl)))
  (ZAB (ZAJ (i:=7) sc_filled.nd rfl (by walk_at "o") (ZB8 f_in_turn (hr.mono (by decide)) rfl ZAa (ZAA (pv 1) (ZAA (pv 6) (ZAA (ZAc ZAw (pv 5) ZAG (fun _ _=>rfl)) ZAE)))))
  (ZAW
  (ZAB (ZDJ PassesOwn.never rfl (pi_range2 rfl T.b_range (ZAA (pv 6) (ZAA (ZAT (ZCA rfl) rfl T.b_min PyProof.Rows.boot_min (ZAA (ZAQ ZAq (pv 1) (pv 2)) (ZAA (pv 4) ZAE))) ZAE))) (ZBe (i:=8) sc_filled.nd rfl (by walk_at "o"))
  (ZAI (ZAu (ZCI PySem.F.plainAttrs_list PySem.F.slot_list_insert PySem.F.type_list_insert mt_insert (pv 7) (ZAA (ZB8 f_spot_of (hr.mono (by decide)) rfl ZAa (ZAA (pv 0) (ZAA (pv 7) (ZAA (pv 8) ZAE)))) (ZAA (pv 8) ZAE))))))
  (ZAI (ZAX (ZBu (ZAA (pv 6) (ZAA (pv 7) ZAE)))))))))))),?_⟩
 walk_at "rd"
 apply once0
 .intro tailp
  rcases he with ⟨he1,es⟩ | he2
  .rw [if_pos he1]
   refine st.ha.meth (by walk_at "lk") ⟨a,rl,ru,tl,.non,_,xs,rfl,st.ha,st.hrl,?_⟩
   walk_at "rd"
   rw [st.len,<- es]
   exact tailp
  .subst he2
   rw [if_neg (by simp)]
   walk_at "rd"
   exact tailp
 refine ZAj ?_
 walk_at "rd"
 refine ⟨ks,xs,a,rl,ru,tl,g,lg,pr,first,stop,.int stop,rfl,st,.inr rfl,hf,hstop,hk,by omega,fun H1 t j f fr1 ht hb st1=>?_⟩
 have hj:first+1 <= j /\ j <= stop:=hb
 refine ZAv (SqT.of ht) (ZAh (by decide) rfl) ?_
 refine ZAv (SqT.of ht) (ZAh (by decide) rfl) ⟨first,j,f,rfl,by omega,by omega,fun ol H2 s2 hnol hol=>?_⟩
 have st2:=st1.mono s2
 have nol:ol∉[a,lg,tl]:=by
  obtain ⟨ws,hlg,_⟩:=st1.hlg
  obtain ⟨ts,htl,_⟩:=st1.htl
  intro z
  rcases yAF.mp z with z | z
  .exact st1.ha.neN hnol z
  rcases yAF.mp z with z | z
  .rw [z,hlg] at hnol;cases hnol
  .rw [yAS.mp z,htl] at hnol;cases hnol
 have nrl:rl≠ol /\ lg≠ol /\ tl≠ol:=by
  refine ⟨ZAD st1.hrl hnol,fun z=>nol (by rw [<- z];exact yAC _ yAE),fun z=>nol (by rw [<- z];exact yAC _ (yAC _ yAE))⟩
 have hnH:H ol=none:=by
  cases z:H ol with
  | none=>rfl
  | some o=>rw [fr1 _ _ nol z] at hnol;cases hnol
 refine ZAj ?_
 walk_at "rd"
 refine ⟨_,_,rfl,?_⟩
 rw [ZDi,show min ((first:Int)+least) stop=(min (first+least) stop:Nat) by omega]
 have o0:=hb.ord
 refine forR2_of (by omega) (forR_of (fun i σ H'=>∃ (v3 v8:Option V) (os:List Nat) (dn:List (Nat×Nat)),σ=[some (.ref a),some (.int first),some (.int least),v3,some (.int stop),some (.ref t),some (.int j),some (.ref ol),v8] /\ H' ol=some (.lst (nL os)) /\ OrdN ks first (j+i) os /\ dn.length <= i * 120 /\ Fr [a,lg,tl] H H' /\ H' t=some (.tup [.int (j:Nat),.bl f]) /\ SitL C_Asker C_AskedRule H' ks xs a rl ru tl g lg (pr++(asks first (min (j+1) stop)++dn)) /\ ∀ os' l,Put ks os (j+i) (min (first+least) stop) os' l->Put ks (ZCY first j f) j (min (first+least) stop) os' (dn++l)) ⟨_,_,ZCY first j f,[],rfl,hol,o0,by simp,fr1.trans s2.fr,s2 _ _ ht,by rw [yBF];exact st2,fun os' l h=>h⟩ ?_ ?_)
 .rintro i σ H' hi ⟨v3,v8,os,dn,rfl,hol',ho,hdn,fr,ht',st',hput⟩
  walk_at "rd"
  have hi':j+i < min (first+least) stop:=by omega
  have hlen:=ho.len
  rw [show ((j:Int)+i)=((j+i:Nat):Int) by omega]
  refine ⟨.inl ⟨rfl,_,SqL.of hol'⟩,ks,xs,a,rl,ru,tl,g,lg,ol,_,os,j+i,rfl,st',hol',nol,by omega,fun x hx=>((ho.mem x).mp hx).2,by omega,by omega,by rw [yAB,yAB,ZCO];omega,fun H3 r l fr3 hh st3=>?_⟩
  have hb2:=hh.bounds (yAH _)
  have hol3:=fr3 _ _ nol hol'
  refine ⟨ol,_,_,_,rfl,rfl,hol3,ZBW (by rw [yAD];omega),by omega,?_⟩
  rw [insV_nL hb2.2]
  have ll:=hh.len
  refine ⟨_,_,insN os r (j+i),dn++l,rfl,ZAH,by rw [show j+(i+1)=j+i+1 by omega];exact ho.ins (by omega) hh,by rw [yAB];omega,fun b o n h=>?_,?_,?_,fun os' l' hp=>?_⟩
  .rw [ZAF (ZAD h hnH)]
   exact fr3 _ _ n (fr _ _ n h)
  .have nt:t≠ol:=fun z=>by rw [z,hol'] at ht';cases ht'
   rw [ZAF nt]
   exact fr3 _ _ (st'.tupS ht' (fun _ z=>by cases z) (fun _ _ _ z=>by cases z)) ht'
  .rw [show pr++(asks first (min (j+1) stop)++(dn++l))=pr++(asks first (min (j+1) stop)++dn)++l by simp only [yAL]]
   exact st3.upd hol3 nrl
  .rw [yAL]
   exact hput _ _ (.cons hi' hh (by rw [show j+i+1=j+(i+1) by omega];exact hp))
 rintro σ H' ⟨v3,v8,os,dn,rfl,hol',ho,hdn,fr,ht',st',hput⟩
 walk_at "rd"
 refine ⟨ZAd (by decide),fun t2 ht2=>?_⟩
 have z:=hput os [] (.nil (by omega))
 rw [yBF] at z
 exact q _ t2 ol j f os dn (fr.trans (ZAR ht2 _).fr) hnH nol ZAH (ZAR ht2 _ _ _ hol') hb z (st'.mono (ZAR ht2 _))
theorem ok_leap {f:Addr} {fd:FuncData} (F:Fun K "leap" "leap" ZCd f fd) (T:Bt K mg C_Join C_Pile C_Asker C_AskedRule)
  (t_Asker_ahead:Mt P w K mg base CX0 C_Asker "ahead" 3 ["self","p","q"] (ZBy C_Asker C_AskedRule ZA7))
 :FnOk P w K mg base CX0 4 f fd ["asker","order","first","place"] (ZDc C_Asker C_AskedRule):=by
 refine F.ok sc_leap (fun vs H Q E h=>?_) (fun cdv A outer s H vs Q E hr h=>?_)
 .obtain ⟨ks,xs,a,rl,ru,tl,g,lg,ol,pr,os,f,pl,rfl,st,hol,nol,hos,hlt',hpl,hk1000,hpr,hfz,q⟩:=h
  rfl
 obtain ⟨ks,xs,a,rl,ru,tl,g,lg,ol,pr,os,f,pl,rfl,st,hol,nol,hos,hlt',hpl,hk1000,hpr,hfz,q⟩:=h
 refine ⟨_,(ZAB (ZAJ (i:=4) sc_leap.nd rfl (by walk_at "o") (ZAQ ZA6 (pv 2) ZAG))
  (ZAB (ZAJ (i:=5) sc_leap.nd rfl (by walk_at "o") (pv 2))
  (ZAB (ZAJ (i:=6) sc_leap.nd rfl (by walk_at "o") ZAG)
  (ZAB (ZBQ PassesOwn.never (PW.pt (ZDI (ZAS ZCZ (pv 5) (ZAT ZAO rfl T.b_len PySem.boot_len (ZAA (pv 1) ZAE)) (ZAV _)) (ZCq (ZB7 (ZBI t_Asker_ahead (hr.mono (by decide)) ZAa (pv 0) (ZAA (ZAc ZAe (pv 1) (pv 5) (fun _ _=>rfl)) (ZAA (pv 3) ZAE)))))))
  (ZAB (ZAJ (i:=4) sc_leap.nd rfl (by walk_at "o") (pv 5))
  (ZAB (ZDK (i:=5) sc_leap.nd rfl (by walk_at "o") (pv 6) ZDP)
  (ZAI (ZAJ (i:=6) sc_leap.nd rfl (by walk_at "o") (ZAQ ZBb (pv 6) ZAG))))))
  (ZAB (ZAJ (i:=5) sc_leap.nd rfl (by walk_at "o") (ZAT (ZCA rfl) rfl T.b_min PyProof.Rows.boot_min (ZAA (pv 5) (ZAA (ZAT ZAO rfl T.b_len PySem.boot_len (ZAA (pv 1) ZAE)) ZAE))))
  (ZAW
  (ZAB (ZBQ PassesOwn.never (ZAS ZDW (ZAQ ZA6 (pv 5) (pv 4)) ZAG (ZAV _))
  (ZAB (ZAJ (i:=7) sc_leap.nd rfl (by walk_at "o") (ZAQ ZCH (ZAQ ZAq (pv 4) (pv 5)) ZAG))
  (ZAI (ZBU (ZB7 (ZBI t_Asker_ahead (hr.mono (by decide)) ZAa (pv 0) (ZAA (ZAc ZAe (pv 1) (pv 7) (fun _ _=>rfl)) (ZAA (pv 3) ZAE))))
  (ZAI (ZAJ (i:=4) sc_leap.nd rfl (by walk_at "o") (pv 7)))
  (ZAI (ZAJ (i:=5) sc_leap.nd rfl (by walk_at "o") (pv 7)))))))
  (ZAI (ZAX (ZAQ ZA6 (pv 5) (pv 2))))))))))),?_⟩
 walk_at "rd"
 apply once4 (fun (lo hi:Nat) (_:Int) (H':Hp)=>f <= lo /\ lo <= hi /\ hi <= os.length /\ ∃ dn:List Nat,dn.length <= os.length+1 /\ Fr [a,lg,tl] H H' /\ SitL C_Asker C_AskedRule H' ks xs a rl ru tl g lg (pr++dn.map (ask1 os pl)) /\ ∀ z L,lo <= z->z <= hi->Bin z lo hi L->Gal z os.length f f f (dn++L))
 .intro tailp
  refine ZBO (fun m σ H'=>∃ (lo far:Nat) (dn:List Nat),m=os.length-lo /\ σ=[some (.ref a),some (.ref ol),some (.int f),some (.int pl),some (.int ((lo:Int)-1)),some (.int far),some (.int ((far:Int)-f+1)),none] /\ LIn1 C_Asker C_AskedRule ks xs a rl ru tl g lg pr os f pl H lo far dn H') ⟨_,f,f,[],rfl,by rw [show (f:Int)-f+1=1 by omega],yAA _,hfz,yAA _,by simp,.refl,by rw [List.map_nil,yBF];exact st,fun z L _ h=>h⟩ ?_
  rintro m σ H' ⟨lo,far,dn,rfl,rfl,h1,h2,h3,h4,fr,s,hg⟩
  walk_at "rd"
  have hol':=fr _ _ nol hol
  refine ⟨ol,_,rfl,.inl (SqL.of hol'),?_⟩
  rw [yAD]
  by_cases hf:far < os.length
  .rw [if_pos (by omega)]
   obtain ⟨o,ho⟩:∃ o,os[far]?=some o:=⟨_,yAR hf⟩
   have hop:=hlt' o (yAO ho)
   refine s.ha.meth (by walk_at "lk") ?_
   refine ZA2 (SqL.of hol') (ZCX ho) ?_
   refine s.ahead (p:=o) (q:=pl) hop.2 hop.1 hpl hk1000 (by rw [yAB,yAD];omega) fun bb H2 f2 s2=>?_
   generalize (if pl < o then bb else !bb)=bb
   have ea:[(max o pl,min o pl)]=[far].map (ask1 os pl):=by
    show _=[ask1 os pl far]
    unfold ask1
    rw [ho]
    rfl
   rw [yAL,ea,<- yAT] at s2
   refine ⟨_,rfl,?_⟩
   cases bb with
   | true=>
    rw [if_pos rfl]
    refine ZBP ?_
    walk_at "rd"
    exact ⟨.inr ⟨by decide,by decide⟩,os.length-(far+1),by omega,far+1,2 * far-f+1,dn++[far],rfl,by rw [show ((far+1:Nat):Int)-1=far by omega,show (far:Int)+(far-f+1)=((2 * far-f+1:Nat):Int) by omega,show (far:Int)-f+1=(far:Int)-f+1 from rfl,show ((far:Int)-f+1) * 2=((2 * far-f+1:Nat):Int)-f+1 by omega],by omega,by omega,by omega,by rw [yAB,yAN];omega,fr.trans f2,s2,fun z L hz h=>by rw [yAL];exact hg z _ (by omega) (.more hf (by omega) h)⟩
   | false=>
    rw [if_neg (by decide)]
    refine ⟨ol,_,rfl,.inl (SqL.of (f2 _ _ nol hol')),_,_,rfl,?_⟩
    rw [yAD,ZDi,show min (far:Int) os.length=(far:Nat) by omega]
    generalize (far:Int)-f+1=wd
    exact tailp lo far wd H2 ⟨h1,h3,by omega,dn++[far],by rw [yAB,yAN];omega,fr.trans f2,s2,fun z L hz hz2 h=>by rw [yAL];exact hg z _ hz (.stop hf hz2 h)⟩
  .rw [if_neg (by omega)]
   refine ⟨ol,_,rfl,.inl (SqL.of hol'),_,_,rfl,?_⟩
   rw [yAD,ZDi,show min (far:Int) os.length=(os.length:Nat) by omega]
   exact tailp lo os.length _ H' ⟨h1,h2,yAA _,dn,by omega,fr,s,fun z L hz _ h=>hg z _ hz (.out (by omega) h)⟩
 rintro lo hi wd H1 ⟨h1,h2,h4,dn,h5,fr1,st1,hg⟩
 refine ZAj ?_
 walk_at "rd"
 refine ZBO (fun m σ H'=>∃ (lo hi:Nat) (v7:Option V) (dn:List Nat),m=hi-lo /\ σ=[some (.ref a),some (.ref ol),some (.int f),some (.int pl),some (.int ((lo:Int)-1)),some (.int hi),some (.int wd),v7] /\ LIn2 C_Asker C_AskedRule ks xs a rl ru tl g lg pr os f pl H lo hi dn H') ⟨_,lo,hi,_,dn,rfl,rfl,h1,h2,h4,by omega,fr1,st1,hg⟩ ?_
 clear h1 h2 h4 h5 fr1 st1 hg
 rintro m σ H' ⟨lo,hi,v7,dn,rfl,rfl,h1,h2,h4,h5,fr,s,hg⟩
 walk_at "rd"
 by_cases hlt:lo < hi
 .rw [if_pos (by omega)]
  refine ZBP ?_
  walk_at "rd"
  refine ⟨⟨by decide,by decide⟩,?_⟩
  rw [show ((lo:Int)-1+hi) / 2=((lo+hi-1) / 2:Nat) by omega]
  have hm:(lo+hi-1) / 2 < os.length:=by omega
  obtain ⟨o,ho⟩:∃ o,os[(lo+hi-1) / 2]?=some o:=⟨_,yAR hm⟩
  have hop:=hlt' o (yAO ho)
  have hol':=fr _ _ nol hol
  refine s.ha.meth (by walk_at "lk") ?_
  refine ZA2 (SqL.of hol') (ZCX ho) ?_
  refine s.ahead (p:=o) (q:=pl) hop.2 hop.1 hpl hk1000 (by rw [yAB,yAD];omega) fun bb H2 f2 s2=>?_
  generalize (if pl < o then bb else !bb)=bb
  have ea:[(max o pl,min o pl)]=[(lo+hi-1) / 2].map (ask1 os pl):=by
   show _=[ask1 os pl ((lo+hi-1) / 2)]
   unfold ask1
   rw [ho]
   rfl
  rw [yAL,ea,<- yAT] at s2
  refine ⟨_,rfl,?_⟩
  cases bb with
  | true=>
   rw [if_pos rfl]
   exact ⟨hi-((lo+hi-1) / 2+1),by omega,(lo+hi-1) / 2+1,hi,_,dn++[(lo+hi-1) / 2],rfl,by rw [show (((lo+hi-1) / 2+1:Nat):Int)-1=((lo+hi-1) / 2:Nat) by omega],by omega,by omega,h4,by rw [yAB,yAN];omega,fr.trans f2,s2,fun z L hz hz2 h=>by rw [yAL];exact hg z _ (by omega) hz2 (.more hlt (by omega) h)⟩
  | false=>
   rw [if_neg (by decide)]
   exact ⟨(lo+hi-1) / 2-lo,by omega,lo,(lo+hi-1) / 2,_,dn++[(lo+hi-1) / 2],rfl,rfl,h1,by omega,by omega,by rw [yAB,yAN];omega,fr.trans f2,s2,fun z L hz hz2 h=>by rw [yAL];exact hg z _ hz (by omega) (.less hlt hz2 h)⟩
 .rw [if_neg (by omega)]
  walk_at "rd"
  have e:lo=hi:=by omega
  subst e
  have y:=hg lo [] (yAA _) (yAA _) .done
  rw [yBF] at y
  rw [show (lo:Int)-f=((lo-f:Nat):Int) by omega]
  exact q lo H' dn h1 h4 fr y s
theorem ok_Join_init {f:Addr} {fd:FuncData} (F:Fun K "__init__" "Join.__init__" ZBG f fd) (T:Bt K mg C_Join C_Pile C_Asker C_AskedRule)
 :FnOk P w K mg base CX0 1 f fd ["self","asker","left","right"] (ZC7 C_Join):=by
 refine F.ok sc_Join_init (fun vs H Q E h=>?_) (fun cdv A outer s H vs Q E hr h=>?_)
 .obtain ⟨x,dx,ak,al,ar,ls,rs,rfl,hx,hal,har,q⟩:=h
  rfl
 obtain ⟨x,dx,ak,al,ar,ls,rs,rfl,hx,hal,har,q⟩:=h
 refine ⟨_,(ZAB (ZBC (pv 0) (pv 1) rfl)
  (ZAB (ZBC (pv 0) (ZBu (ZAA (ZAn ZBT rfl T.b_list PyProof.Rows.boot_list (ZAA (pv 2) ZAE)) (ZAA (ZAn ZBT rfl T.b_list PyProof.Rows.boot_list (ZAA (pv 3) ZAE)) ZAE))) rfl)
  (ZAB (ZBC (pv 0) (ZBa (ZAA ZAG (ZAA ZAG ZAE))) rfl)
  (ZAI (ZBC (pv 0) (ZBa ZAE) rfl))))),?_⟩
 walk_at "rd"
 have nal:al≠x:=fun z=>by rw [z,hx] at hal;cases hal
 have nar:ar≠x:=fun z=>by rw [z,hx] at har;cases har
 refine setX hx T.cl_Join T.n_Join_asker (by decide) fun H2 x2 k2=>?_
 walk_at "rd"
 refine ⟨al,_,rfl,.inl (SqL.of (by rw [k2 al nal];exact hal)),fun la hla=>?_⟩
 obtain ⟨H3,e3,s3,h3⟩:=newH hla (.lst (nL ls))
 rw [e3];clear e3
 refine ⟨ar,_,rfl,.inl (SqL.of (s3 _ _ (by rw [k2 ar nar];exact har))),fun ra hra=>?_⟩
 obtain ⟨H4,e4,s4,h4⟩:=newH hra (.lst (nL rs))
 rw [e4];clear e4
 refine ⟨ZAd (by decide),fun sd hsd=>?_⟩
 obtain ⟨H5,e5,s5,h5⟩:=newH hsd (.tup [.ref la,.ref ra])
 rw [e5];clear e5
 have x5:=s5 _ _ (s4 _ _ (s3 _ _ x2))
 refine setX x5 T.cl_Join T.n_Join_sides ZDp fun H6 x6 k6=>?_
 walk_at "rd"
 refine ⟨ZAd (by decide),fun tk htk=>?_⟩
 obtain ⟨H7,e7,s7,h7⟩:=newH htk (.lst [.int 0,.int 0])
 rw [e7];clear e7
 have x7:=s7 _ _ x6
 refine setX x7 T.cl_Join T.n_Join_taken ZDo fun H8 x8 k8=>?_
 walk_at "rd"
 refine ⟨ZAd (by decide),fun pc hpc=>?_⟩
 obtain ⟨H9,e9,s9,h9⟩:=newH hpc (.lst [])
 rw [e9];clear e9
 have x9:=s9 _ _ x8
 refine setX x9 T.cl_Join T.n_Join_places ZDn fun HA xA kA=>?_
 have nla:la≠x:=Ne.symm (ZAD x2 hla)
 have nra:ra≠x:=Ne.symm (ZAD (s3 _ _ x2) hra)
 have nsd:sd≠x:=Ne.symm (ZAD (s4 _ _ (s3 _ _ x2)) hsd)
 have ntk:tk≠x:=Ne.symm (ZAD x6 htk)
 have npc:pc≠x:=Ne.symm (ZAD x8 hpc)
 have up5:∀ b o,b≠x->H5 b=some o->HA b=some o:=fun b o n e=>by
  rw [kA b n]
  refine s9 _ _ ?_
  rw [k8 b n]
  refine s7 _ _ ?_
  rw [k6 b n]
  exact e
 have up:∀ b o,b≠x->H b=some o->H5 b=some o:=fun b o n e=>s5 _ _ (s4 _ _ (s3 _ _ (by rw [k2 b n];exact e)))
 have gla:=up5 la _ nla (s5 _ _ (s4 _ _ h3))
 have gra:=up5 ra _ nra (s5 _ _ h4)
 have gsd:=up5 sd _ nsd h5
 have g8:H8 tk=some (.lst [.int 0,.int 0]):=by rw [k8 tk ntk];exact h7
 have gtk:HA tk=some (.lst [.int 0,.int 0]):=by rw [kA tk ntk];exact s9 _ _ g8
 have gpc:HA pc=some (.lst []):=by rw [kA pc npc];exact h9
 have f6:∀ b,b≠x->H6 b=none->H b=none:=fun b n e=>by
  cases eb:H b with
  | none=>rfl
  | some o=>have:=up b o n eb;rw [k6 b n,this] at e;cases e
 have f8:∀ b,b≠x->H8 b=none->H b=none:=fun b n e=>f6 b n (s7.free (by rw [<- k8 b n];exact e))
 have l5:H6 la=some (.lst (nL ls)):=by rw [k6 la nla];exact s5 _ _ (s4 _ _ h3)
 have r5:H6 ra=some (.lst (nL rs)):=by rw [k6 ra nra];exact s5 _ _ h4
 have l8:H8 la=some (.lst (nL ls)):=by rw [k8 la nla];exact s7 _ _ l5
 have r8:H8 ra=some (.lst (nL rs)):=by rw [k8 ra nra];exact s7 _ _ r5
 refine q sd la ra tk pc HA (fun b o n e=>up5 b o n (up b o n e)) ?_ ?_ ?_ (f6 tk ntk htk) (f8 pc npc hpc) ⟨(Ins.of xA (yAI ZD2 (by decide))).congr fun f=>by simp only [ZAZ,lkc],gsd,gla,gra,gtk,gpc,ZAD g8 hpc,ZAD l5 htk,ZAD l8 hpc,ZAD r5 htk,ZAD r8 hpc⟩
 .cases eb:H sd with
  | none=>rfl
  | some o=>have:=s4 _ _ (s3 _ _ (by rw [k2 sd nsd];exact eb));rw [this] at hsd;cases hsd
 .cases eb:H la with
  | none=>rfl
  | some o=>rw [k2 la nla,eb] at hla;cases hla
 .cases eb:H ra with
  | none=>rfl
  | some o=>have:=s3 ra o (by rw [k2 ra nra];exact eb);rw [this] at hra;cases hra
theorem ok_Join_has_more {f:Addr} {fd:FuncData} (F:Fun K "has_more" "Join.has_more" ZAt f fd) (T:Bt K mg C_Join C_Pile C_Asker C_AskedRule)
 :FnOk P w K mg base CX0 1 f fd ["self","side"] (ZB5 C_Join):=by
 refine F.ok sc_Join_has_more (fun vs H Q E h=>?_) (fun cdv A outer s H vs Q E hr h=>?_)
 .obtain ⟨b,jn,ak,sd,ma,ta,tk,pc,ms,ts,i,j,dn,rfl,js,q⟩:=h
  rfl
 obtain ⟨b,jn,ak,sd,ma,ta,tk,pc,ms,ts,i,j,dn,rfl,js,q⟩:=h
 refine ⟨_,(ZAI (ZAX (ZB0 ZCZ (ZAc ZAe (ZAM (pv 0) rfl) (pv 1) (fun _ _=>rfl)) (ZAT ZAO rfl T.b_len PySem.boot_len (ZAA (ZAc ZAw (ZAM (pv 0) rfl) (pv 1) (fun _ _=>rfl)) ZAE)) (ZAV _)))),?_⟩
 walk_at "rd"
 refine js.hj.get T.cl_Join T.n_Join_taken (by walk_at "lk") (ZA2 (SqL.of js.htk) ZBt ?_)
 refine js.hj.get T.cl_Join T.n_Join_sides (by walk_at "lk") (ZAv (SqT.of js.hsd) ZBt ⟨ma,_,rfl,.inl (SqL.of js.hma),?_⟩)
 rw [yAD]
 refine ⟨_,_,rfl,rfl,?_⟩
 have e:decide ((i:Int) < ms.length)=decide (i < ms.length):=by rw [decide_eq_decide];omega
 rw [<- e] at q
 exact q
theorem ok_Join_front {f:Addr} {fd:FuncData} (F:Fun K "front" "Join.front" ZA9 f fd) (T:Bt K mg C_Join C_Pile C_Asker C_AskedRule)
 :FnOk P w K mg base CX0 1 f fd ["self","side"] (ZCn C_Join):=by
 refine F.ok sc_Join_front (fun vs H Q E h=>?_) (fun cdv A outer s H vs Q E hr h=>?_)
 .obtain ⟨b,jn,ak,sd,ma,ta,tk,pc,ms,ts,i,j,dn,x,rfl,js,hx,q⟩:=h
  rfl
 obtain ⟨b,jn,ak,sd,ma,ta,tk,pc,ms,ts,i,j,dn,x,rfl,js,hx,q⟩:=h
 refine ⟨_,(ZAI (ZAX (ZAc ZAe (ZAc ZAw (ZAM (pv 0) rfl) (pv 1) (fun _ _=>rfl)) (ZAc ZAe (ZAM (pv 0) rfl) (pv 1) (fun _ _=>rfl)) (fun _ _=>rfl)))),?_⟩
 walk_at "rd"
 refine js.hj.get T.cl_Join T.n_Join_sides (by walk_at "lk") (ZAv (SqT.of js.hsd) ZBt ?_)
 refine js.hj.get T.cl_Join T.n_Join_taken (by walk_at "lk") (ZA2 (SqL.of js.htk) ZBt ?_)
 exact ZA2 (SqL.of js.hma) (ZCX hx) q
theorem ok_Join_take_on {f:Addr} {fd:FuncData} (F:Fun K "take_on" "Join.take_on" ZA0 f fd) (T:Bt K mg C_Join C_Pile C_Asker C_AskedRule)
 :FnOk P w K mg base CX0 1 f fd ["self","side","more"] (ZB4 C_Join):=by
 refine F.ok sc_Join_take_on (fun vs H Q E h=>?_) (fun cdv A outer s H vs Q E hr h=>?_)
 .obtain ⟨b,jn,ak,sd,ma,ta,tk,pc,ms,ts,i,j,dn,m,rfl,js,hm,hl,q⟩:=h
  rfl
 obtain ⟨b,jn,ak,sd,ma,ta,tk,pc,ms,ts,i,j,dn,m,rfl,js,hm,hl,q⟩:=h
 refine ⟨_,(ZAB (ZAJ (i:=3) sc_Join_take_on.nd rfl (by walk_at "o") (ZAc ZAe (ZAM (pv 0) rfl) (pv 1) (fun _ _=>rfl)))
  (ZAB (ZAu (ZCI PySem.F.plainAttrs_list PySem.F.slot_list_extend PySem.F.type_list_extend mt_extend (ZAM (pv 0) rfl) (ZAA (pe_slice sl_list (ZAc ZAw (ZAM (pv 0) rfl) (pv 1) (fun _ _=>rfl)) (ZCr (pv 3)) (ZCr (ZAQ ZAq (pv 3) (pv 2)))) ZAE)))
  (ZAI (ps_asg (ZAQ ZAq (pv 3) (pv 2)) (pg_sub (ZAM (pv 0) rfl) (pv 1) set_list))))),?_⟩
 walk_at "rd"
 refine js.hj.get T.cl_Join T.n_Join_taken (by walk_at "lk") (ZA2 (SqL.of js.htk) ZBt ?_)
 walk_at "rd"
 refine js.hj.get T.cl_Join T.n_Join_places (by walk_at "lk") ?_
 walk_at "rd"
 refine ⟨.inl ⟨rfl,_,SqL.of js.hpc⟩,?_⟩
 refine js.hj.get T.cl_Join T.n_Join_sides (by walk_at "lk") (ZAv (SqT.of js.hsd) ZBt ?_)
 walk_at "rd"
 refine slL_of (SqL.of js.hma) fun c hc=>?_
 have ec:cutV (nL ms) (some (i:Int)) (some ((i:Int)+m))=nL ((ms.drop i).take m):=by
  unfold cutV
  rw [show (i:Int)+m=((i+m:Nat):Int) by omega,HT.sIx_nat,HT.sIx_nat,yAD,Nat.min_eq_left (show i <= ms.length by omega),Nat.min_eq_left (show i+m <= ms.length by omega),Nat.add_sub_cancel_left]
  unfold nL
  rw [<- List.map_drop,<- List.map_take]
 rw [ec]
 obtain ⟨H1,e1,s1,h1⟩:=newH hc (.lst (nL ((ms.drop i).take m)))
 rw [e1];clear e1
 have js1:=js.mono s1
 refine ⟨pc,c,_,_,rfl,rfl,js1.hpc,h1,ZAd (by rw [yAD,yAD,yBB,yBE];omega),?_⟩
 have npt:tk≠pc:=js.ne.1
 have hj2:JS C_Join (upd H1 pc (.lst (nL dn++nL ((ms.drop i).take m)))) b jn ak sd ma ta tk pc ms ts i j (dn++(ms.drop i).take m):=js1.keep (Fr.upd (yAC _ yAE)) (by rw [ZAF npt];exact js1.htk) (by rw [ZAH];unfold nL;rw [yAT])
 have f1:Fr [tk,pc] H (upd H1 pc (.lst (nL dn++nL ((ms.drop i).take m)))):=s1.fr.trans (Fr.upd (yAC _ yAE))
 generalize upd H1 pc (.lst (nL dn++nL ((ms.drop i).take m)))=H2 at hj2 f1 ⊢
 refine hj2.hj.get T.cl_Join T.n_Join_taken (by walk_at "lk") ?_
 walk_at "rd"
 refine ⟨tk,_,_,_,rfl,rfl,hj2.htk,ixN_of (by cases b <;> decide) (by rw [pk_len];cases b <;> decide),?_⟩
 rw [pk_set,show (i:Int)+m=((i+m:Nat):Int) by omega]
 refine q _ (f1.trans (Fr.upd yAE)) (hj2.keep (Fr.upd yAE) ZAH (by rw [ZAF (Ne.symm npt)];exact hj2.hpc))
theorem ok_Join_take_rest {f:Addr} {fd:FuncData} (F:Fun K "take_rest" "Join.take_rest" ZAl f fd) (T:Bt K mg C_Join C_Pile C_Asker C_AskedRule)
  (t_Join_take_on:Mt P w K mg base CX0 C_Join "take_on" 1 ["self","side","more"] (ZB4 C_Join))
 :FnOk P w K mg base CX0 2 f fd ["self","side"] (ZCB C_Join):=by
 refine F.ok sc_Join_take_rest (fun vs H Q E h=>?_) (fun cdv A outer s H vs Q E hr h=>?_)
 .obtain ⟨b,jn,ak,sd,ma,ta,tk,pc,ms,ts,i,j,dn,rfl,js,hi,hl,q⟩:=h
  rfl
 obtain ⟨b,jn,ak,sd,ma,ta,tk,pc,ms,ts,i,j,dn,rfl,js,hi,hl,q⟩:=h
 refine ⟨_,(ZAI (ZAu (ZBI t_Join_take_on (hr.mono (by decide)) ZAa (pv 0) (ZAA (pv 1) (ZAA (ZAQ ZA6 (ZAT ZAO rfl T.b_len PySem.boot_len (ZAA (ZAc ZAw (ZAM (pv 0) rfl) (pv 1) (fun _ _=>rfl)) ZAE)) (ZAc ZAe (ZAM (pv 0) rfl) (pv 1) (fun _ _=>rfl))) ZAE))))),?_⟩
 walk_at "rd"
 refine js.hj.meth (by walk_at "lk") ?_
 refine js.hj.get T.cl_Join T.n_Join_sides (by walk_at "lk") (ZAv (SqT.of js.hsd) ZBt ⟨ma,_,rfl,.inl (SqL.of js.hma),?_⟩)
 refine js.hj.get T.cl_Join T.n_Join_taken (by walk_at "lk") (ZA2 (SqL.of js.htk) ZBt ?_)
 walk_at "rd"
 rw [yAD,show (ms.length:Int)-i=((ms.length-i:Nat):Int) by omega]
 refine ⟨b,jn,ak,sd,ma,ta,tk,pc,ms,ts,i,j,dn,ms.length-i,rfl,js,by omega,hl,fun H' f' js'=>?_⟩
 rw [show i+(ms.length-i)=ms.length by omega,List.take_of_length_le (by rw [yBE];exact yAA _)] at js'
 exact q H' f' js'
theorem ok_Join_win {f:Addr} {fd:FuncData} (F:Fun K "win" "Join.win" ZBM f fd) (T:Bt K mg C_Join C_Pile C_Asker C_AskedRule)
  (t_Join_take_on:Mt P w K mg base CX0 C_Join "take_on" 1 ["self","side","more"] (ZB4 C_Join))
  (t_Asker_ahead:Mt P w K mg base CX0 C_Asker "ahead" 3 ["self","p","q"] (ZBy C_Asker C_AskedRule ZA7))
  (t_Join_front:Mt P w K mg base CX0 C_Join "front" 1 ["self","side"] (ZCn C_Join))
 :FnOk P w K mg base CX0 4 f fd ["self"] (ZDz C_Asker C_AskedRule C_Join):=by
 refine F.ok sc_Join_win (fun vs H Q E h=>?_) (fun cdv A outer s H vs Q E hr h=>?_)
 .obtain ⟨ks,xs,a,rl,ru,tl,g,lg,jn,sd,la,ra,tk,pc,pr,ls,rs,dn,i,j,x,y,rfl,st,js,nx,hx,hy,hxy,hxk,hyk,hk1000,hpr,hd1,hd2,q⟩:=h
  rfl
 obtain ⟨ks,xs,a,rl,ru,tl,g,lg,jn,sd,la,ra,tk,pc,pr,ls,rs,dn,i,j,x,y,rfl,st,js,nx,hx,hy,hxy,hxk,hyk,hk1000,hpr,hd1,hd2,q⟩:=h
 refine ⟨_,(ZAB (ZAJ (i:=1) sc_Join_win.nd rfl (by walk_at "o") (ZBJ (ZB7 (ZBI t_Asker_ahead (hr.mono (by decide)) ZAa (ZAM (pv 0) rfl) (ZAA (ZBI t_Join_front (hr.mono (by decide)) ZAa (pv 0) (ZAA (ZBH rfl T.c_LEFT) ZAE)) (ZAA (ZBI t_Join_front (hr.mono (by decide)) ZAa (pv 0) (ZAA (ZBH rfl T.c_RIGHT) ZAE)) ZAE)))) (ZBH rfl T.c_LEFT) (ZBH rfl T.c_RIGHT)))
  (ZAB (ZAu (ZBI t_Join_take_on (hr.mono (by decide)) ZAa (pv 0) (ZAA (pv 1) (ZAA ZAG ZAE))))
  (ZAI (ZAX (pv 1))))),?_⟩
 walk_at "rd"
 refine js.hj.get T.cl_Join T.n_Join_asker (by walk_at "lk") (st.ha.meth (by walk_at "lk") ?_)
 refine js.hj.meth (by walk_at "lk") ⟨true,jn,a,sd,la,ra,tk,pc,ls,rs,i,j,dn,x,rfl,js,hx,?_⟩
 refine js.hj.meth (by walk_at "lk") ⟨false,jn,a,sd,ra,la,tk,pc,rs,ls,j,i,dn,y,rfl,js.swap,hy,?_⟩
 refine st.ahead (p:=x) (q:=y) hxy hxk hyk hk1000 (by omega) fun bw H2 f2 s2=>?_
 generalize (if y < x then bw else !bw)=bw
 have js2:=js.fr f2 nx.n1
 have hi:=(yAJ.mp hx).1
 have hj:=(yAJ.mp hy).1
 refine ⟨_,rfl,?_⟩
 cases bw with
 | true=>
  rw [if_pos rfl]
  walk_at "rd"
  refine js2.hj.meth (by walk_at "lk") ⟨true,jn,a,sd,la,ra,tk,pc,ls,rs,i,j,dn,1,rfl,js2,by omega,by omega,fun H3 f3 js3=>?_⟩
  rw [ZCg hx] at js3
  exact q true H3 ((fr5a f2).trans (fr5b f3)) (s2.apart f3 js2.lsts nx.n2) (fun _=>js3) (fun z=>by cases z)
 | false=>
  rw [if_neg (by decide)]
  walk_at "rd"
  refine js2.hj.meth (by walk_at "lk") ⟨false,jn,a,sd,ra,la,tk,pc,rs,ls,j,i,dn,1,rfl,js2.swap,by omega,by omega,fun H3 f3 js3=>?_⟩
  rw [ZCg hy] at js3
  exact q false H3 ((fr5a f2).trans (fr5b f3)) (s2.apart f3 js2.lsts nx.n2) (fun z=>by cases z) (fun _=>js3.swap)
theorem ok_Join_leap_on {f:Addr} {fd:FuncData} (F:Fun K "leap_on" "Join.leap_on" ZA1 f fd) (T:Bt K mg C_Join C_Pile C_Asker C_AskedRule)
  (f_leap:Fn P w K mg base CX0 "leap" 4 ["asker","order","first","place"] (ZDc C_Asker C_AskedRule))
  (t_Join_take_on:Mt P w K mg base CX0 C_Join "take_on" 1 ["self","side","more"] (ZB4 C_Join))
  (t_Join_has_more:Mt P w K mg base CX0 C_Join "has_more" 1 ["self","side"] (ZB5 C_Join))
  (t_Join_front:Mt P w K mg base CX0 C_Join "front" 1 ["self","side"] (ZCn C_Join))
 :FnOk P w K mg base CX0 5 f fd ["self","side"] (ZCk C_Asker C_AskedRule C_Join):=by
 refine F.ok sc_Join_leap_on (fun vs H Q E h=>?_) (fun cdv A outer s H vs Q E hr h=>?_)
 .obtain ⟨ks,xs,a,rl,ru,tl,g,lg,jn,sd,ma,ta,tk,pc,b,pr,ms,ts,dn,i,j,y,rfl,st,js,nx,hy,hml,hmk,hyk,hk1000,hpr,hd,hin,q⟩:=h
  rfl
 obtain ⟨ks,xs,a,rl,ru,tl,g,lg,jn,sd,ma,ta,tk,pc,b,pr,ms,ts,dn,i,j,y,rfl,st,js,nx,hy,hml,hmk,hyk,hk1000,hpr,hd,hin,q⟩:=h
 refine ⟨_,(ZAB (ZAJ (i:=2) sc_Join_leap_on.nd rfl (by walk_at "o") (ZBJ (ZAS ZCT (pv 1) (ZBH rfl T.c_LEFT) (ZAV _)) (ZBH rfl T.c_RIGHT) (ZBH rfl T.c_LEFT)))
  (ZAW
  (ZAB (ZAu (ZBI t_Join_take_on (hr.mono (by decide)) ZAa (pv 0) (ZAA (pv 1) (ZAA (ZB8 f_leap (hr.mono (by decide)) rfl ZAa (ZAA (ZAM (pv 0) rfl) (ZAA (ZAc ZAw (ZAM (pv 0) rfl) (pv 1) (fun _ _=>rfl)) (ZAA (ZAc ZAe (ZAM (pv 0) rfl) (pv 1) (fun _ _=>rfl)) (ZAA (ZBI t_Join_front (hr.mono (by decide)) ZAa (pv 0) (ZAA (pv 2) ZAE)) ZAE))))) ZAE))))
  (ZAI (ZBU (ZB7 (ZBI t_Join_has_more (hr.mono (by decide)) ZAa (pv 0) (ZAA (pv 1) ZAE)))
  (ZAI (ZAu (ZBI t_Join_take_on (hr.mono (by decide)) ZAa (pv 0) (ZAA (pv 2) (ZAA ZAG ZAE))))) ZAx))))),?_⟩
 walk_at "rd"
 have hj:=(yAJ.mp hy).1
 refine cut_var fun o ho=>?_
 obtain rfl:o=sv (!b):=by
  rcases ho with ⟨h,e⟩ | ⟨h,e⟩
  .revert h;cases b <;> intro h
   .cases h
   .exact e
  .revert h;cases b <;> intro h
   .exact e
   .exact absurd rfl h
 refine ZAj ?_
 walk_at "rd"
 refine js.hj.meth (by walk_at "lk") ?_
 refine js.hj.get T.cl_Join T.n_Join_asker (by walk_at "lk") ?_
 refine js.hj.get T.cl_Join T.n_Join_sides (by walk_at "lk") (ZAv (SqT.of js.hsd) ZBt ?_)
 refine js.hj.get T.cl_Join T.n_Join_taken (by walk_at "lk") (ZA2 (SqL.of js.htk) ZBt ?_)
 refine js.hj.meth (by walk_at "lk") ⟨!b,jn,a,sd,ta,ma,tk,pc,ts,ms,j,i,dn,y,rfl,js.swap,hy,?_⟩
 refine ⟨ks,xs,a,rl,ru,tl,g,lg,ma,pr,ms,i,y,rfl,st,js.hma,nx.n1.2.2.1,hml,hmk,hyk,hk1000,hpr,hin,fun z H2 G hiz hzn f2 hG s2=>?_⟩
 have js2:=js.fr f2 nx.n1
 refine ⟨b,jn,a,sd,ma,ta,tk,pc,ms,ts,i,j,dn,z-i,rfl,js2,by omega,by omega,fun H3 f3 js3=>?_⟩
 rw [show i+(z-i)=z by omega] at js3
 have s3:=s2.apart f3 js2.lsts nx.n2
 have f13:=(fr5a f2 (tk:=tk) (pc:=pc)).trans (fr5b f3)
 refine js3.hj.meth (by walk_at "lk") ⟨b,jn,a,sd,ma,ta,tk,pc,ms,ts,z,j,_,rfl,js3,?_⟩
 refine ⟨_,rfl,?_⟩
 by_cases hz:z < ms.length
 .rw [decide_eq_true hz,if_pos rfl]
  walk_at "rd"
  refine js3.hj.meth (by walk_at "lk") ⟨!b,jn,a,sd,ta,ma,tk,pc,ts,ms,j,z,_,1,rfl,js3.swap,by omega,by rw [yAB,yBB,yBE];omega,fun H4 f4 js4=>?_⟩
  have js5:=js4.swap
  rw [Bool.not_not,ZCg hy] at js5
  exact q z H4 G hiz hzn (f13.trans (fr5b f4)) hG (s3.apart f4 js3.lsts nx.n2) (fun _=>js5) (fun e=>by omega)
 .rw [decide_eq_false hz,if_neg (by decide)]
  exact q z H3 G hiz hzn f13 hG s3 (fun e=>absurd e hz) (fun _=>js3)
theorem ok_joined {f:Addr} {fd:FuncData} (F:Fun K "joined" "joined" ZBn f fd) (T:Bt K mg C_Join C_Pile C_Asker C_AskedRule)
  (t_Join_take_rest:Mt P w K mg base CX0 C_Join "take_rest" 2 ["self","side"] (ZCB C_Join))
  (t_Join_has_more:Mt P w K mg base CX0 C_Join "has_more" 1 ["self","side"] (ZB5 C_Join))
  (t_Join_win:Mt P w K mg base CX0 C_Join "win" 4 ["self"] (ZDz C_Asker C_AskedRule C_Join))
  (t_Join_leap_on:Mt P w K mg base CX0 C_Join "leap_on" 5 ["self","side"] (ZCk C_Asker C_AskedRule C_Join))
  (k_Join:Kl P w K mg base CX0 "Join" C_Join 1 ["self","asker","left","right"] (ZC7 C_Join))
 :FnOk P w K mg base CX0 6 f fd ["asker","left","right"] (ZCl C_Asker C_AskedRule):=by
 refine F.ok sc_joined (fun vs H Q E h=>?_) (fun cdv A outer s H vs Q E hr h=>?_)
 .obtain ⟨ks,xs,a,rl,ru,tl,g,lg,al,ar,pr,ls,rs,rfl,st,hal,har,hll,hrl,hlk,hrk,hdis,hk1000,hpr,q⟩:=h
  rfl
 obtain ⟨ks,xs,a,rl,ru,tl,g,lg,al,ar,pr,ls,rs,rfl,st,hal,har,hll,hrl,hlk,hrk,hdis,hk1000,hpr,q⟩:=h
 refine ⟨_,(ZAB (ZAJ (i:=3) sc_joined.nd rfl (by walk_at "o") (pe_mk k_Join (hr.mono (by decide)) rfl ZAa (ZAA (pv 0) (ZAA (pv 1) (ZAA (pv 2) ZAE)))))
  (ZAB (ZAJ (i:=4) sc_joined.nd rfl (by walk_at "o") ZAG)
  (ZAB (ZAJ (i:=5) sc_joined.nd rfl (by walk_at "o") (ZBH rfl T.c_LEFT))
  (ZAB (ZBQ PassesOwn.never (PW.pt (ZDI (ZB7 (ZBI t_Join_has_more (hr.mono (by decide)) ZAa (pv 3) (ZAA (ZBH rfl T.c_LEFT) ZAE))) (ZCq (ZB7 (ZBI t_Join_has_more (hr.mono (by decide)) ZAa (pv 3) (ZAA (ZBH rfl T.c_RIGHT) ZAE))))))
  (ZAB (ZAJ (i:=6) sc_joined.nd rfl (by walk_at "o") (ZBj t_Join_win (hr.mono (by decide)) ZAa (pv 3)))
  (ZAB (ZAJ (i:=4) sc_joined.nd rfl (by walk_at "o") (ZBJ (ZAS ZCT (pv 6) (pv 5) (ZAV _)) (ZAQ ZAq (pv 4) ZAG) ZAG))
  (ZAB (ZAJ (i:=5) sc_joined.nd rfl (by walk_at "o") (pv 6))
  (ZAI (ZBU (ZAS ZCT (pv 4) (ZBH rfl T.c_WINS_TO_LEAP) (ZAV _))
  (ZAB (ZAu (ZBI t_Join_leap_on (hr.mono (by decide)) ZAa (pv 3) (ZAA (pv 6) ZAE)))
  (ZAI (ZAJ (i:=4) sc_joined.nd rfl (by walk_at "o") ZAG))) ZAx))))))
  (ZAB (ZAu (ZBI t_Join_take_rest (hr.mono (by decide)) ZAa (pv 3) (ZAA (ZBH rfl T.c_LEFT) ZAE)))
  (ZAB (ZAu (ZBI t_Join_take_rest (hr.mono (by decide)) ZAa (pv 3) (ZAA (ZBH rfl T.c_RIGHT) ZAE)))
  (ZAI (ZAX (ZAn ZBT rfl T.b_list PyProof.Rows.boot_list (ZAA (ZAM (pv 3) rfl) ZAE)))))))))),?_⟩
 walk_at "rd"
 intro jn dj hjn hdj njd
 have hjn':upd H dj (.own jn) jn=none:=by rw [ZAF (Ne.symm njd)];exact hjn
 have s1:Same H (upd (upd H dj (.own jn)) jn (.ins C_Join dj [])):=(ZAR hdj _).trans (ZAR hjn' _)
 refine ⟨jn,dj,a,al,ar,ls,rs,rfl,ZAH,s1 _ _ hal,s1 _ _ har,fun sd la ra tk pc H2 k2 nsd nla nra ntk npc js=>⟨rfl,?_⟩⟩
 have u2:Same H H2:=fun b o h=>k2 b o (ZAD h hjn) (s1 _ _ h)
 have st2:=st.mono u2
 have fH:∀ {b:Addr},upd (upd H dj (.own jn)) jn (.ins C_Join dj []) b=none->H b=none:=fun h=>s1.free h
 have n3:∀ {b:Addr},H b=none->b∉[a,lg,tl]:=fun {b} hb=>by
  obtain ⟨w1,h1,_⟩:=st.hlg
  obtain ⟨w2,h2,_⟩:=st.htl
  exact ZD4 (st.ha.neN hb) (Ne.symm (ZAD h1 hb)) (Ne.symm (ZAD h2 hb))
 have n2:∀ {b:Addr} {o:HO},H b=some o->b∉[tk,pc]:=fun {b o} hb z=>by
  rcases yAF.mp z with z | z
  .exact ZAD hb (fH ntk) z
  .exact ZAD hb (fH npc) (yAS.mp z)
 have nx:NX a rl lg tl jn sd la ra tk pc:=by
  obtain ⟨w1,h1,_⟩:=st.hlg
  obtain ⟨w2,h2,_⟩:=st.htl
  exact ⟨⟨n3 hjn,n3 (fH nsd),n3 (fH nla),n3 (fH nra),n3 (fH ntk),n3 (fH npc)⟩,n2 st.hrl,n2 h1,n2 h2⟩
 have fr0:∀ {H':Hp},Fr [a,lg,tl,tk,pc] H2 H'->Fr [a,lg,tl] H H':=fun f b o n h=>f b o (fun z=>by
  rcases yAF.mp z with z | z
  .exact n (by rw [z];exact yAE)
  rcases yAF.mp z with z | z
  .exact n (by rw [z];exact yAC _ yAE)
  rcases yAF.mp z with z | z
  .exact n (by rw [z];exact yAC _ (yAC _ yAE))
  .exact n2 h z) (u2 _ _ h)
 refine ZBO (JInv C_Asker C_AskedRule C_Join ks xs a rl ru tl g lg al ar jn sd la ra tk pc pr ls rs H2) ⟨_,JInv.of (i:=0) (j:=0) (w:=0) (s:=true) (dn:=[]) (as:=[]) (yAH _) (yAH _) (by decide) rfl (yAA _) .refl (by rw [yBF];exact st2) js fun ps L h=>h⟩ ?_
 rintro mm' σ H' ⟨i,j,w,s,v6,dn,as,rfl,rfl,hi,hj,hw,hdl,hal',fr,s',js',hg⟩
 walk_at "rd"
 apply onceP (¬ (i < ls.length /\ j < rs.length))
 .intro tailp
  refine js'.hj.meth (by walk_at "lk") ⟨true,jn,a,sd,la,ra,tk,pc,ls,rs,i,j,dn,rfl,js',?_⟩
  refine ⟨_,rfl,?_⟩
  by_cases hil:i < ls.length
  .rw [decide_eq_true hil,if_pos rfl]
   refine js'.hj.meth (by walk_at "lk") ⟨false,jn,a,sd,ra,la,tk,pc,rs,ls,j,i,dn,rfl,js'.swap,?_⟩
   refine ⟨_,rfl,?_⟩
   by_cases hjr:j < rs.length
   .rw [decide_eq_true hjr,if_pos rfl]
    refine ZBP ?_
    walk_at "rd"
    have hx:=yAR hil
    have hy:=yAR hjr
    generalize ls[i]=x at hx
    generalize rs[j]=y at hy
    have hxm:=yAO hx
    have hym:=yAO hy
    have hxy:=hdis x hxm y hym
    refine js'.hj.meth (by walk_at "lk") ⟨ks,xs,a,rl,ru,tl,g,lg,jn,sd,la,ra,tk,pc,_,ls,rs,dn,i,j,x,y,rfl,s',js',nx,hx,hy,hxy,hlk x hxm,hrk y hym,hk1000,by rw [yAB];omega,by omega,by omega,fun bw H3 f3 s3 jL jR=>?_⟩
    rw [yAL] at s3
    walk_at "rd"
    obtain ⟨b,ma,ta,ms,ts,mi,tj,u,v,eb,hbb,hmi,hu,hv,huv,jB,nxB,hml,htl',hmk,hvk,emm,eij,hgB⟩:∃ (b:Bool) (ma ta:Addr) (ms ts:List Nat) (mi tj u v:Nat),bw=b /\ ((b=true /\ ma=la /\ ta=ra /\ ms=ls /\ ts=rs)∨(b=false /\ ma=ra /\ ta=la /\ ms=rs /\ ts=ls)) /\ mi < ms.length /\ ms[mi]?=some u /\ ts[tj]?=some v /\ True /\ JS C_Join H3 b jn a sd ma ta tk pc ms ts (mi+1) tj (dn++[u]) /\ NX a rl lg tl jn sd ma ta tk pc /\ ms.length <= 250 /\ ts.length <= 250 /\ (∀ c∈ms,c < ks.length /\ c≠v) /\ v < ks.length /\ (max x y,min x y)=(max u v,min u v) /\ mi+tj=i+j /\ ∀ ps L,JT ks ms ts mi tj w (if b then s else !s) ps L->JT ks ms ts 0 0 0 b (dn++ps) (as++L):=by
     cases bw with
     | true=>exact ⟨true,la,ra,ls,rs,i,j,x,y,rfl,.inl ⟨rfl,rfl,rfl,rfl,rfl⟩,hil,hx,hy,trivial,jL rfl,nx,hll,hrl,fun c hc=>⟨hlk c hc,hdis c hc y hym⟩,hrk y hym,rfl,rfl,fun ps L h=>hg ps L h⟩
     | false=>exact ⟨false,ra,la,rs,ls,j,i,y,x,rfl,.inr ⟨rfl,rfl,rfl,rfl,rfl⟩,hjr,hy,hx,trivial,(jR rfl).swap,nx.swap,hrl,hll,fun c hc=>⟨hrk c hc,fun e=>hdis x hxm c hc e.symm⟩,hlk x hxm,mm_comm x y,Nat.add_comm _ _,fun ps L h=>JT.swap (hg ps L (JT.swap h))⟩
    rw [eb]
    rw [emm] at s3
    have htj:=(yAJ.mp hv).1
    clear jL jR eb emm
    apply ZDB (fun (n:Int)=>n=(nw w (if b then s else !s):Nat))
    .intro tailp
     by_cases hs:sv b=sv s
     .rw [if_pos hs]
      obtain ⟨n,hn⟩:∃ n:Int,n=w+1:=⟨_,rfl⟩
      rw [<- hn]
      refine tailp n ?_
      rw [hn]
      revert hs
      cases b <;> cases s <;> intro hs <;> first | rfl | cases hs
     .rw [if_neg hs]
      refine tailp 1 ?_
      revert hs
      cases b <;> cases s <;> intro hs <;> first | rfl | exact absurd rfl hs
    rintro n rfl
    generalize (if b then s else !s)=sb at hgB
    have hnw:nw w sb <= 4:=by unfold nw;split <;> omega
    have hdB:=jB.hpc
    by_cases h4:nw w sb=4
    .rw [if_pos (by omega)]
     refine jB.hj.meth (by walk_at "lk") ⟨ks,xs,a,rl,ru,tl,g,lg,jn,sd,ma,ta,tk,pc,b,_,ms,ts,_,mi+1,tj,v,rfl,s3,jB,nxB,hv,by omega,hmk,hvk,hk1000,by rw [yAB,yAB,yAN];omega,by rw [yAB,yAN];omega,hmi,fun z H4 G z1 z2 f4 hG s4 j1 j2=>?_⟩
     have hGl:G.length <= 18:=by
      have:=hG.looks z1 z2
      have:=ZCt (g:=z-(mi+1)) (c:=9) (by show _ < 512;omega)
      omega
     rw [yAL,yAL] at s4
     have hasl:(as++([(max u v,min u v)]++List.map (ask1 ms v) G)).length <= as.length+19:=by rw [yAB,yAB,yAN,yAD];omega
     by_cases hz:z < ms.length
     .refine JInv.fin hbb (w':=0) z2 (show tj+1 <= ts.length by omega) (by decide) (by omega) ?_ (by omega) ((fr.trans f3).trans f4) s4 (j1 hz) (fun ps L h=>?_) hi hj
      .rw [yAB,yAB,yAB,yBB,yBE,yAN,yAN];omega
      .have:=hgB _ _ (JT.leap hu hv trivial h4 z1 hz trivial hG h)
       rw [seg_cons hu z1] at this
       simpa [yAL] using this
     .have ez:z=ms.length:=by omega
      have j2:=j2 ez
      subst ez
      refine JInv.fin hbb (w':=0) (yAA _) (yBI htj) (by decide) (by omega) ?_ (by omega) ((fr.trans f3).trans f4) s4 j2 (fun ps L h=>?_) hi hj
      .rw [yAB,yAB,yBB,yBE,yAN];omega
      .have:=hgB _ _ (JT.last hu hv trivial h4 trivial hG h)
       rw [ZBk hu] at this
       rw [List.take_of_length_le (by rw [yBE];exact yAA _)]
       simpa [yAL] using this
    .rw [if_neg (by omega)]
     refine JInv.fin hbb hmi (yBI htj) (by omega) (by omega) ?_ ?_ (fr.trans f3) s3 jB (fun ps L h=>?_) hi hj
     .rw [yAB,yAN];omega
     .rw [yAB,yAN];omega
     .have:=hgB _ _ (JT.step hu hv trivial h4 h)
      simpa [yAL] using this
   .rw [decide_eq_false hjr,if_neg (by decide)]
    exact tailp (by omega)
  .rw [decide_eq_false hil,if_neg (by decide)]
   exact tailp (by omega)
 intro hn
 have hdone:=hg _ _ (JT.done (s:=s) (w:=w) hn)
 refine js'.hj.meth (by walk_at "lk") ⟨true,jn,a,sd,la,ra,tk,pc,ls,rs,i,j,dn,rfl,js',hi,by omega,fun H3 f3 js3=>?_⟩
 have s3:=s'.apart f3 js'.lsts nx.n2
 refine js3.hj.meth (by walk_at "lk") ⟨false,jn,a,sd,ra,la,tk,pc,rs,ls,j,ls.length,_,rfl,js3.swap,hj,by rw [yAB,yBE];omega,fun H4 f4 js4=>?_⟩
 have s4:=s3.apart f4 js3.lsts nx.n2
 rw [yAL] at js4
 rw [yBF] at hdone
 refine js4.hj.get T.cl_Join T.n_Join_places (by walk_at "lk") ⟨pc,_,rfl,.inl (SqL.of js4.hpc),fun l hl=>?_⟩
 have fr4:Fr [a,lg,tl,tk,pc] H2 H4:=(fr.trans (fr5b f3)).trans (fr5b f4)
 refine q l _ _ as ((fr0 fr4).trans (ZAR hl _).fr) ?_ ZAH hdone (s4.mono (ZAR hl _))
 cases e:H l with
 | none=>rfl
 | some o=>
  by_cases hm:l∈[a,lg,tl]
  .obtain ⟨ws4,h5,_⟩:=s4.hlg
   obtain ⟨us4,h6,_⟩:=s4.htl
   rcases yAF.mp hm with z | z
   .exact absurd z (s4.ha.neN hl)
   rcases yAF.mp z with z | z
   .rw [z,h5] at hl;cases hl
   .rw [yAS.mp z,h6] at hl;cases hl
  .rw [fr0 fr4 l o hm e] at hl;cases hl
theorem ok_grade {f:Addr} {fd:FuncData} (F:Fun K "grade" "grade" ZCG f fd) (T:Bt K mg C_Join C_Pile C_Asker C_AskedRule)
 :FnOk P w K mg base CX0 1 f fd ["many","first","middle","beyond"] (ZC8):=by
 refine F.ok sc_grade (fun vs H Q E h=>?_) (fun cdv A outer s H vs Q E hr h=>?_)
 .obtain ⟨m,a,b,c,rfl,h1,hm,ha,hab,hbc,hcm,q⟩:=h
  rfl
 obtain ⟨m,a,b,c,rfl,h1,hm,ha,hab,hbc,hcm,q⟩:=h
 refine ⟨_,(ZAB (ZAJ (i:=4) sc_grade.nd rfl (by walk_at "o") (ZAQ ZBb ZAG (ZAQ ZAq (pv 1) (pv 2))))
  (ZAB (ZAJ (i:=5) sc_grade.nd rfl (by walk_at "o") (ZAQ ZBb ZAG (ZAQ ZAq (pv 2) (pv 3))))
  (ZAB (ZAJ (i:=6) sc_grade.nd rfl (by walk_at "o") ZAG)
  (ZAB (ZBQ PassesOwn.never (ZAS ZCT (ZAQ op_fdivB (pv 4) (ZAQ ZBb ZAG (pv 0))) (ZAQ op_fdivB (pv 5) (ZAQ ZBb ZAG (pv 0))) (ZAV _))
  (ZAB (ZAJ (i:=4) sc_grade.nd rfl (by walk_at "o") (ZAQ ZBb ZAG (pv 4)))
  (ZAB (ZAJ (i:=5) sc_grade.nd rfl (by walk_at "o") (ZAQ ZBb ZAG (pv 5)))
  (ZAI (ZDK (i:=6) sc_grade.nd rfl (by walk_at "o") ZAG ZDP)))))
  (ZAI (ZAX (pv 6))))))),?_⟩
 walk_at "rd"
 refine ⟨.inl ⟨by decide,by decide⟩,.inl ⟨by decide,by decide⟩,?_⟩
 refine ZBO (fun n σ H'=>∃ p:Nat,n=240-p /\ H'=H /\ σ=[some (.int m),some (.int a),some (.int b),some (.int c),some (.int ((a+b) * 2 ^ p)),some (.int ((b+c) * 2 ^ p)),some (.int p)] /\ 1 <= p /\ p <= 240 /\ ∀ r,1 <= r->r < p->Gr.qt m (a+b) r=Gr.qt m (b+c) r) ⟨_,1,rfl,rfl,?_,yAA _,by decide,fun r h1 h2=>by omega⟩ ?_
 .rw [Int.pow_one,Int.mul_comm (a+b),Int.mul_comm (b+c)];rfl
 rintro n σ H' ⟨p,rfl,rfl,rfl,hp1,hp2,hq⟩
 walk_at "rd"
 refine ⟨.inl ⟨by decide,by decide⟩,⟨by omega,by omega⟩,.inl ⟨by decide,by decide⟩,⟨by omega,by omega⟩,?_⟩
 split
 .rename_i he
  have hp3:p < 240:=by
   rcases Nat.lt_or_ge p 240 with l | l
   .exact l
   .exact absurd he (Gr.qt_ne (by omega) (by omega) (pow240 hm l))
  refine ZBP ?_
  walk_at "rd"
  refine ⟨.inl ⟨by decide,by decide⟩,.inl ⟨by decide,by decide⟩,?_⟩
  walk_at "rd"
  refine ⟨_,?_,p+1,rfl,?_,by omega,by omega,fun r h1 h2=>?_⟩
  .omega
  .rw [dbl,dbl];rfl
  .rcases Nat.lt_or_ge r p with l | l
   .exact hq r h1 l
   .obtain rfl:r=p:=by omega
    exact he
 .rename_i he
  exact q p ⟨hp1,hq,he⟩ hp2
theorem ok_cell_at {f:Addr} {fd:FuncData} (F:Fun K "_law_cell_at" "_law_cell_at" ZBZ f fd) (T:Bt K mg C_Join C_Pile C_Asker C_AskedRule)
 :FnOk P w K mg base CX0 1 f fd ["_law_script","_law_k"] (ZDe K):=by
 refine F.ok sc_cell_at (fun vs H Q E h=>?_) (fun cdv A outer s H vs Q E hr h=>?_)
 .obtain ⟨a,ns,k,rfl,hS,h0,q⟩:=h
  rfl
 obtain ⟨a,ns,k,rfl,hS,h0,q⟩:=h
 refine ⟨_,(ZAB (ZBU (ZAS ZCZ (pv 1) (ZAT ZAO rfl T.b_len PySem.boot_len (ZAA (pv 0) ZAE)) (ZAV _))
  (ZAI (ZAX (ZAc ZAe (pv 0) (pv 1) (fun _ _=>rfl)))) ZAx)
  (ZAI (ZAX ZAG))),?_⟩
 walk_at "rd"
 refine ⟨a,_,rfl,.inl hS,?_⟩
 walk_at "rd"
 rw [yAD]
 unfold cellOf at q
 split
 .rename_i hk
  rw [if_pos hk] at q
  have hk':k.toNat < ns.length:=by omega
  refine ZA2 hS (atI_ints h0 (yAR hk')) ?_
  rw [yAR hk'] at q
  exact q
 .rename_i hk
  rw [if_neg hk] at q
  exact q
theorem ok_Pile_init {f:Addr} {fd:FuncData} {dv:List Value} (F:FunD K "__init__" "Pile.__init__" ZBF f fd dv) (T:Bt K mg C_Join C_Pile C_Asker C_AskedRule)
  (t_Asker_many:Mt P w K mg base CX0 C_Asker "many" 1 ["self"] (ZC0 C_Asker))
 :FnOk P w K mg base CX0 2 f fd ["self","asker","least","part"] (ZCF C_Asker C_Pile):=by
 refine F.ok sc_Pile_init (fun vs H Q E h=>?_) (fun cdv A outer s H vs Q E hr h=>?_)
 .obtain ⟨x,dx,a,ls,s,e,pz,rfl,hx,hpv,q⟩:=h
  rfl
 obtain ⟨x,dx,a,ls,s,e,pz,rfl,hx,hpv,q⟩:=h
 refine ⟨_,(ZAB (ZBC (pv 0) (pv 1) rfl)
  (ZAB (ZBC (pv 0) (pv 2) rfl)
  (ZAB (ZBC (pv 0) (ZBJ (ZAS ZDM (pv 3) ZCR (ZAV _)) ZAG (ZAc ZAw (pv 3) ZAG (fun _ _=>rfl))) rfl)
  (ZAW
  (ZAB (ZBC (pv 0) (ZBJ (ZAS ZDM (pv 3) ZCR (ZAV _)) (ZBj t_Asker_many (hr.mono (by decide)) ZAa (pv 1)) (ZAc ZAw (pv 3) ZAG (fun _ _=>rfl))) rfl)
  (ZAW
  (ZAB (ZBC (pv 0) (ZAM (pv 0) rfl) rfl)
  (ZAB (ZBC (pv 0) (ZBa ZAE) rfl)
  (ZAB (ZBC (pv 0) (ZBa ZAE) rfl)
  (ZAI (ZBC (pv 0) (ZBa ZAE) rfl))))))))))),?_⟩
 walk_at "rd"
 refine setX hx T.cl_Pile T.n_Pile_asker (by decide) fun H2 x2 k2=>?_
 walk_at "rd"
 refine setX x2 T.cl_Pile T.n_Pile_least ZDp fun H3 x3 k3=>?_
 walk_at "rd"
 have u3:∀ b o,b≠x->H b=some o->H3 b=some o:=fun b o n h=>by rw [k3 b n,k2 b n];exact h
 apply ZDB (fun H4:Hp=>H4 x=some (.ins C_Pile dx (putF "start" (.int s) (putF "least" (.int ls) (putF "asker" (.ref a) [])))) /\ ∀ b,b≠x->H4 b=H3 b)
 .intro tailp
  rcases hpv with ⟨pt,hz,hpt⟩ | ⟨hz,hs0,nax,rl,ru,m,n,tl,us,ha,hrl,hul⟩
  .rw [if_neg (by rw [hz];simp)]
   have hix:∀ {Q':VK},Q' (.int s) H3->rIxT K pz (.int 0) H3 Q':=fun h=>by rw [hz];exact ZAv (SqT.of (u3 _ _ (fun z=>by rw [z,hx] at hpt;cases hpt) hpt)) (ZAh (by decide) rfl) h
   exact hix (setX x3 T.cl_Pile T.n_Pile_start ZDo fun H4 x4 k4=>tailp H4 ⟨x4,k4⟩)
  .rw [if_pos hz]
   exact setX x3 T.cl_Pile T.n_Pile_start ZDo fun H4 x4 k4=>tailp H4 ⟨by rw [hs0];exact x4,k4⟩
 rintro H4 ⟨x4,k4⟩
 refine ZAj ?_
 walk_at "rd"
 have u4:∀ b o,b≠x->H b=some o->H4 b=some o:=fun b o n h=>by rw [k4 b n];exact u3 b o n h
 apply ZDB (fun H5:Hp=>H5 x=some (.ins C_Pile dx (putF "end" (.int e) (putF "start" (.int s) (putF "least" (.int ls) (putF "asker" (.ref a) []))))) /\ ∀ b,b≠x->H5 b=H4 b)
 .intro tailp
  rcases hpv with ⟨pt,hz,hpt⟩ | ⟨hz,hs0,nax,rl,ru,m,n,tl,us,ha,hrl,hul⟩
  .rw [if_neg (by rw [hz];simp)]
   have hix:∀ {Q':VK},Q' (.int e) H4->rIxT K pz (.int 1) H4 Q':=fun h=>by rw [hz];exact ZAv (SqT.of (u4 _ _ (fun z=>by rw [z,hx] at hpt;cases hpt) hpt)) (ZAh (by decide) rfl) h
   exact hix (setX x4 T.cl_Pile T.n_Pile_end ZDn fun H5 x5 k5=>tailp H5 ⟨x5,k5⟩)
  .rw [if_pos hz]
   have nrl:rl≠x:=fun z=>by rw [z,hx] at hrl;cases hrl
   have ha4:Ins H4 a C_Asker (fA rl ru m n tl):=let ⟨d1,f1,e1,e2,e3⟩:=ha.ex;⟨d1,f1,u4 _ _ nax e1,e2,e3⟩
   refine ha4.meth (by walk_at "lk") ⟨a,rl,ru,tl,m,n,us,rfl,ha4,u4 _ _ nrl hrl,?_⟩
   rw [hul]
   exact setX x4 T.cl_Pile T.n_Pile_end ZDn fun H5 x5 k5=>tailp H5 ⟨x5,k5⟩
 clear hpv
 rintro H5 ⟨x5,k5⟩
 have u5:∀ b o,b≠x->H b=some o->H5 b=some o:=fun b o n h=>by rw [k5 b n];exact u4 b o n h
 clear u3 u4 k2 k3 k4 k5 x2 x3 x4
 refine ZAj ?_
 walk_at "rd"
 refine getF_of x5 T.cl_Pile T.n_Pile_start (by simp only [ZAZ,lkc];walk_at "lk") ?_
 refine setX x5 T.cl_Pile T.n_Pile_reached ZD2 fun H6 x6 k6=>?_
 walk_at "rd"
 refine ⟨yAH _,fun fs hfs=>?_⟩
 obtain ⟨H7,e7,s7,h7⟩:=newH hfs (.lst [])
 rw [e7];clear e7
 refine setX (s7 _ _ x6) T.cl_Pile T.n_Pile_firsts putL5 fun H8 x8 k8=>?_
 walk_at "rd"
 refine ⟨yAH _,fun od hod=>?_⟩
 obtain ⟨H9,e9,s9,h9⟩:=newH hod (.lst [])
 rw [e9];clear e9
 refine setX (s9 _ _ x8) T.cl_Pile T.n_Pile_orders putL6 fun HA xA kA=>?_
 walk_at "rd"
 refine ⟨yAH _,fun gr hgr=>?_⟩
 obtain ⟨HB,eB,sB,hB⟩:=newH hgr (.lst [])
 rw [eB];clear eB
 refine setX (sB _ _ xA) T.cl_Pile T.n_Pile_grades putL7 fun HC xC kC=>?_
 have nfs:fs≠x:=Ne.symm (ZAD x6 hfs)
 have nod:od≠x:=Ne.symm (ZAD x8 hod)
 have ngr:gr≠x:=Ne.symm (ZAD xA hgr)
 have h8:H8 fs=some (.lst []):=by rw [k8 fs nfs];exact h7
 have hAf:HA fs=some (.lst []):=by rw [kA fs nfs];exact s9 _ _ h8
 have hAo:HA od=some (.lst []):=by rw [kA od nod];exact h9
 have f6:∀ b,b≠x->H6 b=none->H b=none:=fun b n e=>by
  cases eb:H b with
  | none=>rfl
  | some o=>have:=u5 b o n eb;rw [k6 b n,this] at e;cases e
 have f8:∀ b,b≠x->H8 b=none->H b=none:=fun b n e=>f6 b n (s7.free (by rw [<- k8 b n];exact e))
 have fA':∀ b,b≠x->HA b=none->H b=none:=fun b n e=>f8 b n (s9.free (by rw [<- kA b n];exact e))
 refine q fs od gr HC (fun b o n h=>?_) (f6 fs nfs hfs) (f8 od nod hod) (fA' gr ngr hgr) ⟨(Ins.of xC (yAI putL8 (by decide))).congr fun f=>by simp only [ZAZ,lkc],by rw [kC fs nfs];exact sB _ _ hAf,by rw [kC od nod];exact sB _ _ hAo,by rw [kC gr ngr];exact hB,trivial,⟨ZAD h8 hod,ZAD hAf hgr,ZAD hAo hgr⟩,fun b hb=>by cases hb⟩
 rw [kC b n]
 refine sB _ _ ?_
 rw [kA b n]
 refine s9 _ _ ?_
 rw [k8 b n]
 refine s7 _ _ ?_
 rw [k6 b n]
 exact u5 b o n h
theorem ok_Pile_beyond_of {f:Addr} {fd:FuncData} (F:Fun K "beyond_of" "Pile.beyond_of" ZAk f fd) (T:Bt K mg C_Join C_Pile C_Asker C_AskedRule)
 :FnOk P w K mg base CX0 1 f fd ["self","number"] (ZBm C_Pile):=by
 refine F.ok sc_Pile_beyond_of (fun vs H Q E h=>?_) (fun cdv A outer s H vs Q E hr h=>?_)
 .obtain ⟨x,a,fs,od,gr,ls,s,e,r,oa,A,p,B,gs,rfl,pa,q⟩:=h
  rfl
 obtain ⟨x,a,fs,od,gr,ls,s,e,r,oa,A,p,B,gs,rfl,pa,q⟩:=h
 refine ⟨_,(ZAI (ZAX (ZBJ (ZAS ZCZ (ZAQ ZAq (pv 1) ZAG) (ZAT ZAO rfl T.b_len PySem.boot_len (ZAA (ZAM (pv 0) rfl) ZAE)) (ZAV _)) (ZAc ZAe (ZAM (pv 0) rfl) (ZAQ ZAq (pv 1) ZAG) (fun _ _=>rfl)) (ZAM (pv 0) rfl)))),?_⟩
 walk_at "rd"
 refine pa.hp.get T.cl_Pile T.n_Pile_firsts (by walk_at "lk") ⟨fs,_,rfl,.inl (SqL.of pa.hfs),?_⟩
 rw [yAD,yAD,yAB,yAG]
 cases B with
 | nil=>
  rw [if_neg (by rw [yBR];omega)]
  exact pa.hp.get T.cl_Pile T.n_Pile_reached (by walk_at "lk") q
 | cons p2 B=>
  rw [if_pos (by rw [yAG];omega)]
  refine pa.hp.get T.cl_Pile T.n_Pile_firsts (by walk_at "lk") ?_
  rw [show (A.length:Int)+1=((A.length+1:Nat):Int) by omega]
  exact ZA2 (SqL.of pa.hfs) (ZCX (by rw [yAQ,ZBr];rfl)) q
theorem ok_Pile_is_due_beneath {f:Addr} {fd:FuncData} (F:Fun K "is_due_beneath" "Pile.is_due_beneath" ZAU f fd) (T:Bt K mg C_Join C_Pile C_Asker C_AskedRule)
 :FnOk P w K mg base CX0 1 f fd ["self"] (ZD1 C_Pile):=by
 refine F.ok sc_Pile_is_due_beneath (fun vs H Q E h=>?_) (fun cdv A outer s H vs Q E hr h=>?_)
 .obtain ⟨x,a,fs,od,gr,ls,s,e,r,oa,ps,gs,rfl,pa,q⟩:=h
  rfl
 obtain ⟨x,a,fs,od,gr,ls,s,e,r,oa,ps,gs,rfl,pa,q⟩:=h
 refine ⟨_,(ZAI (ZAX (pe_and (ZB0 ZDW (ZAT ZAO rfl T.b_len PySem.boot_len (ZAA (ZAM (pv 0) rfl) ZAE)) ZAG (ZAV _)) (pe_one (ZB0 ZDW (ZAc ZAe (ZAM (pv 0) rfl) (ZD3 ZDY ZAG) (fun _ _=>rfl)) (ZAc ZAe (ZAM (pv 0) rfl) (ZD3 ZDY ZAG) (fun _ _=>rfl)) (ZAV _)))))),?_⟩
 walk_at "rd"
 refine pa.hp.get T.cl_Pile T.n_Pile_grades (by walk_at "lk") ⟨gr,_,rfl,.inl (SqL.of pa.hgr),?_⟩
 rw [yAD]
 by_cases h2:2 <= gs.length
 .rw [if_pos (by omega)]
  obtain ⟨G,g1,g2,rfl⟩:=ZCJ h2
  have hg:=pa.hgr
  rw [show nL (G++[g1,g2])=nL G++[.int (g1:Nat),.int (g2:Nat)] by unfold nL;rw [yAT];rfl] at hg
  refine pa.hp.get T.cl_Pile T.n_Pile_grades (by walk_at "lk") (ZA2 (SqL.of hg) atI_m2 ?_)
  refine pa.hp.get T.cl_Pile T.n_Pile_grades (by walk_at "lk") ?_
  rw [show nL G++[V.int (g1:Nat),V.int (g2:Nat)]=(nL G++[.int (g1:Nat)])++[.int (g2:Nat)] by rw [yAL];rfl] at hg
  refine ZA2 (SqL.of hg) atI_m1 ⟨_,_,rfl,rfl,?_⟩
  rw [ZCw] at q
  have e:decide ((g2:Int) < g1)=decide (g2 < g1):=by rw [decide_eq_decide];omega
  rw [<- e] at q
  exact q
 .rw [if_neg (by omega)]
  rw [dueB_few (by omega)] at q
  exact q
theorem ok_Pile_grade_on_top {f:Addr} {fd:FuncData} (F:Fun K "grade_on_top" "Pile.grade_on_top" ZAY f fd) (T:Bt K mg C_Join C_Pile C_Asker C_AskedRule)
  (f_grade:Fn P w K mg base CX0 "grade" 1 ["many","first","middle","beyond"] (ZC8))
 :FnOk P w K mg base CX0 2 f fd ["self","middle","beyond"] (ZC6 C_Pile):=by
 refine F.ok sc_Pile_grade_on_top (fun vs H Q E h=>?_) (fun cdv A outer s H vs Q E hr h=>?_)
 .obtain ⟨x,a,fs,od,gr,ls,s,e,r,oa,A,p,gs,m,b,rfl,pa,h1,h2,h3,h4,h5,q⟩:=h
  rfl
 obtain ⟨x,a,fs,od,gr,ls,s,e,r,oa,A,p,gs,m,b,rfl,pa,h1,h2,h3,h4,h5,q⟩:=h
 refine ⟨_,(ZAI (ZAX (ZB8 f_grade (hr.mono (by decide)) rfl ZAa (ZAA (ZAQ ZA6 (ZAM (pv 0) rfl) (ZAM (pv 0) rfl)) (ZAA (ZAQ ZA6 (ZAc ZAe (ZAM (pv 0) rfl) (ZD3 ZDY ZAG) (fun _ _=>rfl)) (ZAM (pv 0) rfl)) (ZAA (ZAQ ZA6 (pv 1) (ZAM (pv 0) rfl)) (ZAA (ZAQ ZA6 (pv 2) (ZAM (pv 0) rfl)) ZAE))))))),?_⟩
 walk_at "rd"
 have hf:=pa.hfs
 rw [yAT,show nL (A.map Prod.fst++[p].map Prod.fst)=nL (A.map Prod.fst)++[.int (p.1:Nat)] by unfold nL;rw [yAT];rfl] at hf
 refine pa.hp.get T.cl_Pile T.n_Pile_end (by walk_at "lk") (pa.hp.get T.cl_Pile T.n_Pile_start (by walk_at "lk") ⟨_,_,rfl,rfl,?_⟩)
 refine pa.hp.get T.cl_Pile T.n_Pile_firsts (by walk_at "lk") (ZA2 (SqL.of hf) atI_m1 (pa.hp.get T.cl_Pile T.n_Pile_start (by walk_at "lk") ⟨_,_,rfl,rfl,?_⟩))
 refine pa.hp.get T.cl_Pile T.n_Pile_start (by walk_at "lk") ⟨_,_,rfl,rfl,pa.hp.get T.cl_Pile T.n_Pile_start (by walk_at "lk") ⟨_,_,rfl,rfl,?_⟩⟩
 exact ⟨_,_,_,_,rfl,by omega,by omega,by omega,by omega,by omega,by omega,q⟩
theorem ok_Pile_join_two {f:Addr} {fd:FuncData} (F:Fun K "join_two" "Pile.join_two" ZAs f fd) (T:Bt K mg C_Join C_Pile C_Asker C_AskedRule)
  (f_joined:Fn P w K mg base CX0 "joined" 6 ["asker","left","right"] (ZCl C_Asker C_AskedRule))
  (t_Pile_beyond_of:Mt P w K mg base CX0 C_Pile "beyond_of" 1 ["self","number"] (ZBm C_Pile))
 :FnOk P w K mg base CX0 7 f fd ["self","lower"] (ZCQ C_Asker C_AskedRule C_Pile):=by
 refine F.ok sc_Pile_join_two (fun vs H Q E h=>?_) (fun cdv A outer s H vs Q E hr h=>?_)
 .obtain ⟨ks,xs,a,rl,ru,tl,g,lg,x,fs,od,gr,pr,ls,s,e,r,oa,A,v1,v2,o1,o2,B,gs,rfl,st,pa,px,ch,hgl,hrk,hk,hpr,q⟩:=h
  rfl
 obtain ⟨ks,xs,a,rl,ru,tl,g,lg,x,fs,od,gr,pr,ls,s,e,r,oa,A,v1,v2,o1,o2,B,gs,rfl,st,pa,px,ch,hgl,hrk,hk,hpr,q⟩:=h
 refine ⟨_,(ZAB (ZAJ (i:=2) sc_Pile_join_two.nd rfl (by walk_at "o") (ZB8 f_joined (hr.mono (by decide)) rfl ZAa (ZAA (ZAM (pv 0) rfl) (ZAA (ZAc ZAe (ZAM (pv 0) rfl) (pv 1) (fun _ _=>rfl)) (ZAA (ZAc ZAe (ZAM (pv 0) rfl) (ZAQ ZAq (pv 1) ZAG) (fun _ _=>rfl)) ZAE)))))
  (ZAW
  (ZAB (ZAJ (i:=3) sc_Pile_join_two.nd rfl (by walk_at "o") (ZBu (ZAA ZDL (ZAA (ZAc ZAe (ZAM (pv 0) rfl) (pv 1) (fun _ _=>rfl)) (ZAA (ZAc ZAe (ZAM (pv 0) rfl) (ZAQ ZAq (pv 1) ZAG) (fun _ _=>rfl)) (ZAA (ZBI t_Pile_beyond_of (hr.mono (by decide)) ZAa (pv 0) (ZAA (ZAQ ZAq (pv 1) ZAG) ZAE)) ZAE))))))
  (ZAW
  (ZAB (ps_asg (pv 2) (pg_sub (ZAM (pv 0) rfl) (pv 1) set_list))
  (ZAB (ZAu (ZCI PySem.F.plainAttrs_list PySem.F.slot_list_pop PySem.F.type_list_pop ZCu (ZAM (pv 0) rfl) (ZAA (ZAQ ZAq (pv 1) ZAG) ZAE)))
  (ZAB (ZAu (ZCI PySem.F.plainAttrs_list PySem.F.slot_list_pop PySem.F.type_list_pop ZCu (ZAM (pv 0) rfl) (ZAA (ZAQ ZAq (pv 1) ZAG) ZAE)))
  (ZAB (ZAu (ZCI PySem.F.plainAttrs_list PySem.F.slot_list_pop PySem.F.type_list_pop ZCu (ZAM (pv 0) rfl) (ZAA (pv 1) ZAE)))
  (ZAI (ZAX (pv 3))))))))))),?_⟩
 walk_at "rd"
 obtain ⟨OA,b1,b2,OB,rfl,hoa,at1,hb1,hb2,at2⟩:=pa.oat.two
 obtain ⟨v3,c1,c2,c3,c4,c5,c6,c7⟩:=ch.two
 have l1:=c4.len
 have l2:=c5.len
 have l6:=c6.le
 have hlr:(OA.map V.ref).length <= 63:=by rw [yAD,hoa];have:=c1.le;omega
 have m1:b1∈OA++b1::b2::OB:=yAV _ yAE
 have m2:b2∈OA++b1::b2::OB:=yAV _ (yAC _ yAE)
 refine pa.hp.get T.cl_Pile T.n_Pile_asker (by walk_at "lk") (pa.hp.get T.cl_Pile T.n_Pile_orders (by walk_at "lk") (ZA2 (SqL.of pa.hod) (atI_refs (b:=b1) (by rw [<- hoa];exact ZA5 ..)) ?_))
 refine pa.hp.get T.cl_Pile T.n_Pile_orders (by walk_at "lk") ?_
 rw [show (A.length:Int)+1=((A.length+1:Nat):Int) by omega]
 refine ZA2 (SqL.of pa.hod) (atI_refs (b:=b2) (by rw [<- hoa];exact ZBr ..)) ?_
 refine ⟨ks,xs,a,rl,ru,tl,g,lg,b1,b2,pr,o1,o2,rfl,st,hb1,hb2,by omega,by omega,fun u hu=>by have:=(c4.mem u).mp hu;omega,fun u hu=>by have:=(c5.mem u).mp hu;omega,fun u hu v hv=>by have:=(c4.mem u).mp hu;have:=(c5.mem v).mp hv;omega,by omega,by omega,fun l H1 o L fr1 hl0 hl1 hJ st1=>?_⟩
 have pa1:=pa.fr fr1 px.n1 px.n2
 refine ZAj ?_
 walk_at "rd"
 refine pa1.hp.get T.cl_Pile T.n_Pile_firsts (by walk_at "lk") (ZA2 (SqL.of pa1.hfs) (ZCX (o:=v1) (by rw [yAQ,ZA5];rfl)) ?_)
 refine pa1.hp.get T.cl_Pile T.n_Pile_firsts (by walk_at "lk") ?_
 rw [show (A.length:Int)+1=((A.length+1:Nat):Int) by omega]
 refine ZA2 (SqL.of pa1.hfs) (ZCX (o:=v2) (by rw [yAQ,ZBr];rfl)) ?_
 refine pa1.hp.meth (by walk_at "lk") ⟨x,a,fs,od,gr,ls,s,e,r,_,A++[(v1,o1)],(v2,o2),B,gs,by rw [yAB];rfl,by rw [yAL];exact pa1,?_⟩
 refine ⟨ZAd (by decide),fun t ht=>?_⟩
 obtain ⟨H2,e2,s2,h2⟩:=newH ht (.tup [.str "join",.int (v1:Nat),.int (v2:Nat),.int (bB B r:Nat)])
 rw [e2];clear e2
 have pa2:=pa1.mono s2
 have st2:=st1.mono s2
 refine ZAj ?_
 walk_at "rd"
 have nxl:=pa2.xl
 have nx1:x≠fs:=fun z=>nxl (by rw [z];exact yAE)
 have nx2:x≠od:=fun z=>nxl (by rw [z];exact yAC _ yAE)
 have nx3:x≠gr:=fun z=>nxl (by rw [z];exact yAC _ (yAC _ yAE))
 obtain ⟨ne1,ne2,ne3⟩:=pa.ne
 refine pa2.hp.get T.cl_Pile T.n_Pile_orders (by walk_at "lk") ⟨od,_,_,_,rfl,rfl,pa2.hod,ixN_of (by omega) (by rw [yAD,yAB,yAG];omega),?_⟩
 rw [Int.toNat_natCast,yAT,yAX,yAX,show A.length=(OA.map V.ref).length by rw [yAD,hoa],set_mid]
 have hp3:Ins (upd H2 od (.lst (OA.map V.ref++.ref l::.ref b2::OB.map V.ref))) x C_Pile (fPl a ls s e r fs od gr):=pa2.hp.keep (ZAF nx2)
 refine hp3.get T.cl_Pile T.n_Pile_orders (by walk_at "lk") ?_
 walk_at "rd"
 refine ⟨.inl ⟨rfl,_,SqL.of ZAH⟩,od,_,_,(OA.map V.ref).length+1,_,rfl,rfl,ZAH,by omega,by omega,?_,ZBr ..,?_⟩
 .rw [show ((OA.map V.ref).length:Int)+1=(((OA.map V.ref).length+1:Nat):Int) by omega]
  exact PySem.StrLaws.seqIndex_nonneg (by omega) (by rw [yAB,yAG,yAG];omega)
 rw [er_mid2,upd_upd]
 have hp4:Ins (upd H2 od (.lst (OA.map V.ref++.ref l::OB.map V.ref))) x C_Pile (fPl a ls s e r fs od gr):=pa2.hp.keep (ZAF nx2)
 have hf4:upd H2 od (.lst (OA.map V.ref++.ref l::OB.map V.ref)) fs=some (.lst (nL (A.map Prod.fst)++.int (v1:Nat)::.int (v2:Nat)::nL (B.map Prod.fst))):=by
  rw [ZAF ne1,pa2.hfs,yAT];unfold nL;rw [yAT];rfl
 have la:(nL (A.map Prod.fst)).length=(OA.map V.ref).length:=by rw [yAD,yAD,yAD,hoa]
 refine hp4.get T.cl_Pile T.n_Pile_firsts (by walk_at "lk") ?_
 walk_at "rd"
 refine ⟨.inl ⟨rfl,_,SqL.of hf4⟩,fs,_,_,(nL (A.map Prod.fst)).length+1,_,rfl,rfl,hf4,by omega,by omega,?_,ZBr ..,?_⟩
 .rw [<- la,show ((nL (A.map Prod.fst)).length:Int)+1=(((nL (A.map Prod.fst)).length+1:Nat):Int) by omega]
  exact PySem.StrLaws.seqIndex_nonneg (by omega) (by rw [yAB,yAG,yAG];omega)
 rw [er_mid2]
 have hp5:Ins (upd (upd H2 od (.lst (OA.map V.ref++.ref l::OB.map V.ref))) fs (.lst (nL (A.map Prod.fst)++.int (v1:Nat)::nL (B.map Prod.fst)))) x C_Pile (fPl a ls s e r fs od gr):=hp4.keep (ZAF nx1)
 have hg5:upd (upd H2 od (.lst (OA.map V.ref++.ref l::OB.map V.ref))) fs (.lst (nL (A.map Prod.fst)++.int (v1:Nat)::nL (B.map Prod.fst))) gr=some (.lst (nL gs)):=by rw [ZAF (Ne.symm ne2),ZAF (Ne.symm ne3)];exact pa2.hgr
 refine hp5.get T.cl_Pile T.n_Pile_grades (by walk_at "lk") ?_
 walk_at "rd"
 refine ⟨.inl ⟨rfl,_,SqL.of hg5⟩,gr,_,_,A.length,.int (gs[A.length]:Nat),rfl,rfl,hg5,by omega,by omega,?_,by rw [yAQ,yAR hgl];rfl,?_⟩
 .rw [show (OA.map V.ref).length=A.length by rw [yAD,hoa]]
  exact PySem.StrLaws.seqIndex_nonneg (by omega) (by rw [yAD];omega)
 rw [er_map]
 have F3:Fr [fs,od,gr] H2 (upd (upd (upd H2 od (.lst (OA.map V.ref++.ref l::OB.map V.ref))) fs (.lst (nL (A.map Prod.fst)++.int (v1:Nat)::nL (B.map Prod.fst)))) gr (.lst (nL (gs.eraseIdx A.length)))):=((Fr.upd (yAC _ yAE)).trans (Fr.upd yAE)).trans (Fr.upd (yAC _ (yAC _ yAE)))
 have hp6:Ins (upd (upd (upd H2 od (.lst (OA.map V.ref++.ref l::OB.map V.ref))) fs (.lst (nL (A.map Prod.fst)++.int (v1:Nat)::nL (B.map Prod.fst)))) gr (.lst (nL (gs.eraseIdx A.length)))) x C_Pile (fPl a ls s e r fs od gr):=hp5.keep (ZAF nx3)
 have hf6:(upd (upd (upd H2 od (.lst (OA.map V.ref++.ref l::OB.map V.ref))) fs (.lst (nL (A.map Prod.fst)++.int (v1:Nat)::nL (B.map Prod.fst)))) gr (.lst (nL (gs.eraseIdx A.length)))) fs=some (.lst (nL (A.map Prod.fst)++.int (v1:Nat)::nL (B.map Prod.fst))):=by rw [ZAF ne2,ZAH]
 have ho6:(upd (upd (upd H2 od (.lst (OA.map V.ref++.ref l::OB.map V.ref))) fs (.lst (nL (A.map Prod.fst)++.int (v1:Nat)::nL (B.map Prod.fst)))) gr (.lst (nL (gs.eraseIdx A.length)))) od=some (.lst (OA.map V.ref++.ref l::OB.map V.ref)):=by rw [ZAF ne3,ZAF (Ne.symm ne1),ZAH]
 have hg6:(upd (upd (upd H2 od (.lst (OA.map V.ref++.ref l::OB.map V.ref))) fs (.lst (nL (A.map Prod.fst)++.int (v1:Nat)::nL (B.map Prod.fst)))) gr (.lst (nL (gs.eraseIdx A.length)))) gr=some (.lst (nL (gs.eraseIdx A.length))):=ZAH
 generalize (upd (upd (upd H2 od (.lst (OA.map V.ref++.ref l::OB.map V.ref))) fs (.lst (nL (A.map Prod.fst)++.int (v1:Nat)::nL (B.map Prod.fst)))) gr (.lst (nL (gs.eraseIdx A.length))))=H3 at F3 hp6 hf6 ho6 hg6 ⊢
 have nl3:l∉[fs,od,gr]:=fun z=>by obtain ⟨y,hy⟩:=pa.lsts l z;rw [hy] at hl0;cases hl0
 have nt3:t∉[fs,od,gr]:=fun z=>by obtain ⟨y,hy⟩:=pa1.lsts t z;rw [hy] at ht;cases ht
 have nb':∀ b∈OA++l::OB,b∉[fs,od,gr] /\ b∉[a,lg,tl] /\ (b∈OA++b1::b2::OB∨H b=none):=fun b hb=>by
  rcases yBC.mp hb with z | z
  .have m:=yBK (b1::b2::OB) z
   exact ⟨pa.nb b m,px.n2 b m,.inl m⟩
  rcases yAF.mp z with z | z
  .rw [z];exact ⟨nl3,st.newS hl0,.inr hl0⟩
  .have m:b∈OA++b1::b2::OB:=yAV _ (yAC _ (yAC _ z))
   exact ⟨pa.nb b m,px.n2 b m,.inl m⟩
 have kp:∀ b∈OA++b1::b2::OB,∀ o,H b=some o->H3 b=some o:=fun b hb o h=>F3 _ _ (pa.nb b hb) (s2 _ _ (fr1 _ _ (px.n2 b hb) h))
 refine q t H3 o L (OA++l::OB) hJ ⟨fun b o n h=>?_,fun b hb=>(nb' b hb).2.2,F3 _ _ nt3 h2,⟨hp6,?_,?_,hg6,?_,pa.ne,fun b hb=>(nb' b hb).1⟩,⟨px.n1,fun b hb=>(nb' b hb).2.1,px.n3,px.nr⟩,?_⟩
 .refine F3 _ _ (fun z=>n (yAC _ ?_)) (s2 _ _ (fr1 _ _ (fun z=>n (yAC _ (yAC _ (yAC _ (yAC _ z))))) h))
  exact yBK [a,lg,tl] z
 .rw [hf6,yAT];unfold nL;rw [yAT];rfl
 .rw [ho6,yAT];rfl
 .exact (at1.keep fun b hb=>kp b (yBK _ hb)).app ⟨F3 _ _ nl3 (s2 _ _ hl1),at2.keep fun b hb=>kp b (yAV _ (yAC _ (yAC _ hb)))⟩
 .refine st2.apart F3 pa2.lsts ⟨px.n3,?_,?_⟩
  .intro z
   obtain ⟨w1,w2,w3,w4⟩:=px.n1
   rcases yAF.mp z with z | z
   .exact w2 (by rw [<- z];exact yAC _ yAE)
   rcases yAF.mp z with z | z
   .exact w3 (by rw [<- z];exact yAC _ yAE)
   .exact w4 (by rw [<- yAS.mp z];exact yAC _ yAE)
  .intro z
   obtain ⟨w1,w2,w3,w4⟩:=px.n1
   rcases yAF.mp z with z | z
   .exact w2 (by rw [<- z];exact yAC _ (yAC _ yAE))
   rcases yAF.mp z with z | z
   .exact w3 (by rw [<- z];exact yAC _ (yAC _ yAE))
   .exact w4 (by rw [<- yAS.mp z];exact yAC _ (yAC _ yAE))
theorem ok_Pile_lay {f:Addr} {fd:FuncData} (F:Fun K "lay" "Pile.lay" ZBL f fd) (T:Bt K mg C_Join C_Pile C_Asker C_AskedRule)
  (f_filled:Fn P w K mg base CX0 "filled" 5 ["asker","first","least","end"] (ZCo C_Asker C_AskedRule))
  (t_Pile_grade_on_top:Mt P w K mg base CX0 C_Pile "grade_on_top" 2 ["self","middle","beyond"] (ZC6 C_Pile))
 :FnOk P w K mg base CX0 6 f fd ["self"] (ZD0 C_Asker C_AskedRule C_Pile):=by
 refine F.ok sc_Pile_lay (fun vs H Q E h=>?_) (fun cdv A outer s H vs Q E hr h=>?_)
 .obtain ⟨ks,xs,a,rl,ru,tl,g,lg,x,fs,od,gr,pr,ls,s,e,r,oa,ps,gs,rfl,st,pa,px,pi,hdue,hre,hek,hk,hls,hpr,q⟩:=h
  rfl
 obtain ⟨ks,xs,a,rl,ru,tl,g,lg,x,fs,od,gr,pr,ls,s,e,r,oa,ps,gs,rfl,st,pa,px,pi,hdue,hre,hek,hk,hls,hpr,q⟩:=h
 refine ⟨_,(ZAB (ZAJ (i:=1) sc_Pile_lay.nd rfl (by walk_at "o") (ZAM (pv 0) rfl))
  (ZAB (ZAJ (i:=2) sc_Pile_lay.nd rfl (by walk_at "o") (ZB8 f_filled (hr.mono (by decide)) rfl ZAa (ZAA (ZAM (pv 0) rfl) (ZAA (pv 1) (ZAA (ZAM (pv 0) rfl) (ZAA (ZAM (pv 0) rfl) ZAE))))))
  (ZAW
  (ZAB (ZAJ (i:=3) sc_Pile_lay.nd rfl (by walk_at "o") (ZAQ ZAq (pv 1) (ZAT ZAO rfl T.b_len PySem.boot_len (ZAA (ZAc ZAw (pv 2) ZAG (fun _ _=>rfl)) ZAE))))
  (ZAW
  (ZAB (ZBU (pt_lst (ZAM (pv 0) rfl))
  (ZAI (ZAu (ZCI PySem.F.plainAttrs_list PySem.F.slot_list_append PySem.F.type_list_append ZBc (ZAM (pv 0) rfl) (ZAA (ZBI t_Pile_grade_on_top (hr.mono (by decide)) ZAa (pv 0) (ZAA (pv 1) (ZAA (pv 3) ZAE))) ZAE)))) ZAx)
  (ZAW
  (ZAB (ZAu (ZCI PySem.F.plainAttrs_list PySem.F.slot_list_append PySem.F.type_list_append ZBc (ZAM (pv 0) rfl) (ZAA (pv 1) ZAE)))
  (ZAB (ZAu (ZCI PySem.F.plainAttrs_list PySem.F.slot_list_append PySem.F.type_list_append ZBc (ZAM (pv 0) rfl) (ZAA (ZAc ZAw (pv 2) ZAG (fun _ _=>rfl)) ZAE)))
  (ZAB (ZBC (pv 0) (pv 3) rfl)
  (ZAI (ZAX (ZBu (ZAA ZDL (ZAA (pv 1) (ZAA (ZAc ZAw (pv 2) ZAG (fun _ _=>rfl)) (ZAA (pv 3) ZAE))))))))))))))))),?_⟩
 walk_at "rd"
 have hcl:=pi.ch.le
 refine pa.hp.get T.cl_Pile T.n_Pile_reached (by walk_at "lk") (pa.hp.get T.cl_Pile T.n_Pile_asker (by walk_at "lk") (pa.hp.get T.cl_Pile T.n_Pile_least (by walk_at "lk") (pa.hp.get T.cl_Pile T.n_Pile_end (by walk_at "lk") ?_)))
 refine ⟨ks,xs,a,rl,ru,tl,g,lg,pr,r,ls,e,.int e,rfl,st,by omega,.inr rfl,hre,hek,by omega,hls,fun H1 t ol j f os l fr1 hol0 nol ht hol hb hput st1=>?_⟩
 have pa1:=pa.fr fr1 px.n1 px.n2
 have hj:=hb.two
 obtain ⟨o1,_⟩:=hput.all (first:=r) (asks r (min (j+1) e)) (by omega) hb.ord
 obtain ⟨v3,ev3⟩:∃ v3,v3=max j (min (r+ls) e):=⟨_,rfl⟩
 rw [<- ev3] at o1
 have hv3:r < v3 /\ v3 <= e:=by omega
 have hol1:=o1.len
 refine ZAj ?_
 walk_at "rd"
 refine ZAv (SqT.of ht) (ZAh (by decide) rfl) ⟨ol,_,rfl,.inl (SqL.of hol),?_⟩
 rw [yAD]
 walk_at "rd"
 rw [show (r:Int)+(os.length:Int)=(v3:Nat) by omega]
 refine ZAj ?_
 walk_at "rd"
 have nt3:t∉[fs,od,gr]:=fun z=>by obtain ⟨y,hy⟩:=pa1.lsts t z;rw [hy] at ht;cases ht
 have nol3:ol∉[fs,od,gr]:=fun z=>by obtain ⟨y,hy⟩:=pa.lsts ol z;rw [hy] at hol0;cases hol0
 apply ZDB (fun X:Hp=>∃ gs',((ps=[] /\ gs'=gs)∨∃ A p g,ps=A++[p] /\ gs'=gs++[g] /\ Gr.IsG ((e:Int)-s) (((p.1:Int)-s)+((r:Int)-s)) (((r:Int)-s)+((v3:Int)-s)) g /\ g <= 240) /\ PileAt C_Pile X x a fs od gr ls s e r oa ps gs' /\ Fr [fs,od,gr] H1 X)
 .intro tailp
  refine pa1.hp.get T.cl_Pile T.n_Pile_firsts (by walk_at "lk") ⟨fs,_,rfl,SqL.of pa1.hfs,?_⟩
  by_cases hps:ps≠[]
  .obtain ⟨A,p,rfl⟩:∃ A p,ps=A++[p]:=⟨ps.dropLast,ps.getLast hps,(List.dropLast_concat_getLast _).symm⟩
   rw [if_pos (by simp)]
   obtain ⟨m,c1,c2,m2,c3,c4,c5⟩:=Ch.app.mp pi.ch
   have c5:m2=r:=c5
   have c1':=c1.le
   have hgl:=pi.gl
   rw [yAB,yAN] at hgl hcl
   refine pa1.hp.get T.cl_Pile T.n_Pile_grades (by walk_at "lk") ?_
   walk_at "rd"
   refine ⟨.inl ⟨rfl,_,SqL.of pa1.hgr⟩,pa1.hp.meth (by walk_at "lk") ⟨x,a,fs,od,gr,ls,s,e,r,oa,A,p,gs,r,v3,rfl,pa1,by omega,by omega,by omega,by omega,by omega,fun gg hg1 hg2=>?_⟩⟩
   refine ⟨gr,_,_,rfl,rfl,pa1.hgr,ZBW (by rw [yAD];omega),?_⟩
   have F:Fr [fs,od,gr] H1 (upd H1 gr (.lst (nL gs++[.int (gg:Nat)]))):=Fr.upd (yAC _ (yAC _ yAE))
   have P:PileAt C_Pile (upd H1 gr (.lst (nL gs++[.int (gg:Nat)]))) x a fs od gr ls s e r oa (A++[p]) (gs++[gg]):=⟨ZC2 F pa1.xl pa1.hp,by rw [ZAF pa1.ne.2.1];exact pa1.hfs,by rw [ZAF pa1.ne.2.2];exact pa1.hod,by rw [ZAH];unfold nL;rw [yAT];rfl,pa1.oat.keep fun b hb o h=>F _ _ (pa1.nb b hb) h,pa1.ne,pa1.nb⟩
   generalize upd H1 gr (.lst (nL gs++[.int (gg:Nat)]))=X at F P ⊢
   exact tailp X ⟨gs++[gg],.inr ⟨A,p,gg,rfl,rfl,hg1,hg2⟩,P,F⟩
  .have hps:ps=[]:=Classical.byContradiction hps
   rw [if_neg (by rw [hps];simp)]
   exact tailp H1 ⟨gs,.inl ⟨hps,rfl⟩,pa1,.refl⟩
 rintro X ⟨gs',hgr',paX,FX⟩
 have htX:=FX _ _ nt3 ht
 have holX:=FX _ _ nol3 hol
 have hoal:=paX.oat.len
 have nxl:=paX.xl
 have nx1:x≠fs:=fun z=>nxl (by rw [z];exact yAE)
 have nx2:x≠od:=fun z=>nxl (by rw [z];exact yAC _ yAE)
 have nx3:x≠gr:=fun z=>nxl (by rw [z];exact yAC _ (yAC _ yAE))
 obtain ⟨ne1,ne2,ne3⟩:=paX.ne
 refine ZAj ?_
 walk_at "rd"
 refine paX.hp.get T.cl_Pile T.n_Pile_firsts (by walk_at "lk") ?_
 walk_at "rd"
 refine ⟨.inl ⟨rfl,_,SqL.of paX.hfs⟩,fs,_,_,rfl,rfl,paX.hfs,ZBW (by rw [yAD,yAD];omega),?_⟩
 obtain ⟨us,eus⟩:∃ us,nL (ps.map Prod.fst)++[.int (r:Nat)]=us:=⟨_,rfl⟩
 rw [eus]
 have hp3:Ins (upd X fs (.lst us)) x C_Pile (fPl a ls s e r fs od gr):=paX.hp.keep (ZAF nx1)
 have hod3:upd X fs (.lst us) od=some (.lst (oa.map V.ref)):=by rw [ZAF (Ne.symm ne1)];exact paX.hod
 refine hp3.get T.cl_Pile T.n_Pile_orders (by walk_at "lk") ?_
 walk_at "rd"
 refine ⟨.inl ⟨rfl,_,SqL.of hod3⟩,ZAv (SqT.of (by rw [ZAF (fun z=>nt3 (by rw [z];exact yAE))];exact htX)) (ZAh (by decide) rfl) ⟨od,_,_,rfl,rfl,hod3,ZBW (by rw [yAD];omega),?_⟩⟩
 have F2:Fr [fs,od,gr] X (upd (upd X fs (.lst us)) od (.lst (oa.map V.ref++[.ref ol]))):=(Fr.upd yAE).trans (Fr.upd (yAC _ yAE))
 have hp4:Ins (upd (upd X fs (.lst us)) od (.lst (oa.map V.ref++[.ref ol]))) x C_Pile (fPl a ls s e r fs od gr):=hp3.keep (ZAF nx2)
 have hf4:(upd (upd X fs (.lst us)) od (.lst (oa.map V.ref++[.ref ol]))) fs=some (.lst us):=by rw [ZAF ne1,ZAH]
 have ho4:(upd (upd X fs (.lst us)) od (.lst (oa.map V.ref++[.ref ol]))) od=some (.lst (oa.map V.ref++[.ref ol])):=ZAH
 have hg4:(upd (upd X fs (.lst us)) od (.lst (oa.map V.ref++[.ref ol]))) gr=some (.lst (nL gs')):=by rw [ZAF (Ne.symm ne3),ZAF (Ne.symm ne2)];exact paX.hgr
 generalize (upd (upd X fs (.lst us)) od (.lst (oa.map V.ref++[.ref ol])))=Y at F2 hp4 hf4 ho4 hg4 ⊢
 refine hp4.set T.cl_Pile T.n_Pile_reached (fun Z hpZ kZ=>?_) ⟨_,by walk_at "lk"⟩
 have ltop:∀ {b:Addr} {us:List V},Y b=some (.lst us)->Z b=some (.lst us):=fun {b us} h=>by rw [kZ b (hp4.ne h fun _ _ _ z=>by cases z)];exact h
 have htY:=F2 _ _ nt3 htX
 have htZ:Z t=some (.tup [.int (j:Nat),.ref ol]):=by rw [kZ t (hp4.ne htY fun _ _ _ z=>by cases z)];exact htY
 walk_at "rd"
 refine ZAv (SqT.of htZ) (ZAh (by decide) rfl) ⟨ZAd (by decide),fun t2 ht2=>?_⟩
 obtain ⟨W,eW,sW,hW⟩:=newH ht2 (.tup [.str "lay",.int (r:Nat),.int (j:Nat),.int (v3:Nat)])
 rw [eW];clear eW
 have FY:Fr [fs,od,gr] H1 Y:=FX.trans F2
 have nb':∀ b∈oa++[ol],b∉[fs,od,gr] /\ b∉[a,lg,tl] /\ (b∈oa∨H b=none):=fun b hb=>by
  rcases yBC.mp hb with z | z
  .exact ⟨pa.nb b z,px.n2 b z,.inl z⟩
  .rw [yAS.mp z];exact ⟨nol3,nol,.inr hol0⟩
 have oatW:OrdAt W (oa++[ol]) (ps++[(r,os)]):=by
  refine OrdAt.app ?_ ⟨sW _ _ (ltop (F2 _ _ nol3 holX)),trivial⟩
  refine paX.oat.keep fun b hb o h=>sW _ _ ?_
  obtain ⟨i,hi⟩:=List.getElem?_of_mem hb
  obtain ⟨p',_,hp'⟩:=paX.oat.get hi
  have e1:o=.lst (nL p'.2):=Option.some.inj (h.symm.trans hp')
  rw [e1]
  exact ltop (F2 _ _ (paX.nb b hb) hp')
 obtain ⟨dx,fl,hxY,_,_⟩:=hp4.ex
 have stY:SitL C_Asker C_AskedRule Y ks xs a rl ru tl g lg (pr++(asks r (min (j+1) e)++l)):=st1.apart FY pa1.lsts ⟨px.n3,fun z=>(by
   obtain ⟨w1,w2,w3,w4⟩:=px.n1
   rcases yAF.mp z with z | z
   .exact w2 (by rw [<- z];exact yAC _ yAE)
   rcases yAF.mp z with z | z
   .exact w3 (by rw [<- z];exact yAC _ yAE)
   .exact w4 (by rw [<- yAS.mp z];exact yAC _ yAE)),fun z=>by
   obtain ⟨w1,w2,w3,w4⟩:=px.n1
   rcases yAF.mp z with z | z
   .exact w2 (by rw [<- z];exact yAC _ (yAC _ yAE))
   rcases yAF.mp z with z | z
   .exact w3 (by rw [<- z];exact yAC _ (yAC _ yAE))
   .exact w4 (by rw [<- yAS.mp z];exact yAC _ (yAC _ yAE))⟩
 have stZ:=stY.butN hxY px.n1.1 px.nr (H':=Z) fun b o n h=>by rw [kZ b n];exact h
 refine q t2 W j v3 _ (oa++[ol]) (ps++[(r,os)]) gs' f os l ⟨rfl,hre,hb,hput,rfl,ev3,rfl,rfl,hdue,hgr'⟩ ⟨fun b o n h=>?_,fun b hb=>(nb' b hb).2.2,hW,⟨?_,?_,?_,?_,oatW,paX.ne,fun b hb=>(nb' b hb).1⟩,⟨px.n1,fun b hb=>(nb' b hb).2.1,px.n3,px.nr⟩,stZ.mono sW⟩
 .refine sW _ _ ?_
  rw [kZ b (fun z=>n (by rw [z];exact yAE))]
  refine FY _ _ (fun z=>n (yAC _ (yBK [a,lg,tl] z))) (fr1 _ _ (fun z=>n (yAC _ (yAC _ (yAC _ (yAC _ z))))) h)
 .exact (hpZ.congr fPl_reached).mono sW
 .refine sW _ _ (ltop ?_)
  rw [hf4,<- eus,yAT];unfold nL;rw [yAT];rfl
 .refine sW _ _ (ltop ?_)
  rw [ho4,yAT];rfl
 .exact sW _ _ (ltop hg4)
theorem ok_Pile_step {f:Addr} {fd:FuncData} (F:Fun K "step" "Pile.step" ZBE f fd) (T:Bt K mg C_Join C_Pile C_Asker C_AskedRule)
  (t_Pile_is_due_beneath:Mt P w K mg base CX0 C_Pile "is_due_beneath" 1 ["self"] (ZD1 C_Pile))
  (t_Pile_join_two:Mt P w K mg base CX0 C_Pile "join_two" 7 ["self","lower"] (ZCQ C_Asker C_AskedRule C_Pile))
  (t_Pile_lay:Mt P w K mg base CX0 C_Pile "lay" 6 ["self"] (ZD0 C_Asker C_AskedRule C_Pile))
 :FnOk P w K mg base CX0 8 f fd ["self"] (ZDG C_Asker C_AskedRule C_Pile):=by
 refine F.ok sc_Pile_step (fun vs H Q E h=>?_) (fun cdv A outer s H vs Q E hr h=>?_)
 .obtain ⟨ks,xs,a,rl,ru,tl,g,lg,x,fs,od,gr,pr,ls,s,e,r,oa,ps,gs,rfl,st,pa,px,pi,hek,hk,hls,hpr,q0,q⟩:=h
  rfl
 obtain ⟨ks,xs,a,rl,ru,tl,g,lg,x,fs,od,gr,pr,ls,s,e,r,oa,ps,gs,rfl,st,pa,px,pi,hek,hk,hls,hpr,q0,q⟩:=h
 refine ⟨_,(ZAB (ZBU (ZB7 (ZBj t_Pile_is_due_beneath (hr.mono (by decide)) ZAa (pv 0)))
  (ZAI (ZAX (ZBI t_Pile_join_two (hr.mono (by decide)) ZAa (pv 0) (ZAA (ZAQ ZA6 (ZAT ZAO rfl T.b_len PySem.boot_len (ZAA (ZAM (pv 0) rfl) ZAE)) ZAG) ZAE)))) ZAx)
  (ZAB (ZBU (ZAS ZCZ (ZAM (pv 0) rfl) (ZAM (pv 0) rfl) (ZAV _))
  (ZAI (ZAX (ZBj t_Pile_lay (hr.mono (by decide)) ZAa (pv 0)))) ZAx)
  (ZAB (ZBU (ZAS ZDW (ZAT ZAO rfl T.b_len PySem.boot_len (ZAA (ZAM (pv 0) rfl) ZAE)) ZAG (ZAV _))
  (ZAI (ZAX (ZBI t_Pile_join_two (hr.mono (by decide)) ZAa (pv 0) (ZAA (ZAQ ZA6 (ZAT ZAO rfl T.b_len PySem.boot_len (ZAA (ZAM (pv 0) rfl) ZAE)) ZAG) ZAE)))) ZAx)
  (ZAI (ZAX ZCR))))),?_⟩
 walk_at "rd"
 have hol:=pa.oat.len
 have hgl:=pi.gl
 have hcl:=pi.ch.le
 have hre:=pi.re
 refine pa.hp.meth (by walk_at "lk") ⟨x,a,fs,od,gr,ls,s,e,r,oa,ps,gs,rfl,pa,_,rfl,?_⟩
 cases hd:dueB gs with
 | true=>
  rw [if_pos rfl]
  have h2:2 <= gs.length:=Nat.lt_of_not_le fun z=>by rw [dueB_few z] at hd;cases hd
  obtain ⟨A',p2,p3,rfl⟩:=ZCJ (l:=ps) (by omega)
  rw [yAB] at hgl hol hcl
  have hA:1 <= A'.length:=by have:([p2,p3]:List (Nat×List Nat)).length=2:=rfl;omega
  obtain ⟨A,p1,rfl⟩:∃ A p1,A'=A++[p1]:=⟨A'.dropLast,A'.getLast (List.ne_nil_of_length_pos hA),(List.dropLast_concat_getLast _).symm⟩
  rw [yAL] at pa
  have pic:=pi.ch
  rw [yAL] at pic
  obtain ⟨v1,o1⟩:=p1
  obtain ⟨v2,o2⟩:=p2
  rw [yAB,yAN] at hgl hol hcl
  have t2:([(v2,o2),p3]:List (Nat×List Nat)).length=2:=rfl
  refine pa.hp.meth (by walk_at "lk") (pa.hp.get T.cl_Pile T.n_Pile_orders (by walk_at "lk") ⟨od,_,rfl,.inl (SqL.of pa.hod),?_⟩)
  refine ⟨ks,xs,a,rl,ru,tl,g,lg,x,fs,od,gr,pr,ls,s,e,r,oa,A,v1,v2,o1,o2,[p3],gs,?_,st,pa,px,pic,by omega,by omega,hk,hpr,fun t H' o L oa' hJ lf=>?_⟩
  .rw [yAD];congr 3;omega
  .exact q t H' true v1 v2 _ L oa' _ _ r (.inl ⟨rfl,rfl,A,o1,o2,o,[p3],⟨yAL ..,rfl,rfl,hJ,rfl,.inl ⟨hd,rfl⟩⟩⟩) lf
 | false=>
  rw [if_neg (by decide)]
  refine pa.hp.get T.cl_Pile T.n_Pile_reached (by walk_at "lk") (pa.hp.get T.cl_Pile T.n_Pile_end (by walk_at "lk") ⟨_,_,rfl,rfl,_,rfl,?_⟩)
  by_cases hlt:r < e
  .rw [if_pos (decide_eq_true (by omega))]
   refine pa.hp.meth (by walk_at "lk") ⟨ks,xs,a,rl,ru,tl,g,lg,x,fs,od,gr,pr,ls,s,e,r,oa,ps,gs,rfl,st,pa,px,pi,hd,hlt,hek,hk,hls,hpr,fun t H' v2 v3 L oa' ps' gs' f os l sl lf=>?_⟩
   exact q t H' false r v2 v3 L oa' ps' gs' v3 (.inr ⟨rfl,f,os,l,sl⟩) lf
  .rw [if_neg (by simp;omega)]
   have hre':r=e:=by omega
   refine pa.hp.get T.cl_Pile T.n_Pile_orders (by walk_at "lk") ⟨od,_,rfl,.inl (SqL.of pa.hod),?_⟩
   rw [yAD]
   by_cases h2:2 <= ps.length
   .rw [if_pos (by omega)]
    obtain ⟨A,p1,p2,rfl⟩:=ZCJ (l:=ps) h2
    obtain ⟨v1,o1⟩:=p1
    obtain ⟨v2,o2⟩:=p2
    rw [yAB] at hgl hol hcl
    have t2:([(v1,o1),(v2,o2)]:List (Nat×List Nat)).length=2:=rfl
    refine pa.hp.meth (by walk_at "lk") (pa.hp.get T.cl_Pile T.n_Pile_orders (by walk_at "lk") ⟨od,_,rfl,.inl (SqL.of pa.hod),?_⟩)
    refine ⟨ks,xs,a,rl,ru,tl,g,lg,x,fs,od,gr,pr,ls,s,e,r,oa,A,v1,v2,o1,o2,[],gs,?_,st,pa,px,pi.ch,by omega,by omega,hk,hpr,fun t H' o L oa' hJ lf=>?_⟩
    .rw [yAD];congr 3;omega
    .exact q t H' true v1 v2 _ L oa' _ _ r (.inl ⟨rfl,rfl,A,o1,o2,o,[],⟨rfl,rfl,rfl,hJ,rfl,.inr ⟨hd,hre',rfl⟩⟩⟩) lf
   .rw [if_neg (by omega)]
    exact q0 hd hre' (by omega)
theorem ok_Pile_paper {f:Addr} {fd:FuncData} (F:Fun K "paper" "Pile.paper" ZA8 f fd) (T:Bt K mg C_Join C_Pile C_Asker C_AskedRule)
 :FnOk P w K mg base CX0 1 f fd ["self"] (ZCi C_Pile):=by
 refine F.ok sc_Pile_paper (fun vs H Q E h=>?_) (fun cdv A outer s H vs Q E hr h=>?_)
 .obtain ⟨x,a,fs,od,gr,ls,s,e,r,oa,ps,gs,rfl,pa,hfl,hre,he,q⟩:=h
  rfl
 obtain ⟨x,a,fs,od,gr,ls,s,e,r,oa,ps,gs,rfl,pa,hfl,hre,he,q⟩:=h
 refine ⟨_,(ZAB (ZAJ (i:=1) sc_Pile_paper.nd rfl (by walk_at "o") (ZBa ZAE))
  (ZAB (ZDJ PassesOwn.never rfl (ZCs (ZAM (pv 0) rfl)) (ZBe (i:=2) sc_Pile_paper.nd rfl (by walk_at "o"))
  (ZAI (ZAu (ZCI PySem.F.plainAttrs_list PySem.F.slot_list_extend PySem.F.type_list_extend mt_extend (pv 1) (ZAA (pv 2) ZAE)))))
  (ZAI (ZAX (ZAQ ZDh (pv 1) (ZAn (ZBD rfl) rfl T.b_list PyProof.Rows.boot_list (ZAA (ZAn call_rng2 rfl T.b_range PyProof.Rows.boot_range (ZAA (ZAM (pv 0) rfl) (ZAA (ZAM (pv 0) rfl) ZAE))) ZAE))))))),?_⟩
 walk_at "rd"
 refine ⟨yAH _,fun p hp=>?_⟩
 obtain ⟨H1,e1,s1,h1⟩:=newH hp (.lst [])
 rw [e1];clear e1
 have pa1:=pa.mono s1
 have hol:=pa.oat.len
 refine pa1.hp.get T.cl_Pile T.n_Pile_orders (by walk_at "lk") ?_
 refine forL_of (SqL.of pa1.hod) (fun i σ X=>∃ v2,σ=[some (.ref x),some (.ref p),v2] /\ Same H X /\ X p=some (.lst (nL (flt (ps.take i))))) ⟨_,rfl,s1,h1⟩ (fun i σ X _ ⟨_,_,sX,_⟩=>SqL.of (sX _ _ pa.hod)) ?_ ?_
 .rintro i y σ X hy ⟨v2,rfl,sX,hX⟩
  obtain ⟨b,hb,rfl⟩:∃ b,oa[i]?=some b /\ y=.ref b:=by
   rw [yAQ] at hy
   cases hz:oa[i]? with
   | none=>rw [hz] at hy;cases hy
   | some b=>rw [hz] at hy;exact ⟨b,rfl,(Option.some.inj hy).symm⟩
  obtain ⟨p1,g1,g2⟩:=pa.oat.get hb
  have e1:flt (ps.take (i+1))=flt (ps.take i)++p1.2:=by
   rw [List.take_add_one,g1,flt_app]
   congr 1
   unfold flt
   simp
  have hle:(flt (ps.take i)).length+p1.2.length <= 63:=by
   have e2:flt ps=flt (ps.take (i+1))++flt (ps.drop (i+1)):=by rw [<- flt_app,List.take_append_drop]
   rw [e2,e1,yAB,yAB] at hfl
   omega
  walk_at "rd"
  refine ⟨.inl ⟨rfl,_,SqL.of hX⟩,p,b,_,_,rfl,rfl,hX,sX _ _ g2,ZAd (by rw [yAD,yAD];omega),?_⟩
  refine ⟨_,rfl,sX.upd hp,?_⟩
  rw [ZAH,e1]
  unfold nL
  rw [yAT]
 rintro σ X ⟨v2,rfl,sX,hX⟩
 rw [yAD,hol,List.take_length] at hX
 walk_at "rd"
 have paX:=pa.mono sX
 refine paX.hp.get T.cl_Pile T.n_Pile_reached (by walk_at "lk") (paX.hp.get T.cl_Pile T.n_Pile_end (by walk_at "lk") ⟨_,_,rfl,fun p2 hp2=>?_⟩)
 obtain ⟨H3,e3,s3,h3⟩:=newH hp2 (.rng r e)
 rw [e3];clear e3
 refine ⟨p2,r,e,rfl,h3,by omega,fun l2 hl2=>?_⟩
 rw [ZB6]
 obtain ⟨H4,e4,s4,h4⟩:=newH hl2 (.lst (nL (List.range' r (e-r))))
 rw [e4];clear e4
 refine ⟨p,l2,_,_,rfl,rfl,s4 _ _ (s3 _ _ hX),h4,ZAd (by rw [yAD,yAD,yBN];omega),fun l hl=>?_⟩
 refine q l _ (sX.trans (s3.trans (s4.new hl))) ((sX.trans (s3.trans s4)).free hl) ?_
 rw [ZAH]
 unfold nL
 rw [yAT]
theorem ok_Pile_standing {f:Addr} {fd:FuncData} (F:Fun K "standing" "Pile.standing" ZAr f fd) (T:Bt K mg C_Join C_Pile C_Asker C_AskedRule)
  (t_Pile_beyond_of:Mt P w K mg base CX0 C_Pile "beyond_of" 1 ["self","number"] (ZBm C_Pile))
 :FnOk P w K mg base CX0 2 f fd ["self"] (ZCD C_Pile):=by
 refine F.ok sc_Pile_standing (fun vs H Q E h=>?_) (fun cdv A outer s H vs Q E hr h=>?_)
 .obtain ⟨x,a,fs,od,gr,ls,s,e,r,oa,ps,gs,rfl,pa,hpl,hgl,q⟩:=h
  rfl
 obtain ⟨x,a,fs,od,gr,ls,s,e,r,oa,ps,gs,rfl,pa,hpl,hgl,q⟩:=h
 refine ⟨_,(ZAB (ZAJ (i:=1) sc_Pile_standing.nd rfl (by walk_at "o") (ZAQ ZDh (ZAM (pv 0) rfl) (ZBa (ZAA ZAG ZAE))))
  (ZAI (ZAX (ZDA rfl (k:=2) (js:=[0,1]) (N':=["number","first","self","grades"]) (by rfl) (pi_enum rfl T.b_enumerate (ZAA (ZAM (pv 0) rfl) ZAE)) (fun _ _ _ _=>pg_tupK (n:=2) K rfl (ZCM (ZBe (i:=0) (show (["number","first","self","grades"]:List Str).Nodup by decide +kernel) rfl (by walk_at "o")) (ZCM (ZBe (i:=1) (show (["number","first","self","grades"]:List Str).Nodup by decide +kernel) rfl (by walk_at "o")) pgs_nil))) (fun _ _ _ _=>pifs_nil) (fun _ _ _ _=>(ZBu (ZAA (pv 1) (ZAA (ZBI t_Pile_beyond_of (hr.mono (by decide)) ZAa (pv 2) (ZAA (pv 0) ZAE)) (ZAA (ZAc (ix_listK K) (pv 3) (pv 0) (fun _ _=>rfl)) ZAE))))))))),?_⟩
 walk_at "rd"
 refine pa.hp.get T.cl_Pile T.n_Pile_grades (by walk_at "lk") ⟨ZAd (by decide),fun p hp=>?_⟩
 obtain ⟨H1,e1,s1,h1⟩:=newH hp (.lst [.int 0])
 rw [e1];clear e1
 have pa1:=pa.mono s1
 refine ⟨gr,p,_,_,rfl,rfl,pa1.hgr,h1,ZAd (by rw [yAD];show gs.length+1 <= _;omega),fun g2 hg2=>?_⟩
 obtain ⟨H2,e2,s2,h2⟩:=newH hg2 (.lst (nL gs++[.int 0]))
 rw [e2];clear e2
 have pa2:=pa1.mono s2
 refine pa2.hp.get T.cl_Pile T.n_Pile_firsts (by walk_at "lk") ?_
 refine compE_of (SqL.of pa2.hfs) (by rw [yAD,yAD];omega) (fun i ys σ X=>∃ v w,σ=[v,w,some (.ref x),some (.ref g2)] /\ Same H2 X /\ Spans X ((spn ps gs r).take i) ys) ⟨_,_,rfl,.refl _,rfl,fun j x y z h=>by simp at h⟩ (fun i ys σ X hi ⟨_,_,_,sX,hS⟩=>⟨SqL.of (sX _ _ pa2.hfs),by rw [hS.len,yBB];omega⟩) ?_ ?_
 .rintro i ys y σ X pt hi hy ⟨v,w,rfl,sX,hS⟩ hpt
  rw [yAD,yAD] at hi
  obtain ⟨p1,hp1⟩:∃ p1,ps[i]?=some p1:=⟨_,yAR hi⟩
  obtain rfl:y=.int (p1.1:Nat):=by
   rw [yAQ,yAQ,hp1] at hy
   exact (Option.some.inj hy).symm
  refine gTup_of (SqT.of ZAH) rfl ?_
  walk_at "rd"
  have paX:=(pa2.mono sX).mono (ZAR hpt (.tup [.int i,.int (p1.1:Nat)]))
  have eps:ps=ps.take i++p1::ps.drop (i+1):=by
   have:=yAJ.mp hp1
   rw [<- this.2,<- List.drop_eq_getElem_cons,List.take_append_drop]
  refine paX.hp.meth (by walk_at "lk") ⟨x,a,fs,od,gr,ls,s,e,r,oa,ps.take i,p1,ps.drop (i+1),gs,by rw [yBB,Nat.min_eq_left (by omega)],by rw [<- eps];exact paX,?_⟩
  have hg:atI (nL gs++[V.int 0]) (i:Int)=some (.int ((gs[i]?).getD 0:Nat)):=by
   refine ZAh (by omega) ?_
   rw [Int.toNat_natCast]
   by_cases hig:i < gs.length
   .rw [yAU (by rw [yAD];exact hig),yAQ,yAR hig];rfl
   .rw [yBD (by rw [yAD];omega),yAD,show i-gs.length=0 by omega,show gs[i]?=none from yBJ (by omega)];rfl
  refine ZA2 (SqL.of (ZAR hpt _ _ _ (sX _ _ h2))) hg ⟨ZAd (by decide),fun t ht=>?_⟩
  refine Nxt.of (by rw [yAD,yAD];exact hi) ⟨_,_,rfl,(sX.new hpt).new ht,?_⟩
  rw [List.take_add_one,spn_get hp1]
  exact ((hS.keep fun _ _ z=>ZAR hpt _ _ _ z).keep fun _ _ z=>ZAR ht _ _ _ z).snoc ZAH
 rintro ys σ X ⟨v,w,rfl,sX,hS⟩ l hl
 have S:Same H X:=s1.trans (s2.trans sX)
 refine q l _ ys (S.new hl) (S.free hl) ZAH ?_
 rw [yAD,yAD,List.take_of_length_le (by rw [spn_len];exact yAA _)] at hS
 exact hS.keep fun _ _ z=>ZAR hl _ _ _ z
theorem ok_most {f:Addr} {fd:FuncData} (F:Fun K "_law_most" "_law_most" ZCc f fd) (T:Bt K mg C_Join C_Pile C_Asker C_AskedRule)
 :FnOk P w K mg base CX0 1 f fd ["_law_step","_law_many"] (ZCj):=by
 refine F.ok sc_most (fun vs H Q E h=>?_) (fun cdv A outer s H vs Q E hr h=>?_)
 .obtain ⟨x,k,v1,v2,v3,n,rfl,hx,h1,h2,h3,hn,q⟩:=h
  rfl
 obtain ⟨x,k,v1,v2,v3,n,rfl,hx,h1,h2,h3,hn,q⟩:=h
 refine ⟨_,(ZAB (ZBU (ZAS ZCT (ZAc ZAw (pv 0) ZAG (fun _ _=>rfl)) ZDL (ZAV _))
  (ZAB (ZAJ (i:=2) sc_most.nd rfl (by walk_at "o") (ZAQ ZA6 (ZAc ZAw (pv 0) ZAG (fun _ _=>rfl)) (ZAc ZAw (pv 0) ZAG (fun _ _=>rfl))))
  (ZAI (ZAX (ZAQ ZAq (ZAQ ZA6 (pv 2) ZAG) (ZAQ ZCH (pv 2) ZAG))))) ZAx)
  (ZAB (ZAJ (i:=3) sc_most.nd rfl (by walk_at "o") (ZAQ ZA6 (ZAQ ZA6 (ZAc ZAw (pv 0) ZAG (fun _ _=>rfl)) (ZAc ZAw (pv 0) ZAG (fun _ _=>rfl))) ZAG))
  (ZAB (ZBU (ZAS ZCZ (ZAc ZAw (pv 0) ZAG (fun _ _=>rfl)) (pv 1) (ZAV _))
  (ZAI (ZAJ (i:=3) sc_most.nd rfl (by walk_at "o") (ZAQ ZAq (pv 3) ZAG))) ZAx)
  (ZAB (ZDJ PassesOwn.never rfl (pi_range2 rfl T.b_range (ZAA (ZAQ ZA6 (ZAc ZAw (pv 0) ZAG (fun _ _=>rfl)) (ZAc ZAw (pv 0) ZAG (fun _ _=>rfl))) (ZAA (ZAQ ZA6 (ZAc ZAw (pv 0) ZAG (fun _ _=>rfl)) (ZAc ZAw (pv 0) ZAG (fun _ _=>rfl))) ZAE))) (ZBe (i:=2) sc_most.nd rfl (by walk_at "o"))
  (ZAI (ZAJ (i:=3) sc_most.nd rfl (by walk_at "o") (ZAQ ZAq (pv 3) (pe_bm0 PySem.F.plainAttrs_int PySem.F.slot_int_bit_length PySem.F.type_int_bit_length mt_bitlen (pv 2))))))
  (ZAI (ZAX (pv 3))))))),?_⟩
 walk_at "rd"
 refine ZAv (SqT.of hx) (ZAh (by decide) rfl) ?_
 cases k with
 | true=>
  refine ⟨rfl,_,rfl,?_⟩
  rw [if_pos (by simp [kS])]
  refine ZAv (SqT.of hx) (ZAh (by decide) rfl) (ZAv (SqT.of hx) (ZAh (by decide) rfl) ⟨_,_,rfl,rfl,?_⟩)
  walk_at "rd"
  refine ⟨⟨by decide,by decide⟩,?_⟩
  have e:(v3:Int)-v1-1+((v3:Int)-v1) / 7=((mo56 true v1 v2 v3 n:Nat):Int):=by unfold mo56;rw [if_pos rfl];omega
  rw [e]
  exact q
 | false=>
  refine ⟨rfl,_,rfl,?_⟩
  rw [if_neg (by unfold kS;simp;decide)]
  refine ZAv (SqT.of hx) (ZAh (by decide) rfl) (ZAv (SqT.of hx) (ZAh (by decide) rfl) ⟨_,_,rfl,rfl,?_⟩)
  walk_at "rd"
  refine ZAv (SqT.of hx) (ZAh (by decide) rfl) ⟨_,_,rfl,rfl,_,rfl,?_⟩
  apply ZDB (fun (m:Int)=>m=((v2-v1-1+(if v2 < n then 1 else 0):Nat):Int))
  .intro tailp
   by_cases hv:v2 < n
   .rw [if_pos (by simp;omega)]
    obtain ⟨m,em⟩:∃ m:Int,m=(v2:Int)-v1-1+1:=⟨_,rfl⟩
    rw [<- em]
    exact tailp m (by rw [em,if_pos hv];omega)
   .rw [if_neg (by simp;omega)]
    exact tailp _ (by rw [if_neg hv];omega)
  rintro m rfl
  refine ZAv (SqT.of hx) (ZAh (by decide) rfl) (ZAv (SqT.of hx) (ZAh (by decide) rfl) ⟨_,_,rfl,rfl,?_⟩)
  refine ZAv (SqT.of hx) (ZAh (by decide) rfl) (ZAv (SqT.of hx) (ZAh (by decide) rfl) ⟨_,_,rfl,rfl,?_⟩)
  obtain ⟨m0,em0⟩:∃ m0,v2-v1-1+(if v2 < n then 1 else 0)=m0:=⟨_,rfl⟩
  rw [em0]
  refine forR2_of (by omega) (forR_of (fun i σ X=>∃ v2',σ=[some (.ref x),some (.int n),v2',some (.int (m0+bsum (v2-v1) i:Nat))] /\ X=H) ⟨_,rfl,rfl⟩ ?_ ?_)
  .rintro i σ X hi ⟨v2',rfl,rfl⟩
   walk_at "rd"
   refine ⟨rfl,_,rfl,rfl,_,_,rfl,rfl,some (.int ((v2:Int)-v1+i)),?_,rfl⟩
   dsimp only
   rw [show (v2:Int)-v1+i=((v2-v1+i:Nat):Int) by omega,intBits_n,bsum_snoc]
   rw [show ((m0+bsum (v2-v1) i:Nat):Int)+(ZBN (v2-v1+i):Nat)=((m0+(bsum (v2-v1) i+ZBN (v2-v1+i)):Nat):Int) by omega]
  .rintro σ X ⟨v2',rfl,rfl⟩
   walk_at "rd"
   rw [show ((v3:Int)-v1-((v2:Int)-v1)).toNat=v3-v2 by omega]
   have e:mo56 false v1 v2 v3 n=m0+bsum (v2-v1) (v3-v2):=by rw [<- em0];rfl
   rw [<- e]
   exact q
theorem ok_sum {f:Addr} {fd:FuncData} (F:Fun K "_law_sum" "_law_sum" ZDU f fd) (T:Bt K mg C_Join C_Pile C_Asker C_AskedRule)
 :FnOk P w K mg base CX0 1 f fd ["_law_lays","_law_many"] (ZC5):=by
 refine F.ok sc_sum (fun vs H Q E h=>?_) (fun cdv A outer s H vs Q E hr h=>?_)
 .obtain ⟨x,n,ls,ts,rfl,hx,hL,lc,hn,q0,q⟩:=h
  rfl
 obtain ⟨x,n,ls,ts,rfl,hx,hL,lc,hn,q0,q⟩:=h
 refine ⟨_,(ZAB (ZBU (ZAS ZCZ (ZAT ZAO rfl T.b_len PySem.boot_len (ZAA (pv 0) ZAE)) ZAG (ZAV _))
  (ZAI (ZAX ZAG)) ZAx)
  (ZAB (ZAJ (i:=2) sc_sum.nd rfl (by walk_at "o") ZAG)
  (ZAB (ZDJ PassesOwn.never rfl (ZCs (pv 0)) (pg_tup (n:=2) rfl (ZCM (ZBe (i:=3) sc_sum.nd rfl (by walk_at "o")) (ZCM (ZBe (i:=4) sc_sum.nd rfl (by walk_at "o")) pgs_nil)))
  (ZAB (ZAJ (i:=5) sc_sum.nd rfl (by walk_at "o") ZAG)
  (ZAB (ZAJ (i:=6) sc_sum.nd rfl (by walk_at "o") ZAG)
  (ZAB (ZBQ PassesOwn.never (ZAS ZCZ (ZAQ ZBb (pv 6) (ZAQ ZAq (ZAQ ZA6 (pv 4) (pv 3)) ZAG)) (ZAQ ZBb ZAG (pv 1)) (ZAV _))
  (ZAB (ZAJ (i:=6) sc_sum.nd rfl (by walk_at "o") (ZAQ ZBb ZAG (pv 6)))
  (ZAI (ZAJ (i:=5) sc_sum.nd rfl (by walk_at "o") (ZAQ ZAq (pv 5) ZAG)))))
  (ZAI (ZAJ (i:=2) sc_sum.nd rfl (by walk_at "o") (ZAQ ZAq (pv 2) (ZAQ ZBb (ZAQ ZA6 (pv 4) (pv 3)) (pv 5)))))))))
  (ZAI (ZAX (pv 2)))))),?_⟩
 walk_at "rd"
 refine ⟨x,_,rfl,.inl (SqL.of hx),?_⟩
 have hl:=lc.le
 rw [hL.len]
 by_cases h2:ls.length < 2
 .rw [if_pos (by omega)]
  exact q0 h2
 rw [if_neg (by omega)]
 refine forL_of (SqL.of hx) (fun i σ X=>∃ hs v3 v4 v5 v6,σ=[some (.ref x),some (.int n),some (.int (wsum (ls.take i) hs:Nat)),v3,v4,v5,v6] /\ X=H /\ hs.length=i /\ ∀ k a b,k < i->ls[k]?=some (a,b)->1 <= hs.getD k 0 /\ 2 * n <= (b-a+1) * 2 ^ hs.getD k 0) ⟨[],_,_,_,_,rfl,rfl,rfl,fun k a b hk=>absurd hk (by omega)⟩ (fun i σ X _ ⟨_,_,_,_,_,_,e1,_⟩=>by rw [e1];exact SqL.of hx) ?_ ?_
 .rintro i y σ X hy ⟨hs,v3,v4,v5,v6,rfl,rfl,hsl,hall⟩
  have hi:i < ls.length:=by have:=(yAJ.mp hy).1;rw [hL.len] at this;exact this
  obtain ⟨⟨a,b⟩,hk⟩:∃ c,ls[i]?=some c:=⟨_,yAR hi⟩
  obtain ⟨t,a1,b1⟩:=hL.get i a b hk
  rw [hy] at a1
  cases a1
  have hq:=lc.get hk
  walk_at "rd"
  refine gTup_of (SqT.of b1) rfl ?_
  walk_at "rd"
  refine ZBO (fun m σ X'=>∃ p:Nat,m=10-p /\ X'=X /\ σ=[some (.ref x),some (.int n),some (.int (wsum (ls.take i) hs:Nat)),some (.int a),some (.int b),some (.int p),some (.int (2 ^ p))] /\ 1 <= p /\ p <= 9) ⟨_,1,rfl,rfl,rfl,yAA _,by decide⟩ ?_
  rintro m σ X' ⟨p,rfl,rfl,rfl,hp1,hp9⟩
  have hpw:(2:Int) ^ p <= 512:=by
   have:(2:Nat) ^ p <= 2 ^ 9:=Nat.pow_le_pow_right (by decide) hp9
   have h2:((2 ^ p:Nat):Int)=2 ^ p:=by simp
   omega
  have hp0:=Gr.p2pos p
  walk_at "rd"
  refine ⟨.inl ⟨by omega,by omega⟩,.inl ⟨by decide,by decide⟩,?_⟩
  have hpn:((2 ^ p:Nat):Int)=2 ^ p:=by simp
  by_cases hlt:(2:Int) ^ p * ((b:Int)-a+1) < 2 * n
  .rw [if_pos hlt]
   refine ZBP ?_
   walk_at "rd"
   have hp6:p <= 8:=by
    refine Nat.le_of_not_lt fun z=>?_
    have:(2:Nat) ^ 9 <= 2 ^ p:=Nat.pow_le_pow_right (by decide) (by omega)
    have h3:(2:Int) ^ p * 1 <= 2 ^ p * ((b:Int)-a+1):=Int.mul_le_mul_of_nonneg_left (by omega) (by omega)
    omega
   refine ⟨.inl ⟨by decide,by decide⟩,10-(p+1),by omega,p+1,rfl,?_,by omega,by omega⟩
   rw [show (2:Int) * 2 ^ p=2 ^ (p+1) by rw [Int.pow_succ,Int.mul_comm]]
   rfl
  .rw [if_neg hlt]
   walk_at "rd"
   refine ⟨.inl ⟨by omega,by omega⟩,hs++[p],some (.int a),some (.int b),some (.int p),some (.int (2 ^ p)),?_,by rw [yAB,yAN,hsl],fun k a' b' hk1 hk2=>?_⟩
   .rw [List.take_add_one,hk]
    rw [show (ls.take i++(some (a,b)).toList)=ls.take i++[(a,b)] from rfl,wsum_snoc (by rw [yBB,hsl];omega)]
    have e:(wsum (ls.take i) hs:Int)+((b:Int)-a) * (p:Int)=((wsum (ls.take i) hs+(b-a) * p:Nat):Int):=by rw [Int.natCast_add,Int.natCast_mul,show ((b-a:Nat):Int)=(b:Int)-a by omega]
    rw [e]
   .rcases Nat.lt_or_ge k i with z | z
    .rw [yBA,yAU (by omega),<- yBA]
     exact hall k a' b' z hk2
    .obtain rfl:k=i:=by omega
     rw [hk] at hk2
     cases hk2
     rw [yBA,<- hsl,ZA5]
     refine ⟨hp1,?_⟩
     have e:((((b-a+1) * 2 ^ p:Nat)):Int)=2 ^ p * ((b:Int)-a+1):=by rw [Int.natCast_mul,hpn,Int.mul_comm,show ((b-a+1:Nat):Int)=(b:Int)-a+1 by omega]
     show 2 * n <= (b-a+1) * 2 ^ p
     omega
 rintro σ X ⟨hs,v3,v4,v5,v6,rfl,rfl,hsl,hall⟩
 walk_at "rd"
 rw [hL.len,List.take_length] at *
 refine q hs (by omega) fun k a b hk=>hall k a b ?_ hk
 exact (yAJ.mp hk).1
theorem ok_law {f:Addr} {fd:FuncData} (F:Fun K "law" "law" ZCp f fd) (T:Bt K mg C_Join C_Pile C_Asker C_AskedRule)
  (f_sum:Fn P w K mg base CX0 "_law_sum" 1 ["_law_lays","_law_many"] (ZC5))
  (f_cell_at:Fn P w K mg base CX0 "_law_cell_at" 1 ["_law_script","_law_k"] (ZDe K))
  (f_teller:Fn P w K mg base CX0 "_law_teller" 1 ["_law_bits","_law_way","_law_written"] (ZDH Pt_teller (ZDk ZAN) "_law_ask" "_law_teller.<locals>._law_ask" (ZAL ZAN) (ZAK ZAN) (ZAC ZAN) ["_law_way","_law_bits","_law_written"] [1,0,2] 3))
  (f_most:Fn P w K mg base CX0 "_law_most" 1 ["_law_step","_law_many"] (ZCj))
  (t_Pile_step:Mt P w K mg base CX0 C_Pile "step" 8 ["self"] (ZDG C_Asker C_AskedRule C_Pile))
  (t_Pile_paper:Mt P w K mg base CX0 C_Pile "paper" 1 ["self"] (ZCi C_Pile))
  (t_Pile_standing:Mt P w K mg base CX0 C_Pile "standing" 2 ["self"] (ZCD C_Pile))
  (k_AskedRule:Kl P w K mg base CX0 "AskedRule" C_AskedRule 1 ["self","teller"] (ZCE C_AskedRule))
  (k_Pile_3:KlD P w K mg base CX0 "Pile" C_Pile 2 ["self","asker","least","part"] (ZCF C_Asker C_Pile) [.non])
  (k_Asker_3:KlD P w K mg base CX0 "Asker" C_Asker 1 ["self","row","rule","most"] (ZBx C_Asker) [.non])
 :FnOk P w K mg base CX0 9 f fd ["_law_script"] (ZDd K [(cc_teller,Pt_teller)]):=by
 refine F.ok sc_law (fun vs H Q E h=>?_) (fun cdv A outer s H vs Q E hr h=>?_)
 .obtain ⟨a,ns,rfl,hS,h63,hT,q⟩:=h
  rfl
 obtain ⟨a,ns,rfl,hS,h63,hT,q⟩:=h
 refine ⟨_,(ZAB (ZAJ (i:=1) sc_law.nd rfl (by walk_at "o") (ZAQ ZCS (ZB8 f_cell_at (hr.mono (by decide)) rfl ZAa (ZAA (pv 0) (ZAA ZAG ZAE))) ZAG))
  (ZAW
  (ZAB (ZAJ (i:=2) sc_law.nd rfl (by walk_at "o") (ZAc ZAe (ZBa (ZAA ZAG (ZAA (ZAQ ZAq ZAG (ZAQ ZCS (ZAQ ZCH (ZB8 f_cell_at (hr.mono (by decide)) rfl ZAa (ZAA (pv 0) (ZAA ZAG ZAE))) ZAG) ZAG)) ZAE))) (ZAQ ZCS (ZAQ ZCH (ZB8 f_cell_at (hr.mono (by decide)) rfl ZAa (ZAA (pv 0) (ZAA ZAG ZAE))) ZAG) ZAG) (fun _ _=>rfl)))
  (ZAW
  (ZAB (ZAJ (i:=3) sc_law.nd rfl (by walk_at "o") (pe_frz (ZAQ ZDh (ZDA rfl (k:=1) (js:=[]) (N':=["_law_cell"]) (by rfl) (ZCs (pe_slice sl_list (pv 0) (ZCr ZAG) (ZCr ZAG))) (fun _ _ _ _=>ZBe (i:=0) (show (["_law_cell"]:List Str).Nodup by decide +kernel) rfl (by walk_at "o")) (fun _ _ _ _=>pifs_nil) (fun _ _ _ _=>(ZB0 ZCT (ZAQ ZCS (pv 0) ZAG) ZAG (ZAV _)))) (ZBa (ZAA ZDV ZAE)))))
  (ZAW
  (ZAB (ZAJ (i:=4) sc_law.nd rfl (by walk_at "o") (ZBa ZAE))
  (ZAW
  (ZAB (ZAJ (i:=5) sc_law.nd rfl (by walk_at "o") (pe_mk k_AskedRule (hr.mono (by decide)) rfl ZAa (ZAA (ZB8 f_teller (hr.mono (by decide)) rfl ZAa (ZAA (pv 3) (ZAA (ZAQ ZCS (ZB8 f_cell_at (hr.mono (by decide)) rfl ZAa (ZAA (pv 0) (ZAA ZAG ZAE))) ZAG) (ZAA (pv 4) ZAE)))) ZAE)))
  (ZAW
  (ZAB (ZAJ (i:=6) sc_law.nd rfl (by walk_at "o") (pe_mkD k_Pile_3 (hr.mono (by decide)) rfl ZAa (ZAA (pe_mkD k_Asker_3 (hr.mono (by decide)) rfl ZAa (ZAA (ZAn (ZBD rfl) rfl T.b_list PyProof.Rows.boot_list (ZAA (ZAn ZCW rfl T.b_range PyProof.Rows.boot_range (ZAA (pv 1) ZAE)) ZAE)) (ZAA (pv 5) ZAE))) (ZAA (pv 2) ZAE))))
  (ZAW
  (ZAB (ZAJ (i:=7) sc_law.nd rfl (by walk_at "o") (ZBa ZAE))
  (ZAB (ZAJ (i:=8) sc_law.nd rfl (by walk_at "o") ZAG)
  (ZAW
  (ZAB (ZAJ (i:=9) sc_law.nd rfl (by walk_at "o") (ZBj t_Pile_step (hr.mono (by decide)) ZAa (pv 6)))
  (ZAW
  (ZAB (ZBQ PassesOwn.never (ZAS op_notN (pv 9) ZCR (ZAV _))
  (ZAB (ZBU (ZAS ZCT (ZAc ZAw (pv 9) ZAG (fun _ _=>rfl)) ZDL (ZAV _))
  (ZAI (ZAu (ZCI PySem.F.plainAttrs_list PySem.F.slot_list_append PySem.F.type_list_append ZBc (pv 7) (ZAA (ZBu (ZAA (ZAc ZAw (pv 9) ZAG (fun _ _=>rfl)) (ZAA (ZAc ZAw (pv 9) ZAG (fun _ _=>rfl)) ZAE))) ZAE)))) ZAx)
   (ZAW
  (ZAB (ZBU (ZAS ZDW (ZAQ ZA6 (ZAT ZAO rfl T.b_len PySem.boot_len (ZAA (pv 4) ZAE)) (pv 8)) (ZB8 f_most (hr.mono (by decide)) rfl ZAa (ZAA (pv 9) (ZAA (pv 1) ZAE))) (ZAV _))
  (ZAI (ZAX ZDV)) ZAx)
   (ZAW
  (ZAB (ZAJ (i:=8) sc_law.nd rfl (by walk_at "o") (ZAT ZAO rfl T.b_len PySem.boot_len (ZAA (pv 4) ZAE)))
   (ZAW
  (ZAB (ZBU (ZAS (ZDg hr.units) (ZAT call_sorted rfl T.b_sorted PyProof.Rows.boot_sorted (ZAA (ZBj t_Pile_paper (hr.mono (by decide)) ZAa (pv 6)) ZAE)) (ZAn (ZBD rfl) rfl T.b_list PyProof.Rows.boot_list (ZAA (ZAn ZCW rfl T.b_range PyProof.Rows.boot_range (ZAA (pv 1) ZAE)) ZAE)) (ZAV _))
  (ZAI (ZAX ZDV)) ZAx)
   (ZAW
  (ZAI (ZAJ (i:=9) sc_law.nd rfl (by walk_at "o") (ZBj t_Pile_step (hr.mono (by decide)) ZAa (pv 6)))))))))))))
  (ZAW
  (ZAB (ZBU (PW.pt (pw_or (ZAS (ZDg hr.units) (ZAT call_sorted rfl T.b_sorted PyProof.Rows.boot_sorted (ZAA (ZBj t_Pile_paper (hr.mono (by decide)) ZAa (pv 6)) ZAE)) (ZAn (ZBD rfl) rfl T.b_list PyProof.Rows.boot_list (ZAA (ZAn ZCW rfl T.b_range PyProof.Rows.boot_range (ZAA (pv 1) ZAE)) ZAE)) (ZAV _)) (pw_or1 (ZAS op_ne (ZAT ZAO rfl T.b_len PySem.boot_len (ZAA (ZBj t_Pile_standing (hr.mono (by decide)) ZAa (pv 6)) ZAE)) (ZAT (ZCA rfl) rfl T.b_min PyProof.Rows.boot_min (ZAA (pv 1) (ZAA ZAG ZAE))) (ZAV _)))))
  (ZAI (ZAX ZDV)) ZAx)
  (ZAW
  (ZAB (ZBU (ZAS (ZDg hr.units) (ZDA rfl (k:=1) (js:=[]) (N':=["_law_pair"]) (by rfl) (ZCs (pv 4)) (fun _ _ _ _=>ZBe (i:=0) (show (["_law_pair"]:List Str).Nodup by decide +kernel) rfl (by walk_at "o")) (fun _ _ _ _=>(pifs_one (ZAS op_le (ZAc (ix_tupK K) (pv 0) ZAG (fun _ _=>rfl)) (ZAc (ix_tupK K) (pv 0) ZAG (fun _ _=>rfl)) (ZAV _)))) (fun _ _ _ _=>(pv 0))) (ZBa ZAE) (ZAV _))
  (ZAI (ZAX ZDV)) ZAx)
  (ZAW
  (ZAB (ZAJ (i:=10) sc_law.nd rfl (by walk_at "o") (ZB8 f_sum (hr.mono (by decide)) rfl ZAa (ZAA (pv 7) (ZAA (pv 1) ZAE))))
  (ZAW
  (ZAI (ZAX (pe_or (ZB0 ZCT (pv 1) ZAG (ZAV _)) (pe_or (ZB0 ZDW (pv 2) ZAG (ZAV _)) (pe_one (ZB0 op_le (pv 8) (ZAQ ZAq (ZAQ ZAq (ZAQ ZA6 (pv 1) ZAG) (pv 10)) (ZAQ ZCH (pv 10) ZAG)) (ZAV _)))))))))))))))))))))))))))))))),?_⟩
 walk_at "rd"
 refine ⟨a,ns,0,rfl,hS,by decide,?_⟩
 generalize cellOf ns 0=c0
 walk_at "rd"
 refine ⟨by decide,?_⟩
 have r0:=Int.emod_nonneg c0 (show (64:Int)≠0 by decide)
 have r1:=Int.emod_lt_of_pos c0 (show (0:Int) < 64 by decide)
 obtain ⟨n,en⟩:∃ n:Nat,c0 % 64=(n:Int):=⟨(c0 % 64).toNat,by omega⟩
 rw [en] at r0 r1 ⊢
 refine ZAj ?_
 walk_at "rd"
 refine ⟨a,ns,1,rfl,hS,by decide,?_⟩
 generalize cellOf ns 1=c1
 walk_at "rd"
 refine ⟨⟨by decide,by decide⟩,by decide,ZAd (by decide),fun p hp=>?_⟩
 obtain ⟨H2,e2,s2,h2⟩:=newH hp (.lst [.int 1,.int (1+c1 / 4 % 20)])
 rw [e2];clear e2
 refine ⟨a,ns,1,rfl,s2.seq hS,by decide,?_⟩
 generalize cellOf ns 1=c2
 walk_at "rd"
 refine ⟨⟨by decide,by decide⟩,by decide,?_⟩
 obtain ⟨ls,hls,hls0,hat⟩:∃ ls:Nat,ls <= 500 /\ 1 <= ls /\ atI [V.int 1,V.int (1+c1 / 4 % 20)] (c2 / 2 % 2)=some (V.int (ls:Int)):=by
  have r0:=Int.emod_nonneg (c1 / 4) (show (20:Int)≠0 by decide)
  have r1:=Int.emod_lt_of_pos (c1 / 4) (show (0:Int) < 20 by decide)
  have m0:c2 / 2 % 2=0∨c2 / 2 % 2=1:=by omega
  rcases m0 with e | e <;> rw [e]
  .exact ⟨1,by decide,by decide,ZAh (by decide) rfl⟩
  .exact ⟨(1+c1 / 4 % 20).toNat,by omega,by omega,by rw [Int.toNat_of_nonneg (by omega)];exact ZAh (by decide) rfl⟩
 refine ZA2 (SqL.of h2) hat ?_
 refine ZAj ?_
 walk_at "rd"
 refine slL_of (s2.seq hS) fun p3 hp3=>?_
 obtain ⟨H3,e3,s3,h3⟩:=newH hp3 (.lst (cutV (ns.map V.int) (some 2) (some 62)))
 rw [e3];clear e3
 rw [cutV_ints] at h3
 generalize hcs:((ns.drop (HT.sIx ns.length 0 (some 2))).take (HT.sIx ns.length ns.length (some 62)-HT.sIx ns.length 0 (some 2)))=cs at h3
 have hcl:cs.length <= 63:=by rw [<- hcs,yBB,yBE];omega
 clear hcs
 refine compL_big (SqL.of h3) (by rw [yAD];omega) (fun i ys σ Y=>∃ (v:Option V) (bs:List Bool),σ=[v] /\ Y=H3 /\ ys=bs.map V.bl /\ bs.length=i) ⟨_,[],rfl,rfl,rfl,rfl⟩ (fun i ys σ Y _ ⟨_,bs,_,e1,e2,e3⟩=>⟨by rw [e1];exact SqL.of h3,by rw [e2,yAD,e3];exact yAA _⟩) ?_ ?_
 .rintro i ys y σ Y hi hy ⟨v,bs,rfl,rfl,rfl,hbl⟩
  rw [yAD] at hi
  obtain rfl:y=.int cs[i]:=by
   rw [yAQ,yAR hi] at hy
   exact (Option.some.inj hy).symm
  walk_at "rd"
  refine ⟨by decide,Nxt.of (by rw [yAD];exact hi) ⟨_,bs++[decide (cs[i] % 2=1)],rfl,rfl,by rw [yAT];rfl,by rw [yAB,hbl];rfl⟩⟩
 rintro ys σ Y ⟨v,bs,rfl,rfl,rfl,hbl⟩ p4 hp4
 obtain ⟨H4,e4,s4,h4⟩:=newH hp4 (.lst (bs.map V.bl))
 rw [e4];clear e4
 refine ⟨ZAd (by decide),fun p5 hp5=>?_⟩
 obtain ⟨H5,e5,s5,h5⟩:=newH hp5 (.lst [.bl false])
 rw [e5];clear e5
 refine ⟨p4,p5,_,_,rfl,rfl,s5 _ _ h4,h5,ZAd (by rw [yAD,hbl,yAD];show cs.length+1 <= _;omega),fun bl hbl0=>?_⟩
 obtain ⟨H6,e6,s6,h6⟩:=newH hbl0 (.lst (bs.map V.bl++[.bl false]))
 rw [e6];clear e6
 refine ⟨bl,_,rfl,h6,fun ob=>?_⟩
 have e7:bs.map V.bl++[V.bl false]=(bs++[false]).map V.bl:=by rw [yAT];rfl
 rw [e7]
 generalize hbs:bs++[false]=bs'
 have hbn:bs'≠[]:=by rw [<- hbs];simp
 have hbz:bs'.length <= 1000:=by rw [<- hbs,yAB,hbl,yAD];show cs.length+1 <= _;omega
 have S6:Same H H6:=s2.trans (s3.trans (s4.trans (s5.trans s6)))
 have nbl:H bl=none:=(s2.trans (s3.trans (s4.trans s5))).free hbl0
 have S7:Same H (upd H6 bl (.frz ob (.lst (bs'.map V.bl)))):=fun b o h=>by rw [ZAF (ZAD h nbl)];exact S6 _ _ h
 have h7:upd H6 bl (.frz ob (.lst (bs'.map V.bl))) bl=some (.frz ob (.lst (bs'.map V.bl))):=ZAH
 generalize upd H6 bl (.frz ob (.lst (bs'.map V.bl)))=H7 at S7 h7 ⊢
 clear h6 S6 s2 s3 s4 s5 s6 h2 h3 h4 h5 hp hp3 hp4 hp5 hbl0 hbs hbl e7
 refine ZAj ?_
 walk_at "rd"
 refine ⟨yAH _,fun lg hlg=>?_⟩
 obtain ⟨H0,e0,s0,hlg0⟩:=newH hlg (.lst [])
 rw [e0];clear e0
 have S0:Same H H0:=S7.trans s0
 have hbl0:=s0 _ _ h7
 refine ZAj ?_
 walk_at "rd"
 have hPt:H0 Pt_teller=some (.tbl #[]):=S0 _ _ (hT _ yAE)
 refine ⟨a,ns,1,rfl,S0.seq hS,by decide,?_⟩
 generalize cellOf ns 1=c3
 walk_at "rd"
 refine ⟨by decide,?_⟩
 generalize c3 % 2=way
 refine ⟨rfl,.inl hPt,fun g H5 md=>?_⟩
 have nP:∀ b o,H0 b=some o->(∀ t,o≠.tbl t)->b≠Pt_teller:=fun b o h n z=>by rw [z,hPt] at h;exact n _ (Option.some.inj h).symm
 intro ru dr hru hdr nrd
 have hru':upd H5 dr (.own ru) ru=none:=by rw [ZAF (Ne.symm nrd)];exact hru
 have s6:Same H5 (upd (upd H5 dr (.own ru)) ru (.ins C_AskedRule dr [])):=(ZAR hdr _).trans (ZAR hru' _)
 refine ⟨ru,dr,g,rfl,ZAH,fun H7' k7 ir=>⟨rfl,?_⟩⟩
 have k7':∀ b o,H5 b=some o->H7' b=some o:=fun b o h=>k7 b o (ZAD h hru) (s6 _ _ h)
 have u7:∀ b o,H0 b=some o->(∀ t,o≠.tbl t)->H7' b=some o:=fun b o h n=>k7' _ _ (md.same b o (nP b o h n) h)
 have h7lg:=u7 lg _ hlg0 fun _ z=>by cases z
 have h7bl:=u7 bl _ hbl0 fun _ z=>by cases z
 have clo7:=md.clo.mono fun b o h=>k7' _ _ h
 clear md k7 s6 hru hru' hdr nrd u7 k7'
 refine ZAj ?_
 walk_at "rd"
 refine ⟨n,rfl,fun p8 hp8=>?_⟩
 obtain ⟨H8,e8,s8,h8⟩:=newH hp8 (.rng 0 (n:Int))
 rw [e8];clear e8
 refine ⟨p8,0,n,rfl,h8,by omega,fun l9 hl9=>?_⟩
 rw [show ZBz 0 (n:Int)=ZBz ((0:Nat):Int) (n:Int) from rfl,ZB6,Nat.sub_zero]
 obtain ⟨H9,e9,s9,h9⟩:=newH hl9 (.lst (nL (List.range' 0 n)))
 rw [e9];clear e9
 have k9:Same H7' H9:=s8.trans s9
 intro ak da hak hda nad
 have hak':upd H9 da (.own ak) ak=none:=by rw [ZAF (Ne.symm nad)];exact hak
 have sA:Same H9 (upd (upd H9 da (.own ak)) ak (.ins C_Asker da [])):=(ZAR hda _).trans (ZAR hak' _)
 have h8ak:upd (upd H9 da (.own ak)) ak (.ins C_Asker da []) ak=some (.ins C_Asker da []):=ZAH
 refine ⟨ak,da,l9,ru,.non,_,rfl,ZAH,sA _ _ h9,fun rl tl HA kA nrl ntl nrt ia hrl htl=>⟨rfl,?_⟩⟩
 have u9:∀ b o,H7' b=some o->HA b=some o:=fun b o h=>kA b o (ZAD (k9 _ _ h) hak) (sA _ _ (k9 _ _ h))
 obtain ⟨dr',fs'',er,_,_⟩:=ir.ex
 have nak_ru:ru≠ak:=ZAD (k9 _ _ er) hak
 obtain ⟨ks,eks⟩:∃ ks:List Int,ks.length=n:=⟨List.replicate n 0,yBQ⟩
 subst eks
 have hkl:ks.length <= 63:=by omega
 have st:SitL C_Asker C_AskedRule HA ks (nL (List.range' 0 ks.length)) ak rl ru tl g lg []:={
  ha:=ia
  hrl:=hrl
  hru:=let ⟨d1,f1,e1,e2,e3⟩:=ir.ex;⟨d1,f1,u9 _ _ e1,e2,e3⟩
  clo:=⟨bl,way,bs',ob,clo7.mono fun b o h=>u9 _ _ h,u9 _ _ h7bl,hbn,hbz⟩
  len:=by rw [yAD,yBN]
  row:=fun i hi=>by rw [yAQ,List.getElem?_range' hi];simp
  hlg:=⟨[],u9 _ _ h7lg,rfl,fun j p q h=>by simp at h⟩
  htl:=⟨[],htl,rfl,fun j p q h=>by simp at h⟩
  ne:=⟨ZAD (sA _ _ (k9 _ _ h7lg)) ntl,ZD4 (Ne.symm (ZAD h8ak nrl)) (Ne.symm (ZAD (sA _ _ (k9 _ _ h7lg)) nrl)) nrt,nak_ru⟩ }
 intro x dx hx hdx nxd
 have hx':upd HA dx (.own x) x=none:=by rw [ZAF (Ne.symm nxd)];exact hx
 have sB:Same HA (upd (upd HA dx (.own x)) x (.ins C_Pile dx [])):=(ZAR hdx _).trans (ZAR hx' _)
 have hB:(upd (upd HA dx (.own x)) x (.ins C_Pile dx [])) x=some (.ins C_Pile dx []):=ZAH
 generalize upd (upd HA dx (.own x)) x (.ins C_Pile dx [])=HB at sB hB ⊢
 obtain ⟨d0,f0',ea0,_,_⟩:=st.ha.ex
 refine ⟨x,dx,ak,ls,0,ks.length,.non,rfl,hB,.inr ⟨rfl,rfl,ZAD ea0 hx,rl,ru,.non,_,tl,_,st.ha.mono sB,sB _ _ st.hrl,st.len⟩,fun fs od gr HC kC nfs nod ngr paC=>⟨rfl,?_⟩⟩
 have kA':Same HA HC:=fun b o h=>kC b o (ZAD h hx) (sB _ _ h)
 have pxC:PXl ak rl ru lg tl x fs od gr []:=⟨⟨st.newS hx,st.newS (sB.free nfs),st.newS (sB.free nod),st.newS (sB.free ngr)⟩,fun b hb=>(by cases hb),fun z=>by
  rcases yAF.mp z with z | z
  .exact ZAD st.hrl (sB.free nfs) z
  rcases yAF.mp z with z | z
  .exact ZAD st.hrl (sB.free nod) z
  .exact ZAD st.hrl (sB.free ngr) (yAS.mp z),by
  obtain ⟨d1,f1,e1,_⟩:=st.hru.ex
  exact ZAD e1 hx⟩
 have pi0:PInv ks 0 ks.length 0 [] []:=⟨rfl,yAH _,rfl,fun g hg=>by cases hg⟩
 have wC:W57 C_Asker C_AskedRule C_Pile HC ks (nL (List.range' 0 ks.length)) ak rl ru tl g lg x fs od gr [] ls 0 ks.length 0 [] [] []:=⟨paC,pxC,pi0,st.mono kA',.nil⟩
 clear pxC paC st kA' kC nfs nod ngr hB sB hx' hx hdx nxd u9 kA ia hrl htl nrl ntl nrt sA hak hak' hda nad h8ak k9 s8 s9 h8 h9 ir er nak_ru clo7 h7bl h7lg hPt nP h7 hlg hlg0 hbl0 s0 ea0 nbl
 generalize nL (List.range' 0 ks.length)=xs at wC ⊢
 refine ZAj ?_
 walk_at "rd"
 refine ⟨yAH _,fun sd hsd0=>?_⟩
 obtain ⟨X1,e1,s4,h1⟩:=newH hsd0 (.lst [])
 rw [e1];clear e1
 have w1:=wC.mono s4
 obtain ⟨nsd,_,nsdrl⟩:=wC.free hsd0
 clear wC
 have stepC:∀ {X:Hp} {pr:List (Nat×Nat)} {r:Nat} {oa:List Addr} {ps:List (Nat×List Nat)} {gs:List Nat} {ly:List (Nat×Nat)} {Gs:List Nat} {J:Nat->Nat} {ts:List V} {Q':VK},W57 C_Asker C_AskedRule C_Pile X ks xs ak rl ru tl g lg x fs od gr pr ls 0 ks.length r oa ps gs->X sd=some (.lst ts)->Lys X ly ts->sd∉oa->(∀ c∈pr,c.2 < c.1)->P54 ks 0 ks.length ly Gs J ps gs r->(ls=1->A56 0 ks.length r pr.length (SJ J 0 (ks.length-0))) ->
   (∀ fv Y n,n <= 2 * (ks.length-r)+ps.length->I57 C_Asker C_AskedRule C_Pile ks xs ak rl ru tl g lg x fs od gr a bl sd ls n [some (.ref a),some (.int (ks.length:Nat)),some (.int ls),some (.ref bl),some (.ref lg),some (.ref ru),some (.ref x),some (.ref sd),some (.int (pr.length:Nat)),some fv,none] Y->Q' fv Y)->ZDG C_Asker C_AskedRule C_Pile [.ref x] X Q' E0:=fun {X pr r oa ps gs ly Gs J ts Q'} w hsd hL hoa hdn hP hA fin=>by
  refine ⟨ks,xs,ak,rl,ru,tl,g,lg,x,fs,od,gr,pr,ls,0,ks.length,r,oa,ps,gs,rfl,w.st,w.pa,w.px,w.pi,yAA _,hkl,by omega,w.few (by omega) (yAH _),fun z1 z2 z3=>?_,fun t Y k v1 v2 v3 L oa' ps' gs' r' stp lf=>?_⟩
  .exact fin .non X 0 (yAH _) ⟨.non,pr,r,oa,ps,gs,ly,Gs,J,ts,pr.length,rfl,w,hsd,hL,hoa,hdn,.inl ⟨rfl,rfl,⟨z1,z2,z3⟩,hP,rfl,hA⟩⟩
  .have wY:=w.step lf stp
   have hless:=stp.less
   obtain ⟨fY,foa,htY,_⟩:=lf
   refine fin (.ref t) Y (2 * (ks.length-r')+ps'.length+1) (by omega) ⟨.ref t,pr++L,r',oa',ps',gs',ly,Gs,J,ts,pr.length,rfl,wY,fY _ _ nsd hsd,hL.keep fun b us h=>fY _ _ (w.nt h) h,fun z=>?_,fun c hc=>?_,.inr ⟨t,k,v1,v2,v3,L,ps,gs,r,pr,rfl,rfl,htY,stp,w.pi,hP,rfl,rfl,hA⟩⟩
   .rcases foa sd z with z | z
    .exact hoa z
    .rw [hsd] at z;cases z
   .rcases yBC.mp hc with z | z
    .exact hdn c z
    .exact stp.down w.pi c z
 refine ZAj ?_
 walk_at "rd"
 apply once2 (fun (fv:V) (Y:Hp)=>∃ n,I57 C_Asker C_AskedRule C_Pile ks xs ak rl ru tl g lg x fs od gr a bl sd ls n [some (.ref a),some (.int (ks.length:Nat)),some (.int ls),some (.ref bl),some (.ref lg),some (.ref ru),some (.ref x),some (.ref sd),some (.int 0),some fv,none] Y)
 .intro tailp
  refine w1.pa.hp.meth (by walk_at "lk") (stepC (ly:=[]) (Gs:=[]) (J:=fun _=>0) w1 h1 ⟨rfl,fun j a b h=>by simp at h⟩ yBG (fun c hc=>by cases hc) ?_ (fun _=>?_) fun fv Y n _ hI=>tailp fv Y ⟨n,hI⟩)
  .exact ⟨rfl,rfl,fun k g h=>by simp at h,fun _=>rfl,fun _ A p h=>by simp at h,fun _ _=>rfl,trivial,.inl ⟨fun j hj=>absurd hj (by simp),.nil,fun x hx=>by cases hx⟩⟩
  .unfold A56
   rw [if_neg (by omega)]
   simp
 rintro fv Y ⟨n,hI⟩
 refine ZAj ?_
 walk_at "rd"
 refine ZBO (I57 C_Asker C_AskedRule C_Pile ks xs ak rl ru tl g lg x fs od gr a bl sd ls) ⟨n,hI⟩ ?_
 clear hI
 rintro n σ X ⟨fv,pr,r,oa,ps,gs,ly,Gs,J,ts,na,rfl,w,hsd,hL,hoa,hdn,hfv⟩
 have hre:=w.pi.re
 have hcl':=w.pi.ch.le
 have hgl:=w.pi.gl
 walk_at "rd"
 have papC:∀ {X:Hp} {pr:List (Nat×Nat)} {r:Nat} {oa:List Addr} {ps:List (Nat×List Nat)} {gs:List Nat} {M:V->Hp->Prop},W57 C_Asker C_AskedRule C_Pile X ks xs ak rl ru tl g lg x fs od gr pr ls 0 ks.length r oa ps gs->(∀ Y,Same X Y->M (.bl false) Y) ->
   ZCi C_Pile [.ref x] X (fun v H1=>∃ p ns,[v]=[V.ref p] /\ SqL K H1 p (List.map V.int ns) /\ ns.length < 64 /\ ∀ (l:Addr) (ms:List Int),H1 l=none->ms.Perm ns->ms.Pairwise (· <= ·)->∃ n_1,[V.int (ks.length:Nat)]=[V.int n_1] /\ ∀ (p:Addr),upd H1 l (HO.lst (List.map V.int ms)) p=none->∃ p_1 lo hi,[V.ref p]=[V.ref p_1] /\ upd (upd H1 l (HO.lst (List.map V.int ms))) p (HO.rng 0 n_1) p_1=some (HO.rng lo hi) /\ (-1000 <= lo /\ lo <= 1000 /\ -1000 <= hi /\ hi <= 1000) /\ ∀ (l_1:Addr),upd (upd H1 l (HO.lst (List.map V.int ms))) p (HO.rng 0 n_1) l_1=none->rNeD K (.ref l) (.ref l_1) (upd (upd (upd H1 l (HO.lst (List.map V.int ms))) p (HO.rng 0 n_1)) l_1 (HO.lst (List.map V.int (ZBz lo hi)))) M) E0:=fun {X pr r oa ps gs M} w fin=>by
  have hpm:=w.pi.pm
  have hre:=w.pi.re
  have hpn:=hpm.length_eq
  rw [yBN,yAB,yBN] at hpn
  refine ⟨x,ak,fs,od,gr,ls,0,ks.length,r,oa,ps,gs,rfl,w.pa,by omega,hre,hkl,fun fl X1 sX1 hfl0 hfl=>?_⟩
  refine ⟨fl,(flt ps++List.range' r (ks.length-r)).map fun (n:Nat)=>(n:Int),rfl,SqL.of (by rw [hfl,nL_ints]),by rw [yAD,yAB,yBN];omega,fun l1 ms hl1 hperm hsort=>?_⟩
  obtain rfl:=range_sorted hpm hperm hsort
  obtain ⟨H1,e1,s1,h1⟩:=newH hl1 (.lst (((List.range' 0 (ks.length-0)).map fun (n:Nat)=>(n:Int)).map V.int))
  rw [e1];clear e1
  refine ⟨ks.length,rfl,fun p hp=>⟨p,0,ks.length,rfl,ZAH,by omega,fun l2 hl2=>?_⟩⟩
  rw [show ZBz 0 (ks.length:Int)=ZBz ((0:Nat):Int) (ks.length:Int) from rfl,ZB6]
  have s2:Same H1 (upd (upd H1 p (.rng 0 (ks.length:Nat))) l2 (.lst (nL (List.range' 0 (ks.length-0))))):=((Same.refl H1).new hp).new hl2
  have h2:(upd (upd H1 p (.rng 0 (ks.length:Nat))) l2 (.lst (nL (List.range' 0 (ks.length-0))))) l2=some (.lst (nL (List.range' 0 (ks.length-0)))):=ZAH
  generalize upd (upd H1 p (.rng 0 (ks.length:Nat))) l2 (.lst (nL (List.range' 0 (ks.length-0))))=H2 at s2 h2 ⊢
  refine neD_of Enc.int.list (by decide) (a:=(List.range' 0 (ks.length-0)).map fun (n:Nat)=>(n:Int)) (b:=(List.range' 0 (ks.length-0)).map fun (n:Nat)=>(n:Int)) (ZCx (SqL.of (s2 _ _ h1))) (ZCx (SqL.of (by rw [h2,nL_ints]))) ?_
  rw [show (!decide ((List.range' 0 (ks.length-0)).map (fun (n:Nat)=>(n:Int))=(List.range' 0 (ks.length-0)).map fun (n:Nat)=>(n:Int)))=false by simp]
  exact fin _ (sX1.trans (s1.trans s2))
 rcases hfv with ⟨rfl,rfl,hF,hP,rfl,hA⟩ | ⟨t,k,v1,v2,v3,L,ps0,gs0,r0,pr0,rfl,rfl,ht,stp,pi00,hP,epr,rfl,hA⟩
 rotate_left
 .rw [if_pos (by simp)]
  refine ZBP ?_
  walk_at "rd"
  refine ZAv (SqT.of ht) (ZAh (by decide) rfl) ?_
  have hlc:=hP.lc.le
  have hre0:=pi00.re
  have hmo:v1 < v2 /\ v2 <= v3 /\ v3 <= ks.length /\ L.length <= mo56 k v1 v2 v3 ks.length:=by
   unfold mo56
   rcases id stp with ⟨hkk,_,A,o1,o2,o,B,j⟩ | ⟨hkk,f,os,l,j⟩
   .obtain ⟨b1,b2,b3,b4⟩:=j.asks pi00
    have ch:=pi00.ch
    rw [j.e1] at ch
    obtain ⟨v3',_,c1,c2,_,_,c6,_⟩:=ch.two
    have:=c6.bey
    have:=j.e3
    rw [hkk,if_pos rfl]
    exact ⟨c1,by omega,b3,by omega⟩
   .obtain ⟨b1,b2,b3,b4,_⟩:=j.asks
    rw [hkk,if_neg (by simp)]
    exact ⟨b1,b2,b3,b4⟩
  apply ZDB (fun (Z:Hp)=>∃ ly' Gs' J' ts',W57 C_Asker C_AskedRule C_Pile Z ks xs ak rl ru tl g lg x fs od gr pr ls 0 ks.length r oa ps gs /\ Z sd=some (.lst ts') /\ Lys Z ly' ts' /\ P54 ks 0 ks.length ly' Gs' J' ps gs r /\ (ls=1->A56 0 ks.length r pr.length (SJ J' 0 (ks.length-0))) /\ Z t=some (.tup [kS k,.int (v1:Nat),.int (v2:Nat),.int (v3:Nat)]))
  .intro tailp
   have hA':∀ {J':Nat->Nat},(∀ u,J' u=if k=true /\ v1 <= u /\ u < v3 then J u+1 else J u)->ls=1->A56 0 ks.length r pr.length (SJ J' 0 (ks.length-0)):=fun {J'} hJ hl1=>by
    have stp1:=stp
    rw [hl1] at stp1
    rw [epr,yAB]
    exact A56.step stp1 pi00 hJ (hA hl1)
   rcases id stp with ⟨hkk,hrr,A,o1,o2,o,B,j⟩ | ⟨hkk,f,os,l,j⟩
   rotate_left
   .rw [hkk]
    refine ⟨rfl,_,rfl,?_⟩
    rw [if_pos (by simp [kS])]
    refine ⟨.inl ⟨rfl,_,SqL.of hsd⟩,ZAv (SqT.of ht) (ZAh (by decide) rfl) (ZAv (SqT.of ht) (ZAh (by decide) rfl) ⟨ZAd (by decide),fun tp htp=>?_⟩)⟩
    obtain ⟨Z1,e1,s1,hz1⟩:=newH htp (.tup [.int (v1:Nat),.int (v3:Nat)])
    rw [e1];clear e1
    refine ⟨sd,_,_,rfl,rfl,s1 _ _ hsd,ZBW (by rw [hL.len];omega),?_⟩
    have F3:Fr [sd] Z1 (upd Z1 sd (.lst (ts++[.ref tp]))):=Fr.upd yAE
    have hsd1:=s1 _ _ hsd
    have kt:∀ b us,Z1 b=some (.tup us)->upd Z1 sd (.lst (ts++[.ref tp])) b=some (.tup us):=fun b us h=>F3 _ _ (fun z=>by rw [yAS.mp z,hsd1] at h;cases h) h
    obtain ⟨Gs',hP'⟩:=hP.lay pi00 j
    have wZ:=(w.mono s1).fr F3 (fun b hb=>by rw [yAS.mp hb];exact ⟨_,hsd1⟩) (fun b hb=>by rw [yAS.mp hb];exact ⟨nsd,hoa,nsdrl⟩)
    have hsdZ:upd Z1 sd (.lst (ts++[.ref tp])) sd=some (.lst (ts++[.ref tp])):=ZAH
    have hLZ:=((hL.keep fun _ _ z=>s1 _ _ z).keep kt).snoc (kt _ _ hz1)
    have htZ:=kt _ _ (s1 _ _ ht)
    generalize upd Z1 sd (.lst (ts++[.ref tp]))=Z at wZ hsdZ hLZ htZ ⊢
    exact tailp Z ⟨_,Gs',J,_,wZ,hsdZ,hLZ,hP',hA' fun u=>by rw [if_neg (by rw [hkk];simp)],by rw [hkk] at htZ ⊢;exact htZ⟩
   .rw [hkk]
    refine ⟨rfl,_,rfl,?_⟩
    rw [if_neg (by unfold kS;simp;decide)]
    refine tailp X ⟨ly,Gs,fun u=>if v1 <= u /\ u < v3 then J u+1 else J u,ts,w,hsd,hL,?_,hA' fun u=>by rw [hkk];simp,by rw [hkk] at ht ⊢;exact ht⟩
    rw [hrr]
    exact hP.join pi00 j fun u=>rfl
  rintro Z ⟨ly',Gs',J',ts',wZ,hsdZ,hLZ,hPZ,hAZ,htZ⟩
  clear stp hP w hL hsd pi00 ht hA
  obtain ⟨m1,m2,m3,m4⟩:=hmo
  obtain ⟨ws,hw1,hw2⟩:=wZ.st.hlg
  have hwl:ws.length=pr.length:=hw2.len
  refine ZAj ?_
  walk_at "rd"
  refine ⟨lg,_,rfl,.inl (SqL.of hw1),?_⟩
  refine ⟨t,k,v1,v2,v3,ks.length,rfl,htZ,m1,m2,by omega,hkl,_,_,rfl,rfl,_,rfl,?_⟩
  rw [if_neg (by simp;rw [hwl,epr,yAB];omega)]
  refine ZAj ?_
  walk_at "rd"
  refine ⟨lg,_,rfl,.inl (SqL.of hw1),?_⟩
  rw [hwl]
  refine ZAj ?_
  walk_at "rd"
  refine wZ.pa.hp.meth (by walk_at "lk") (papC wZ fun Z2 sZ2=>⟨_,rfl,?_⟩)
  rw [if_neg (by simp)]
  refine ZAj ?_
  walk_at "rd"
  have w2:=wZ.mono sZ2
  exact w2.pa.hp.meth (by walk_at "lk") (stepC w2 (sZ2 _ _ hsdZ) (hLZ.keep fun _ _ z=>sZ2 _ _ z) hoa hdn hPZ hAZ fun fv Y n hn hI=>⟨n,by omega,hI⟩)
 rw [if_neg (by simp)]
 clear stepC
 refine ZAj ?_
 walk_at "rd"
 refine w.pa.hp.meth (by walk_at "lk") (papC w fun Z2 sZ2=>⟨_,rfl,?_⟩)
 clear papC
 rw [if_neg (by simp)]
 have w2:=w.mono sZ2
 refine w2.pa.hp.meth (by walk_at "lk") ⟨x,ak,fs,od,gr,ls,0,ks.length,r,oa,ps,gs,rfl,w2.pa,by omega,hgl,fun l3 Z3 ts3 sZ3 hl30 hl3 hsp=>?_⟩
 have hps:ps.length=min ks.length 1:=by
  have hch:=w.pi.ch
  have h1:=hF.2.1
  have h2:=hF.2.2
  rcases Nat.eq_zero_or_pos ps.length with z | z
  .rw [List.length_eq_zero_iff.mp z] at hch
   have e:0=r:=hch
   omega
  .omega
 refine ⟨l3,_,rfl,.inl (SqL.of hl3),_,_,rfl,?_⟩
 rw [ZDi,hsp.len,spn_len,if_neg (by rw [hps];simp;omega)]
 have S3:Same X Z3:=sZ2.trans sZ3
 have w3:=w.mono S3
 have hsd3:=S3 _ _ hsd
 have hL3:=hL.keep (H':=Z3) fun _ _ z=>S3 _ _ z
 clear w2 w hsd hL sZ2 sZ3 hl3 hl30 hsp S3
 refine ZAj ?_
 walk_at "rd"
 have hfew:=w3.few (by omega) (yAH _)
 obtain ⟨ws,hw1,hw2⟩:=w3.st.hlg
 have hwl:ws.length=pr.length:=hw2.len
 refine compL_big (SqL.of hw1) (by omega) (fun i ys σ Y=>∃ v,σ=[v] /\ Y=Z3 /\ ys=[]) ⟨_,rfl,rfl,rfl⟩ (fun i ys σ Y _ ⟨_,_,e1,e2⟩=>⟨by rw [e1];exact SqL.of hw1,by rw [e2];exact yAH _⟩) ?_ ?_
 .rintro i ys y σ Y hi hy ⟨v,rfl,rfl,rfl⟩
  obtain ⟨⟨c1,c2⟩,hc⟩:∃ c,pr[i]?=some c:=⟨_,yAR (by omega)⟩
  obtain ⟨tq,a1,b1⟩:=hw2.get i c1 c2 hc
  rw [hy] at a1
  cases a1
  have hlt:c2 < c1:=hdn (c1,c2) (yAO hc)
  walk_at "rd"
  refine ZAv (SqT.of b1) (ZAh (by decide) rfl) (ZAv (SqT.of b1) (ZAh (by decide) rfl) ⟨_,_,rfl,rfl,_,rfl,?_⟩)
  rw [if_neg (by simp;omega)]
  exact Nxt.of hi ⟨_,rfl,rfl,rfl⟩
 rintro ys σ Y ⟨v,rfl,rfl,rfl⟩ l5 hl5
 obtain ⟨Z5,e5,s9,h5⟩:=newH hl5 (.lst [])
 rw [e5];clear e5
 refine ⟨yAH _,fun l6 hl6=>?_⟩
 obtain ⟨Z6,e6,s10,h6⟩:=newH hl6 (.lst [])
 rw [e6];clear e6
 refine neD_of Enc.int.list (by decide) (a:=[]) (b:=[]) (ZCx (xs:=[]) (SqL.of (s10 _ _ h5))) (ZCx (xs:=[]) (SqL.of h6)) ⟨_,rfl,?_⟩
 rw [if_neg (by simp)]
 have S6:Same Y Z6:=s9.trans s10
 have hsd6:=S6 _ _ hsd3
 have hL6:=hL3.keep (H':=Z6) fun _ _ z=>S6 _ _ z
 clear h5 h6 s9 s10 hl5 hl6 hw1 hw2 hsd3 hL3
 refine ZAj ?_
 walk_at "rd"
 have hlc:=hP.lc
 rw [hF.2.1] at hlc
 apply ZDB (fun (m:Int)=>∃ W:Nat,m=(W:Nat) /\ (ls=1->0 < ks.length->pr.length+1 <= ks.length+W+W / 7))
 .intro tailp
  have fin:∀ {T W:Nat},SJ J 0 (ks.length-0)=T->T <= W->ls=1->0 < ks.length->pr.length+1 <= ks.length+W+W / 7:=fun {T W} eT hTW hl1 hN=>by
   have h1:=hA hl1
   have hr:=hF.2.1
   unfold A56 at h1
   rw [eT,if_pos ⟨hr,hN⟩] at h1
   omega
  refine ⟨sd,ks.length,ly,ts,rfl,hsd6,hL6,hlc,hkl,fun h2=>?_,fun hs h2 hh=>?_⟩
  rotate_left
  .obtain ⟨m,em⟩:∃ m:Int,m=((wsum ly hs:Nat):Int):=⟨_,rfl⟩
   rw [<- em]
   exact tailp m ⟨wsum ly hs,em,fin rfl (hP.all w3.pi hF.2.2 hF.2.1 fun k a b hk=>hh k a b hk)⟩
  .exact tailp 0 ⟨0,rfl,fin (hP.two w3.pi hF.2.2 hF.2.1 h2) (yAA _)⟩
 rintro m ⟨W,rfl,hW⟩
 refine ZAj ?_
 walk_at "rd"
 by_cases h0:(ks.length:Int)=0
 .rw [if_pos h0]
  exact q Z6
 rw [if_neg h0]
 by_cases h1:(1:Int) < ls
 .rw [if_pos h1]
  exact q Z6
 rw [if_neg h1]
 refine ⟨⟨by decide,by decide⟩,?_⟩
 have:=hW (by omega) (by omega)
 rw [decide_eq_true (by omega)]
 exact q Z6
end
theorem all_mk {l:PySem.W.OpenLaw} {w:World} {K:W.Frag} {h:Heap} {mg:Str->Option Value} {fa C_zaK f_zas f_zai f_zao f_zaj f_zad f_zav f_zal C_zaJ f_zat T_zat f_zaf f_zaa f_zab f_zag f_zau f_zar f_zap f_zah C_zaI f_zaq T_zaq f_zan f_zam C_zaH f_zae f_zac f_zak T_zak f_zaw f_zax f_zaB T_zaB f_zaE f_zaz f_zaC f_zay f_zaD f_zaG f_zaF f_zaA cc_zaA Pt_zaA:Addr} {td_zat_0 t_LEFT t_RIGHT t_WINS_TO_LEAP:Tok} (X:K.In h) (G:h.Ns mainGlobals mg) (hfa:mg "law"=some (.ref fa))
  {od_zas an_zas:Option Addr} {sl_zas:Array (Option Value)} {oc_zas kV_zas dc_zas pm_zas cd_zas ct_zas:Value}
  {od_zai an_zai:Option Addr} {sl_zai:Array (Option Value)} {oc_zai kV_zai dc_zai pm_zai cd_zai ct_zai:Value}
  {od_zao an_zao:Option Addr} {sl_zao:Array (Option Value)} {oc_zao kV_zao dc_zao pm_zao cd_zao ct_zao:Value}
  {od_zaj an_zaj:Option Addr} {sl_zaj:Array (Option Value)} {oc_zaj kV_zaj dc_zaj pm_zaj cd_zaj ct_zaj:Value}
  {od_zad an_zad:Option Addr} {sl_zad:Array (Option Value)} {oc_zad kV_zad dc_zad pm_zad cd_zad ct_zad:Value}
  {od_zav an_zav:Option Addr} {sl_zav:Array (Option Value)} {oc_zav kV_zav dc_zav pm_zav cd_zav ct_zav:Value}
  {od_zal an_zal:Option Addr} {sl_zal:Array (Option Value)} {oc_zal kV_zal dc_zal pm_zal cd_zal ct_zal:Value}
  {ocT_zat:Value} {odT_zat:Option Addr} {nT_zat:Nat} {slT_zat:Array (Option Value)}
  {od_zat an_zat:Option Addr} {sl_zat:Array (Option Value)} {oc_zat kV_zat dc_zat pm_zat cd_zat ct_zat:Value}
  {od_zaf an_zaf:Option Addr} {sl_zaf:Array (Option Value)} {oc_zaf kV_zaf dc_zaf pm_zaf cd_zaf ct_zaf:Value}
  {od_zaa an_zaa:Option Addr} {sl_zaa:Array (Option Value)} {oc_zaa kV_zaa dc_zaa pm_zaa cd_zaa ct_zaa:Value}
  {od_zab an_zab:Option Addr} {sl_zab:Array (Option Value)} {oc_zab kV_zab dc_zab pm_zab cd_zab ct_zab:Value}
  {od_zag an_zag:Option Addr} {sl_zag:Array (Option Value)} {oc_zag kV_zag dc_zag pm_zag cd_zag ct_zag:Value}
  {od_zau an_zau:Option Addr} {sl_zau:Array (Option Value)} {oc_zau kV_zau dc_zau pm_zau cd_zau ct_zau:Value}
  {od_zar an_zar:Option Addr} {sl_zar:Array (Option Value)} {oc_zar kV_zar dc_zar pm_zar cd_zar ct_zar:Value}
  {od_zap an_zap:Option Addr} {sl_zap:Array (Option Value)} {oc_zap kV_zap dc_zap pm_zap cd_zap ct_zap:Value}
  {od_zah an_zah:Option Addr} {sl_zah:Array (Option Value)} {oc_zah kV_zah dc_zah pm_zah cd_zah ct_zah:Value}
  {ocT_zaq:Value} {odT_zaq:Option Addr} {nT_zaq:Nat} {slT_zaq:Array (Option Value)}
  {od_zaq an_zaq:Option Addr} {sl_zaq:Array (Option Value)} {oc_zaq kV_zaq dc_zaq pm_zaq cd_zaq ct_zaq:Value}
  {od_zan an_zan:Option Addr} {sl_zan:Array (Option Value)} {oc_zan kV_zan dc_zan pm_zan cd_zan ct_zan:Value}
  {od_zam an_zam:Option Addr} {sl_zam:Array (Option Value)} {oc_zam kV_zam dc_zam pm_zam cd_zam ct_zam:Value}
  {od_zae an_zae:Option Addr} {sl_zae:Array (Option Value)} {oc_zae kV_zae dc_zae pm_zae cd_zae ct_zae:Value}
  {od_zac an_zac:Option Addr} {sl_zac:Array (Option Value)} {oc_zac kV_zac dc_zac pm_zac cd_zac ct_zac:Value}
  {ocT_zak:Value} {odT_zak:Option Addr} {nT_zak:Nat} {slT_zak:Array (Option Value)}
  {od_zak an_zak:Option Addr} {sl_zak:Array (Option Value)} {oc_zak kV_zak dc_zak pm_zak cd_zak ct_zak:Value}
  {od_zaw an_zaw:Option Addr} {sl_zaw:Array (Option Value)} {oc_zaw kV_zaw dc_zaw pm_zaw cd_zaw ct_zaw:Value}
  {od_zax an_zax:Option Addr} {sl_zax:Array (Option Value)} {oc_zax kV_zax dc_zax pm_zax cd_zax ct_zax:Value}
  {ocT_zaB:Value} {odT_zaB:Option Addr} {nT_zaB:Nat} {slT_zaB:Array (Option Value)}
  {od_zaB an_zaB:Option Addr} {sl_zaB:Array (Option Value)} {oc_zaB kV_zaB dc_zaB pm_zaB cd_zaB ct_zaB:Value}
  {od_zaE an_zaE:Option Addr} {sl_zaE:Array (Option Value)} {oc_zaE kV_zaE dc_zaE pm_zaE cd_zaE ct_zaE:Value}
  {od_zaz an_zaz:Option Addr} {sl_zaz:Array (Option Value)} {oc_zaz kV_zaz dc_zaz pm_zaz cd_zaz ct_zaz:Value}
  {od_zaC an_zaC:Option Addr} {sl_zaC:Array (Option Value)} {oc_zaC kV_zaC dc_zaC pm_zaC cd_zaC ct_zaC:Value}
  {od_zay an_zay:Option Addr} {sl_zay:Array (Option Value)} {oc_zay kV_zay dc_zay pm_zay cd_zay ct_zay:Value}
  {od_zaD an_zaD:Option Addr} {sl_zaD:Array (Option Value)} {oc_zaD kV_zaD dc_zaD pm_zaD cd_zaD ct_zaD:Value}
  {od_zaG an_zaG:Option Addr} {sl_zaG:Array (Option Value)} {oc_zaG kV_zaG dc_zaG pm_zaG cd_zaG ct_zaG:Value}
  {od_zaF an_zaF:Option Addr} {sl_zaF:Array (Option Value)} {oc_zaF kV_zaF dc_zaF pm_zaF cd_zaF ct_zaF:Value}
  {oc2_zaA:Value} {od2_zaA:Option Addr} {vs_zaA:Array Value} {sl2_zaA:Array (Option Value)}
  {od_zaA an_zaA:Option Addr} {sl_zaA:Array (Option Value)} {oc_zaA kV_zaA dc_zaA pm_zaA ct_zaA:Value}
  (a_zaK:W.nsIn K mainGlobals "Join"=some (some (.ref C_zaK)))
  (pg_zaK:PySem.W.plainGet K C_zaK Str.empty=true)
  (hd_zaK:PySem.W.hasDictIn K C_zaK=true)
  (po_zaK:PySem.W.plainOver K C_zaK=true)
  (sa_zaK:W.findIn K (.ref C_zaK) "__setattr__"=some (some (.builtin "object.__setattr__")))
  (mk_zaK:PySem.W.makesIn K C_zaK=true)
  (kc_zaK:W.keepIn K (.ref C_zaK)=true)
  (n_zaK_asker:W.findIn K (.ref C_zaK) "asker"=some none)
  (n_zaK_sides:W.findIn K (.ref C_zaK) "sides"=some none)
  (n_zaK_taken:W.findIn K (.ref C_zaK) "taken"=some none)
  (n_zaK_places:W.findIn K (.ref C_zaK) "places"=some none)
  (a_zas:W.findIn K (.ref C_zaK) "__init__"=some (some (.ref f_zas)))
  (i_zas:PySem.W.isFn K (.ref f_zas)=true)
  (l_zas:K.lookup f_zas=some ⟨oc_zas,od_zas,.func (W.fnOf "__init__" "Join.__init__" (ZAL ZBG) (ZAK ZBG) (ZAC ZBG) .none kV_zas dc_zas pm_zas an_zas cd_zas ct_zas),sl_zas⟩)
  (c_zas:W.codeIn K cd_zas "Join.__init__"=true)
  (k_zas:W.keepIn K (.ref f_zas)=true)
  (a_zai:W.findIn K (.ref C_zaK) "has_more"=some (some (.ref f_zai)))
  (i_zai:PySem.W.isFn K (.ref f_zai)=true)
  (l_zai:K.lookup f_zai=some ⟨oc_zai,od_zai,.func (W.fnOf "has_more" "Join.has_more" (ZAL ZAt) (ZAK ZAt) (ZAC ZAt) .none kV_zai dc_zai pm_zai an_zai cd_zai ct_zai),sl_zai⟩)
  (c_zai:W.codeIn K cd_zai "Join.has_more"=true)
  (k_zai:W.keepIn K (.ref f_zai)=true)
  (a_zao:W.findIn K (.ref C_zaK) "front"=some (some (.ref f_zao)))
  (i_zao:PySem.W.isFn K (.ref f_zao)=true)
  (l_zao:K.lookup f_zao=some ⟨oc_zao,od_zao,.func (W.fnOf "front" "Join.front" (ZAL ZA9) (ZAK ZA9) (ZAC ZA9) .none kV_zao dc_zao pm_zao an_zao cd_zao ct_zao),sl_zao⟩)
  (c_zao:W.codeIn K cd_zao "Join.front"=true)
  (k_zao:W.keepIn K (.ref f_zao)=true)
  (a_zaj:W.findIn K (.ref C_zaK) "take_on"=some (some (.ref f_zaj)))
  (i_zaj:PySem.W.isFn K (.ref f_zaj)=true)
  (l_zaj:K.lookup f_zaj=some ⟨oc_zaj,od_zaj,.func (W.fnOf "take_on" "Join.take_on" (ZAL ZA0) (ZAK ZA0) (ZAC ZA0) .none kV_zaj dc_zaj pm_zaj an_zaj cd_zaj ct_zaj),sl_zaj⟩)
  (c_zaj:W.codeIn K cd_zaj "Join.take_on"=true)
  (k_zaj:W.keepIn K (.ref f_zaj)=true)
  (a_zad:W.findIn K (.ref C_zaK) "take_rest"=some (some (.ref f_zad)))
  (i_zad:PySem.W.isFn K (.ref f_zad)=true)
  (l_zad:K.lookup f_zad=some ⟨oc_zad,od_zad,.func (W.fnOf "take_rest" "Join.take_rest" (ZAL ZAl) (ZAK ZAl) (ZAC ZAl) .none kV_zad dc_zad pm_zad an_zad cd_zad ct_zad),sl_zad⟩)
  (c_zad:W.codeIn K cd_zad "Join.take_rest"=true)
  (k_zad:W.keepIn K (.ref f_zad)=true)
  (a_zav:W.findIn K (.ref C_zaK) "win"=some (some (.ref f_zav)))
  (i_zav:PySem.W.isFn K (.ref f_zav)=true)
  (l_zav:K.lookup f_zav=some ⟨oc_zav,od_zav,.func (W.fnOf "win" "Join.win" (ZAL ZBM) (ZAK ZBM) (ZAC ZBM) .none kV_zav dc_zav pm_zav an_zav cd_zav ct_zav),sl_zav⟩)
  (c_zav:W.codeIn K cd_zav "Join.win"=true)
  (k_zav:W.keepIn K (.ref f_zav)=true)
  (a_zal:W.findIn K (.ref C_zaK) "leap_on"=some (some (.ref f_zal)))
  (i_zal:PySem.W.isFn K (.ref f_zal)=true)
  (l_zal:K.lookup f_zal=some ⟨oc_zal,od_zal,.func (W.fnOf "leap_on" "Join.leap_on" (ZAL ZA1) (ZAK ZA1) (ZAC ZA1) .none kV_zal dc_zal pm_zal an_zal cd_zal ct_zal),sl_zal⟩)
  (c_zal:W.codeIn K cd_zal "Join.leap_on"=true)
  (k_zal:W.keepIn K (.ref f_zal)=true)
  (a_zaJ:W.nsIn K mainGlobals "Pile"=some (some (.ref C_zaJ)))
  (pg_zaJ:PySem.W.plainGet K C_zaJ Str.empty=true)
  (hd_zaJ:PySem.W.hasDictIn K C_zaJ=true)
  (po_zaJ:PySem.W.plainOver K C_zaJ=true)
  (sa_zaJ:W.findIn K (.ref C_zaJ) "__setattr__"=some (some (.builtin "object.__setattr__")))
  (mk_zaJ:PySem.W.makesIn K C_zaJ=true)
  (kc_zaJ:W.keepIn K (.ref C_zaJ)=true)
  (n_zaJ_asker:W.findIn K (.ref C_zaJ) "asker"=some none)
  (n_zaJ_least:W.findIn K (.ref C_zaJ) "least"=some none)
  (n_zaJ_start:W.findIn K (.ref C_zaJ) "start"=some none)
  (n_zaJ_end:W.findIn K (.ref C_zaJ) "end"=some none)
  (n_zaJ_reached:W.findIn K (.ref C_zaJ) "reached"=some none)
  (n_zaJ_firsts:W.findIn K (.ref C_zaJ) "firsts"=some none)
  (n_zaJ_orders:W.findIn K (.ref C_zaJ) "orders"=some none)
  (n_zaJ_grades:W.findIn K (.ref C_zaJ) "grades"=some none)
  (a_zat:W.findIn K (.ref C_zaJ) "__init__"=some (some (.ref f_zat)))
  (i_zat:PySem.W.isFn K (.ref f_zat)=true)
  (l_zat:K.lookup f_zat=some ⟨oc_zat,od_zat,.func (W.fnOf "__init__" "Pile.__init__" (ZAL ZBF) (ZAK ZBF) (ZAC ZBF) (.ref T_zat) kV_zat dc_zat pm_zat an_zat cd_zat ct_zat),sl_zat⟩)
  (c_zat:W.codeIn K cd_zat "Pile.__init__"=true)
  (d_zat:K.lookup T_zat=some ⟨ocT_zat,odT_zat,.seq ([.int 1 td_zat_0,.none]:List Value).toArray nT_zat,slT_zat⟩)
  (k_zat:W.keepIn K (.ref f_zat)=true)
  (a_zaf:W.findIn K (.ref C_zaJ) "beyond_of"=some (some (.ref f_zaf)))
  (i_zaf:PySem.W.isFn K (.ref f_zaf)=true)
  (l_zaf:K.lookup f_zaf=some ⟨oc_zaf,od_zaf,.func (W.fnOf "beyond_of" "Pile.beyond_of" (ZAL ZAk) (ZAK ZAk) (ZAC ZAk) .none kV_zaf dc_zaf pm_zaf an_zaf cd_zaf ct_zaf),sl_zaf⟩)
  (c_zaf:W.codeIn K cd_zaf "Pile.beyond_of"=true)
  (k_zaf:W.keepIn K (.ref f_zaf)=true)
  (a_zaa:W.findIn K (.ref C_zaJ) "is_due_beneath"=some (some (.ref f_zaa)))
  (i_zaa:PySem.W.isFn K (.ref f_zaa)=true)
  (l_zaa:K.lookup f_zaa=some ⟨oc_zaa,od_zaa,.func (W.fnOf "is_due_beneath" "Pile.is_due_beneath" (ZAL ZAU) (ZAK ZAU) (ZAC ZAU) .none kV_zaa dc_zaa pm_zaa an_zaa cd_zaa ct_zaa),sl_zaa⟩)
  (c_zaa:W.codeIn K cd_zaa "Pile.is_due_beneath"=true)
  (k_zaa:W.keepIn K (.ref f_zaa)=true)
  (a_zab:W.findIn K (.ref C_zaJ) "grade_on_top"=some (some (.ref f_zab)))
  (i_zab:PySem.W.isFn K (.ref f_zab)=true)
  (l_zab:K.lookup f_zab=some ⟨oc_zab,od_zab,.func (W.fnOf "grade_on_top" "Pile.grade_on_top" (ZAL ZAY) (ZAK ZAY) (ZAC ZAY) .none kV_zab dc_zab pm_zab an_zab cd_zab ct_zab),sl_zab⟩)
  (c_zab:W.codeIn K cd_zab "Pile.grade_on_top"=true)
  (k_zab:W.keepIn K (.ref f_zab)=true)
  (a_zag:W.findIn K (.ref C_zaJ) "join_two"=some (some (.ref f_zag)))
  (i_zag:PySem.W.isFn K (.ref f_zag)=true)
  (l_zag:K.lookup f_zag=some ⟨oc_zag,od_zag,.func (W.fnOf "join_two" "Pile.join_two" (ZAL ZAs) (ZAK ZAs) (ZAC ZAs) .none kV_zag dc_zag pm_zag an_zag cd_zag ct_zag),sl_zag⟩)
  (c_zag:W.codeIn K cd_zag "Pile.join_two"=true)
  (k_zag:W.keepIn K (.ref f_zag)=true)
  (a_zau:W.findIn K (.ref C_zaJ) "lay"=some (some (.ref f_zau)))
  (i_zau:PySem.W.isFn K (.ref f_zau)=true)
  (l_zau:K.lookup f_zau=some ⟨oc_zau,od_zau,.func (W.fnOf "lay" "Pile.lay" (ZAL ZBL) (ZAK ZBL) (ZAC ZBL) .none kV_zau dc_zau pm_zau an_zau cd_zau ct_zau),sl_zau⟩)
  (c_zau:W.codeIn K cd_zau "Pile.lay"=true)
  (k_zau:W.keepIn K (.ref f_zau)=true)
  (a_zar:W.findIn K (.ref C_zaJ) "step"=some (some (.ref f_zar)))
  (i_zar:PySem.W.isFn K (.ref f_zar)=true)
  (l_zar:K.lookup f_zar=some ⟨oc_zar,od_zar,.func (W.fnOf "step" "Pile.step" (ZAL ZBE) (ZAK ZBE) (ZAC ZBE) .none kV_zar dc_zar pm_zar an_zar cd_zar ct_zar),sl_zar⟩)
  (c_zar:W.codeIn K cd_zar "Pile.step"=true)
  (k_zar:W.keepIn K (.ref f_zar)=true)
  (a_zap:W.findIn K (.ref C_zaJ) "paper"=some (some (.ref f_zap)))
  (i_zap:PySem.W.isFn K (.ref f_zap)=true)
  (l_zap:K.lookup f_zap=some ⟨oc_zap,od_zap,.func (W.fnOf "paper" "Pile.paper" (ZAL ZA8) (ZAK ZA8) (ZAC ZA8) .none kV_zap dc_zap pm_zap an_zap cd_zap ct_zap),sl_zap⟩)
  (c_zap:W.codeIn K cd_zap "Pile.paper"=true)
  (k_zap:W.keepIn K (.ref f_zap)=true)
  (a_zah:W.findIn K (.ref C_zaJ) "standing"=some (some (.ref f_zah)))
  (i_zah:PySem.W.isFn K (.ref f_zah)=true)
  (l_zah:K.lookup f_zah=some ⟨oc_zah,od_zah,.func (W.fnOf "standing" "Pile.standing" (ZAL ZAr) (ZAK ZAr) (ZAC ZAr) .none kV_zah dc_zah pm_zah an_zah cd_zah ct_zah),sl_zah⟩)
  (c_zah:W.codeIn K cd_zah "Pile.standing"=true)
  (k_zah:W.keepIn K (.ref f_zah)=true)
  (a_zaI:W.nsIn K mainGlobals "Asker"=some (some (.ref C_zaI)))
  (pg_zaI:PySem.W.plainGet K C_zaI Str.empty=true)
  (hd_zaI:PySem.W.hasDictIn K C_zaI=true)
  (po_zaI:PySem.W.plainOver K C_zaI=true)
  (sa_zaI:W.findIn K (.ref C_zaI) "__setattr__"=some (some (.builtin "object.__setattr__")))
  (mk_zaI:PySem.W.makesIn K C_zaI=true)
  (kc_zaI:W.keepIn K (.ref C_zaI)=true)
  (n_zaI_row:W.findIn K (.ref C_zaI) "row"=some none)
  (n_zaI_rule:W.findIn K (.ref C_zaI) "rule"=some none)
  (n_zaI_most:W.findIn K (.ref C_zaI) "most"=some none)
  (n_zaI_asked:W.findIn K (.ref C_zaI) "asked"=some none)
  (n_zaI_told:W.findIn K (.ref C_zaI) "told"=some none)
  (a_zaq:W.findIn K (.ref C_zaI) "__init__"=some (some (.ref f_zaq)))
  (i_zaq:PySem.W.isFn K (.ref f_zaq)=true)
  (l_zaq:K.lookup f_zaq=some ⟨oc_zaq,od_zaq,.func (W.fnOf "__init__" "Asker.__init__" (ZAL ZBB) (ZAK ZBB) (ZAC ZBB) (.ref T_zaq) kV_zaq dc_zaq pm_zaq an_zaq cd_zaq ct_zaq),sl_zaq⟩)
  (c_zaq:W.codeIn K cd_zaq "Asker.__init__"=true)
  (d_zaq:K.lookup T_zaq=some ⟨ocT_zaq,odT_zaq,.seq ([.none]:List Value).toArray nT_zaq,slT_zaq⟩)
  (k_zaq:W.keepIn K (.ref f_zaq)=true)
  (a_zan:W.findIn K (.ref C_zaI) "many"=some (some (.ref f_zan)))
  (i_zan:PySem.W.isFn K (.ref f_zan)=true)
  (l_zan:K.lookup f_zan=some ⟨oc_zan,od_zan,.func (W.fnOf "many" "Asker.many" (ZAL ZBA) (ZAK ZBA) (ZAC ZBA) .none kV_zan dc_zan pm_zan an_zan cd_zan ct_zan),sl_zan⟩)
  (c_zan:W.codeIn K cd_zan "Asker.many"=true)
  (k_zan:W.keepIn K (.ref f_zan)=true)
  (a_zam:W.findIn K (.ref C_zaI) "ahead"=some (some (.ref f_zam)))
  (i_zam:PySem.W.isFn K (.ref f_zam)=true)
  (l_zam:K.lookup f_zam=some ⟨oc_zam,od_zam,.func (W.fnOf "ahead" "Asker.ahead" (ZAL ZA3) (ZAK ZA3) (ZAC ZA3) .none kV_zam dc_zam pm_zam an_zam cd_zam ct_zam),sl_zam⟩)
  (c_zam:W.codeIn K cd_zam "Asker.ahead"=true)
  (k_zam:W.keepIn K (.ref f_zam)=true)
  (a_zaH:W.nsIn K mainGlobals "AskedRule"=some (some (.ref C_zaH)))
  (pg_zaH:PySem.W.plainGet K C_zaH Str.empty=true)
  (hd_zaH:PySem.W.hasDictIn K C_zaH=true)
  (po_zaH:PySem.W.plainOver K C_zaH=true)
  (sa_zaH:W.findIn K (.ref C_zaH) "__setattr__"=some (some (.builtin "object.__setattr__")))
  (mk_zaH:PySem.W.makesIn K C_zaH=true)
  (kc_zaH:W.keepIn K (.ref C_zaH)=true)
  (n_zaH_teller:W.findIn K (.ref C_zaH) "teller"=some none)
  (a_zae:W.findIn K (.ref C_zaH) "__init__"=some (some (.ref f_zae)))
  (i_zae:PySem.W.isFn K (.ref f_zae)=true)
  (l_zae:K.lookup f_zae=some ⟨oc_zae,od_zae,.func (W.fnOf "__init__" "AskedRule.__init__" (ZAL ZAm) (ZAK ZAm) (ZAC ZAm) .none kV_zae dc_zae pm_zae an_zae cd_zae ct_zae),sl_zae⟩)
  (c_zae:W.codeIn K cd_zae "AskedRule.__init__"=true)
  (k_zae:W.keepIn K (.ref f_zae)=true)
  (a_zac:W.findIn K (.ref C_zaH) "before"=some (some (.ref f_zac)))
  (i_zac:PySem.W.isFn K (.ref f_zac)=true)
  (l_zac:K.lookup f_zac=some ⟨oc_zac,od_zac,.func (W.fnOf "before" "AskedRule.before" (ZAL ZAb) (ZAK ZAb) (ZAC ZAb) .none kV_zac dc_zac pm_zac an_zac cd_zac ct_zac),sl_zac⟩)
  (c_zac:W.codeIn K cd_zac "AskedRule.before"=true)
  (k_zac:W.keepIn K (.ref f_zac)=true)
  (a_zak:W.nsIn K mainGlobals "stretch_from"=some (some (.ref f_zak)))
  (l_zak:K.lookup f_zak=some ⟨oc_zak,od_zak,.func (W.fnOf "stretch_from" "stretch_from" (ZAL ZAz) (ZAK ZAz) (ZAC ZAz) (.ref T_zak) kV_zak dc_zak pm_zak an_zak cd_zak ct_zak),sl_zak⟩)
  (c_zak:W.codeIn K cd_zak "stretch_from"=true)
  (d_zak:K.lookup T_zak=some ⟨ocT_zak,odT_zak,.seq ([.none]:List Value).toArray nT_zak,slT_zak⟩)
  (k_zak:W.keepIn K (.ref f_zak)=true)
  (a_zaw:W.nsIn K mainGlobals "in_turn"=some (some (.ref f_zaw)))
  (l_zaw:K.lookup f_zaw=some ⟨oc_zaw,od_zaw,.func (W.fnOf "in_turn" "in_turn" (ZAL ZBY) (ZAK ZBY) (ZAC ZBY) .none kV_zaw dc_zaw pm_zaw an_zaw cd_zaw ct_zaw),sl_zaw⟩)
  (c_zaw:W.codeIn K cd_zaw "in_turn"=true)
  (k_zaw:W.keepIn K (.ref f_zaw)=true)
  (a_zax:W.nsIn K mainGlobals "spot_of"=some (some (.ref f_zax)))
  (l_zax:K.lookup f_zax=some ⟨oc_zax,od_zax,.func (W.fnOf "spot_of" "spot_of" (ZAL ZBX) (ZAK ZBX) (ZAC ZBX) .none kV_zax dc_zax pm_zax an_zax cd_zax ct_zax),sl_zax⟩)
  (c_zax:W.codeIn K cd_zax "spot_of"=true)
  (k_zax:W.keepIn K (.ref f_zax)=true)
  (a_zaB:W.nsIn K mainGlobals "filled"=some (some (.ref f_zaB)))
  (l_zaB:K.lookup f_zaB=some ⟨oc_zaB,od_zaB,.func (W.fnOf "filled" "filled" (ZAL ZBo) (ZAK ZBo) (ZAC ZBo) (.ref T_zaB) kV_zaB dc_zaB pm_zaB an_zaB cd_zaB ct_zaB),sl_zaB⟩)
  (c_zaB:W.codeIn K cd_zaB "filled"=true)
  (d_zaB:K.lookup T_zaB=some ⟨ocT_zaB,odT_zaB,.seq ([.none]:List Value).toArray nT_zaB,slT_zaB⟩)
  (k_zaB:W.keepIn K (.ref f_zaB)=true)
  (a_zaE:W.nsIn K mainGlobals "leap"=some (some (.ref f_zaE)))
  (l_zaE:K.lookup f_zaE=some ⟨oc_zaE,od_zaE,.func (W.fnOf "leap" "leap" (ZAL ZCd) (ZAK ZCd) (ZAC ZCd) .none kV_zaE dc_zaE pm_zaE an_zaE cd_zaE ct_zaE),sl_zaE⟩)
  (c_zaE:W.codeIn K cd_zaE "leap"=true)
  (k_zaE:W.keepIn K (.ref f_zaE)=true)
  (a_zaz:W.nsIn K mainGlobals "joined"=some (some (.ref f_zaz)))
  (l_zaz:K.lookup f_zaz=some ⟨oc_zaz,od_zaz,.func (W.fnOf "joined" "joined" (ZAL ZBn) (ZAK ZBn) (ZAC ZBn) .none kV_zaz dc_zaz pm_zaz an_zaz cd_zaz ct_zaz),sl_zaz⟩)
  (c_zaz:W.codeIn K cd_zaz "joined"=true)
  (k_zaz:W.keepIn K (.ref f_zaz)=true)
  (a_zaC:W.nsIn K mainGlobals "grade"=some (some (.ref f_zaC)))
  (l_zaC:K.lookup f_zaC=some ⟨oc_zaC,od_zaC,.func (W.fnOf "grade" "grade" (ZAL ZCG) (ZAK ZCG) (ZAC ZCG) .none kV_zaC dc_zaC pm_zaC an_zaC cd_zaC ct_zaC),sl_zaC⟩)
  (c_zaC:W.codeIn K cd_zaC "grade"=true)
  (k_zaC:W.keepIn K (.ref f_zaC)=true)
  (a_zay:W.nsIn K mainGlobals "_law_cell_at"=some (some (.ref f_zay)))
  (l_zay:K.lookup f_zay=some ⟨oc_zay,od_zay,.func (W.fnOf "_law_cell_at" "_law_cell_at" (ZAL ZBZ) (ZAK ZBZ) (ZAC ZBZ) .none kV_zay dc_zay pm_zay an_zay cd_zay ct_zay),sl_zay⟩)
  (c_zay:W.codeIn K cd_zay "_law_cell_at"=true)
  (k_zay:W.keepIn K (.ref f_zay)=true)
  (a_zaD:W.nsIn K mainGlobals "_law_most"=some (some (.ref f_zaD)))
  (l_zaD:K.lookup f_zaD=some ⟨oc_zaD,od_zaD,.func (W.fnOf "_law_most" "_law_most" (ZAL ZCc) (ZAK ZCc) (ZAC ZCc) .none kV_zaD dc_zaD pm_zaD an_zaD cd_zaD ct_zaD),sl_zaD⟩)
  (c_zaD:W.codeIn K cd_zaD "_law_most"=true)
  (k_zaD:W.keepIn K (.ref f_zaD)=true)
  (a_zaG:W.nsIn K mainGlobals "_law_sum"=some (some (.ref f_zaG)))
  (l_zaG:K.lookup f_zaG=some ⟨oc_zaG,od_zaG,.func (W.fnOf "_law_sum" "_law_sum" (ZAL ZDU) (ZAK ZDU) (ZAC ZDU) .none kV_zaG dc_zaG pm_zaG an_zaG cd_zaG ct_zaG),sl_zaG⟩)
  (c_zaG:W.codeIn K cd_zaG "_law_sum"=true)
  (k_zaG:W.keepIn K (.ref f_zaG)=true)
  (a_zaF:W.nsIn K mainGlobals "law"=some (some (.ref f_zaF)))
  (l_zaF:K.lookup f_zaF=some ⟨oc_zaF,od_zaF,.func (W.fnOf "law" "law" (ZAL ZCp) (ZAK ZCp) (ZAC ZCp) .none kV_zaF dc_zaF pm_zaF an_zaF cd_zaF ct_zaF),sl_zaF⟩)
  (c_zaF:W.codeIn K cd_zaF "law"=true)
  (k_zaF:W.keepIn K (.ref f_zaF)=true)
  (a_zaA:W.nsIn K mainGlobals "_law_teller"=some (some (.ref f_zaA)))
  (l_zaA:K.lookup f_zaA=some ⟨oc_zaA,od_zaA,.func (W.fnOf "_law_teller" "_law_teller" (ZAL ZBd) (ZAK ZBd) (ZAC ZBd) .none kV_zaA dc_zaA pm_zaA an_zaA (.ref cc_zaA) ct_zaA),sl_zaA⟩)
  (c_zaA:W.codeIn K (.ref cc_zaA) "_law_teller"=true)
  (lc_zaA:K.lookup cc_zaA=some ⟨oc2_zaA,od2_zaA,.fields vs_zaA,sl2_zaA⟩)
  (tp_zaA:vs_zaA[11]?=some (.ref Pt_zaA))
  (k_zaA:W.keepIn K (.ref f_zaA)=true)
  (z_LEFT:W.nsIn K mainGlobals "LEFT"=some (some (.int 0 t_LEFT)))
  (z_RIGHT:W.nsIn K mainGlobals "RIGHT"=some (some (.int 1 t_RIGHT)))
  (z_WINS_TO_LEAP:W.nsIn K mainGlobals "WINS_TO_LEAP"=some (some (.int 4 t_WINS_TO_LEAP)))
  (z_len:W.nsIn K mainGlobals "len"=some none)
  (z_range:W.nsIn K mainGlobals "range"=some none)
  (z_list:W.nsIn K mainGlobals "list"=some none)
  (z_max:W.nsIn K mainGlobals "max"=some none)
  (z_min:W.nsIn K mainGlobals "min"=some none)
  (z_sorted:W.nsIn K mainGlobals "sorted"=some none)
  (z_enumerate:W.nsIn K mainGlobals "enumerate"=some none)
  (z_ValueError:W.nsIn K mainGlobals "ValueError"=some none)
  (kit_int_bool:PySem.W.kitOne K (.type "int") (.type "bool")=some false)
  (nt:PySem.W.noTabs K=true) :
  ∃ (tabs:List (Addr×Addr)) (fd:FuncData),PySem.W.noTabs K=true /\ (∀ t∈tabs,∃ y∈(["_law_teller"]:List Str),PySem.W.tabIn K y=some t) /\ (∀ (s:Shared) (v:Value),BindsTo s fd ⟨[v],[]⟩ [("_law_script",v)]) /\ ∀ base:Heap,K.In base->base.Ns mainGlobals mg->(∀ t∈tabs,PySem.W.CodeHd base t.1 t.2)->ZC3 mg base->FnOk l.prog w K mg base CX0 9 fa fd ["_law_script"] (ZDd K tabs):=by
 have e:=hfa.symm.trans (PySem.W.mg_of X G a_zaF)
 cases e
 have cl_zaK:Cls K C_zaK:=⟨pg_zaK,hd_zaK,po_zaK,sa_zaK⟩
 have F_zas:=ZAo (st:=ZBG) l_zas c_zas k_zas
 have b_zas:=F_zas.binds (ps:=["self","asker","left","right"]) fun _ _ _ _ _ _ us hl=>by obtain ⟨_,_,_,_,rfl⟩:=us4 hl;rfl
 have F_zai:=ZAo (st:=ZAt) l_zai c_zai k_zai
 have b_zai:=F_zai.binds (ps:=["self","side"]) fun _ _ _ _ _ _ us hl=>by obtain ⟨_,_,rfl⟩:=us2 hl;rfl
 have F_zao:=ZAo (st:=ZA9) l_zao c_zao k_zao
 have b_zao:=F_zao.binds (ps:=["self","side"]) fun _ _ _ _ _ _ us hl=>by obtain ⟨_,_,rfl⟩:=us2 hl;rfl
 have F_zaj:=ZAo (st:=ZA0) l_zaj c_zaj k_zaj
 have b_zaj:=F_zaj.binds (ps:=["self","side","more"]) fun _ _ _ _ _ _ us hl=>by obtain ⟨_,_,_,rfl⟩:=us3 hl;rfl
 have F_zad:=ZAo (st:=ZAl) l_zad c_zad k_zad
 have b_zad:=F_zad.binds (ps:=["self","side"]) fun _ _ _ _ _ _ us hl=>by obtain ⟨_,_,rfl⟩:=us2 hl;rfl
 have F_zav:=ZAo (st:=ZBM) l_zav c_zav k_zav
 have b_zav:=F_zav.binds (ps:=["self"]) fun _ _ _ _ _ _ us hl=>by obtain ⟨_,rfl⟩:=us1 hl;rfl
 have F_zal:=ZAo (st:=ZA1) l_zal c_zal k_zal
 have b_zal:=F_zal.binds (ps:=["self","side"]) fun _ _ _ _ _ _ us hl=>by obtain ⟨_,_,rfl⟩:=us2 hl;rfl
 have cl_zaJ:Cls K C_zaJ:=⟨pg_zaJ,hd_zaJ,po_zaJ,sa_zaJ⟩
 have F_zat:=ZCv (st:=ZBF) l_zat c_zat k_zat d_zat
 have b_zat_4:=F_zat.binds (ps:=["self","asker","least","part"]) (ds:=[]) fun _ _ _ _ _ _ _ us hl=>by obtain ⟨_,_,_,_,rfl⟩:=us4 (ZB2 (n:=4) hl rfl);exact ⟨_,rfl,rfl⟩
 have b_zat_3:=F_zat.binds (ps:=["self","asker","least","part"]) (ds:=[.none]) fun _ _ _ _ _ _ _ us hl=>by obtain ⟨_,_,_,rfl⟩:=us3 (ZB2 (n:=3) hl rfl);exact ⟨_,rfl,rfl⟩
 have b_zat_2:=F_zat.binds (ps:=["self","asker","least","part"]) (ds:=[.int 1 td_zat_0,.none]) fun _ _ _ _ _ _ _ us hl=>by obtain ⟨_,_,rfl⟩:=us2 (ZB2 (n:=2) hl rfl);exact ⟨_,rfl,rfl⟩
 have F_zaf:=ZAo (st:=ZAk) l_zaf c_zaf k_zaf
 have b_zaf:=F_zaf.binds (ps:=["self","number"]) fun _ _ _ _ _ _ us hl=>by obtain ⟨_,_,rfl⟩:=us2 hl;rfl
 have F_zaa:=ZAo (st:=ZAU) l_zaa c_zaa k_zaa
 have b_zaa:=F_zaa.binds (ps:=["self"]) fun _ _ _ _ _ _ us hl=>by obtain ⟨_,rfl⟩:=us1 hl;rfl
 have F_zab:=ZAo (st:=ZAY) l_zab c_zab k_zab
 have b_zab:=F_zab.binds (ps:=["self","middle","beyond"]) fun _ _ _ _ _ _ us hl=>by obtain ⟨_,_,_,rfl⟩:=us3 hl;rfl
 have F_zag:=ZAo (st:=ZAs) l_zag c_zag k_zag
 have b_zag:=F_zag.binds (ps:=["self","lower"]) fun _ _ _ _ _ _ us hl=>by obtain ⟨_,_,rfl⟩:=us2 hl;rfl
 have F_zau:=ZAo (st:=ZBL) l_zau c_zau k_zau
 have b_zau:=F_zau.binds (ps:=["self"]) fun _ _ _ _ _ _ us hl=>by obtain ⟨_,rfl⟩:=us1 hl;rfl
 have F_zar:=ZAo (st:=ZBE) l_zar c_zar k_zar
 have b_zar:=F_zar.binds (ps:=["self"]) fun _ _ _ _ _ _ us hl=>by obtain ⟨_,rfl⟩:=us1 hl;rfl
 have F_zap:=ZAo (st:=ZA8) l_zap c_zap k_zap
 have b_zap:=F_zap.binds (ps:=["self"]) fun _ _ _ _ _ _ us hl=>by obtain ⟨_,rfl⟩:=us1 hl;rfl
 have F_zah:=ZAo (st:=ZAr) l_zah c_zah k_zah
 have b_zah:=F_zah.binds (ps:=["self"]) fun _ _ _ _ _ _ us hl=>by obtain ⟨_,rfl⟩:=us1 hl;rfl
 have cl_zaI:Cls K C_zaI:=⟨pg_zaI,hd_zaI,po_zaI,sa_zaI⟩
 have F_zaq:=ZCv (st:=ZBB) l_zaq c_zaq k_zaq d_zaq
 have b_zaq_4:=F_zaq.binds (ps:=["self","row","rule","most"]) (ds:=[]) fun _ _ _ _ _ _ _ us hl=>by obtain ⟨_,_,_,_,rfl⟩:=us4 (ZB2 (n:=4) hl rfl);exact ⟨_,rfl,rfl⟩
 have b_zaq_3:=F_zaq.binds (ps:=["self","row","rule","most"]) (ds:=[.none]) fun _ _ _ _ _ _ _ us hl=>by obtain ⟨_,_,_,rfl⟩:=us3 (ZB2 (n:=3) hl rfl);exact ⟨_,rfl,rfl⟩
 have F_zan:=ZAo (st:=ZBA) l_zan c_zan k_zan
 have b_zan:=F_zan.binds (ps:=["self"]) fun _ _ _ _ _ _ us hl=>by obtain ⟨_,rfl⟩:=us1 hl;rfl
 have F_zam:=ZAo (st:=ZA3) l_zam c_zam k_zam
 have b_zam:=F_zam.binds (ps:=["self","p","q"]) fun _ _ _ _ _ _ us hl=>by obtain ⟨_,_,_,rfl⟩:=us3 hl;rfl
 have cl_zaH:Cls K C_zaH:=⟨pg_zaH,hd_zaH,po_zaH,sa_zaH⟩
 have F_zae:=ZAo (st:=ZAm) l_zae c_zae k_zae
 have b_zae:=F_zae.binds (ps:=["self","teller"]) fun _ _ _ _ _ _ us hl=>by obtain ⟨_,_,rfl⟩:=us2 hl;rfl
 have F_zac:=ZAo (st:=ZAb) l_zac c_zac k_zac
 have b_zac:=F_zac.binds (ps:=["self","x","y"]) fun _ _ _ _ _ _ us hl=>by obtain ⟨_,_,_,rfl⟩:=us3 hl;rfl
 have F_zak:=ZCv (st:=ZAz) l_zak c_zak k_zak d_zak
 have b_zak_3:=F_zak.binds (ps:=["asker","first","end"]) (ds:=[]) fun _ _ _ _ _ _ _ us hl=>by obtain ⟨_,_,_,rfl⟩:=us3 (ZB2 (n:=3) hl rfl);exact ⟨_,rfl,rfl⟩
 have b_zak_2:=F_zak.binds (ps:=["asker","first","end"]) (ds:=[.none]) fun _ _ _ _ _ _ _ us hl=>by obtain ⟨_,_,rfl⟩:=us2 (ZB2 (n:=2) hl rfl);exact ⟨_,rfl,rfl⟩
 have F_zaw:=ZAo (st:=ZBY) l_zaw c_zaw k_zaw
 have b_zaw:=F_zaw.binds (ps:=["first","beyond","falling"]) fun _ _ _ _ _ _ us hl=>by obtain ⟨_,_,_,rfl⟩:=us3 hl;rfl
 have F_zax:=ZAo (st:=ZBX) l_zax c_zax k_zax
 have b_zax:=F_zax.binds (ps:=["asker","order","place"]) fun _ _ _ _ _ _ us hl=>by obtain ⟨_,_,_,rfl⟩:=us3 hl;rfl
 have F_zaB:=ZCv (st:=ZBo) l_zaB c_zaB k_zaB d_zaB
 have b_zaB_4:=F_zaB.binds (ps:=["asker","first","least","end"]) (ds:=[]) fun _ _ _ _ _ _ _ us hl=>by obtain ⟨_,_,_,_,rfl⟩:=us4 (ZB2 (n:=4) hl rfl);exact ⟨_,rfl,rfl⟩
 have b_zaB_3:=F_zaB.binds (ps:=["asker","first","least","end"]) (ds:=[.none]) fun _ _ _ _ _ _ _ us hl=>by obtain ⟨_,_,_,rfl⟩:=us3 (ZB2 (n:=3) hl rfl);exact ⟨_,rfl,rfl⟩
 have F_zaE:=ZAo (st:=ZCd) l_zaE c_zaE k_zaE
 have b_zaE:=F_zaE.binds (ps:=["asker","order","first","place"]) fun _ _ _ _ _ _ us hl=>by obtain ⟨_,_,_,_,rfl⟩:=us4 hl;rfl
 have F_zaz:=ZAo (st:=ZBn) l_zaz c_zaz k_zaz
 have b_zaz:=F_zaz.binds (ps:=["asker","left","right"]) fun _ _ _ _ _ _ us hl=>by obtain ⟨_,_,_,rfl⟩:=us3 hl;rfl
 have F_zaC:=ZAo (st:=ZCG) l_zaC c_zaC k_zaC
 have b_zaC:=F_zaC.binds (ps:=["many","first","middle","beyond"]) fun _ _ _ _ _ _ us hl=>by obtain ⟨_,_,_,_,rfl⟩:=us4 hl;rfl
 have F_zay:=ZAo (st:=ZBZ) l_zay c_zay k_zay
 have b_zay:=F_zay.binds (ps:=["_law_script","_law_k"]) fun _ _ _ _ _ _ us hl=>by obtain ⟨_,_,rfl⟩:=us2 hl;rfl
 have F_zaD:=ZAo (st:=ZCc) l_zaD c_zaD k_zaD
 have b_zaD:=F_zaD.binds (ps:=["_law_step","_law_many"]) fun _ _ _ _ _ _ us hl=>by obtain ⟨_,_,rfl⟩:=us2 hl;rfl
 have F_zaG:=ZAo (st:=ZDU) l_zaG c_zaG k_zaG
 have b_zaG:=F_zaG.binds (ps:=["_law_lays","_law_many"]) fun _ _ _ _ _ _ us hl=>by obtain ⟨_,_,rfl⟩:=us2 hl;rfl
 have F_zaF:=ZAo (st:=ZCp) l_zaF c_zaF k_zaF
 have b_zaF:=F_zaF.binds (ps:=["_law_script"]) fun _ _ _ _ _ _ us hl=>by obtain ⟨_,rfl⟩:=us1 hl;rfl
 have F_zaA:=ZAo (st:=ZBd) l_zaA c_zaA k_zaA
 have b_zaA:=F_zaA.binds (ps:=["_law_bits","_law_way","_law_written"]) fun _ _ _ _ _ _ us hl=>by obtain ⟨_,_,_,rfl⟩:=us3 hl;rfl
 have T:Bt K mg C_zaK C_zaJ C_zaI C_zaH:=⟨PySem.W.mg_none_of X G z_len,PySem.W.mg_none_of X G z_range,PySem.W.mg_none_of X G z_list,PySem.W.mg_none_of X G z_max,PySem.W.mg_none_of X G z_min,PySem.W.mg_none_of X G z_sorted,PySem.W.mg_none_of X G z_enumerate,PySem.W.mg_none_of X G z_ValueError,⟨_,PySem.W.mg_of X G z_LEFT⟩,⟨_,PySem.W.mg_of X G z_RIGHT⟩,⟨_,PySem.W.mg_of X G z_WINS_TO_LEAP⟩,PySem.W.mg_of X G a_zaK,cl_zaK,n_zaK_asker,n_zaK_sides,n_zaK_taken,n_zaK_places,PySem.W.mg_of X G a_zaJ,cl_zaJ,n_zaJ_asker,n_zaJ_least,n_zaJ_start,n_zaJ_end,n_zaJ_reached,n_zaJ_firsts,n_zaJ_orders,n_zaJ_grades,PySem.W.mg_of X G a_zaI,cl_zaI,n_zaI_row,n_zaI_rule,n_zaI_most,n_zaI_asked,n_zaI_told,PySem.W.mg_of X G a_zaH,cl_zaH,n_zaH_teller,kit_int_bool⟩
 refine ⟨[(cc_zaA,Pt_zaA)],W.fnOf "law" "law" (ZAL ZCp) (ZAK ZCp) (ZAC ZCp) .none kV_zaF dc_zaF pm_zaF an_zaF cd_zaF ct_zaF,nt,List.forall_mem_cons.mpr ⟨⟨"_law_teller",by simp,tabIn_of a_zaA l_zaA rfl lc_zaA tp_zaA⟩,fun _ h=>nomatch h⟩,fun s v=>.of_eq rfl,fun base _ _ hC hB=>?_⟩
 have f_zaG':Fn l.prog w K mg base CX0 "_law_sum" 1 ["_law_lays","_law_many"] (ZC5):=⟨_,_,ok_sum F_zaG T ,b_zaG,k_zaG,PySem.W.mg_of X G a_zaG⟩
 have f_zay':Fn l.prog w K mg base CX0 "_law_cell_at" 1 ["_law_script","_law_k"] (ZDe K):=⟨_,_,ok_cell_at F_zay T ,b_zay,k_zay,PySem.W.mg_of X G a_zay⟩
 have f_zaA':Fn l.prog w K mg base CX0 "_law_teller" 1 ["_law_bits","_law_way","_law_written"] (ZDH Pt_zaA (ZDk ZAN) "_law_ask" "_law_teller.<locals>._law_ask" (ZAL ZAN) (ZAK ZAN) (ZAC ZAN) ["_law_way","_law_bits","_law_written"] [1,0,2] 3):=⟨_,_,ok_teller F_zaA rfl (hC (cc_zaA,Pt_zaA) (by simp)) hB,b_zaA,k_zaA,PySem.W.mg_of X G a_zaA⟩
 have f_zaD':Fn l.prog w K mg base CX0 "_law_most" 1 ["_law_step","_law_many"] (ZCj):=⟨_,_,ok_most F_zaD T ,b_zaD,k_zaD,PySem.W.mg_of X G a_zaD⟩
 have t_Pile_is_due_beneath':Mt l.prog w K mg base CX0 C_zaJ "is_due_beneath" 1 ["self"] (ZD1 C_zaJ):=⟨cl_zaJ,_,_,ok_Pile_is_due_beneath F_zaa T ,b_zaa,a_zaa,i_zaa,k_zaa⟩
 have t_Join_take_on':Mt l.prog w K mg base CX0 C_zaK "take_on" 1 ["self","side","more"] (ZB4 C_zaK):=⟨cl_zaK,_,_,ok_Join_take_on F_zaj T ,b_zaj,a_zaj,i_zaj,k_zaj⟩
 have t_Join_take_rest':Mt l.prog w K mg base CX0 C_zaK "take_rest" 2 ["self","side"] (ZCB C_zaK):=⟨cl_zaK,_,_,ok_Join_take_rest F_zad T t_Join_take_on',b_zad,a_zad,i_zad,k_zad⟩
 have t_Join_has_more':Mt l.prog w K mg base CX0 C_zaK "has_more" 1 ["self","side"] (ZB5 C_zaK):=⟨cl_zaK,_,_,ok_Join_has_more F_zai T ,b_zai,a_zai,i_zai,k_zai⟩
 have clo_teller':CloOk l.prog w K mg base 1 (ZA7):=clo_teller T
 have t_AskedRule_before':Mt l.prog w K mg base CX0 C_zaH "before" 2 ["self","x","y"] (ZCL C_zaH ZA7):=⟨cl_zaH,_,_,ok_AskedRule_before F_zac T clo_teller',b_zac,a_zac,i_zac,k_zac⟩
 have t_Asker_ahead':Mt l.prog w K mg base CX0 C_zaI "ahead" 3 ["self","p","q"] (ZBy C_zaI C_zaH ZA7):=⟨cl_zaI,_,_,ok_Asker_ahead F_zam T t_AskedRule_before',b_zam,a_zam,i_zam,k_zam⟩
 have t_Join_front':Mt l.prog w K mg base CX0 C_zaK "front" 1 ["self","side"] (ZCn C_zaK):=⟨cl_zaK,_,_,ok_Join_front F_zao T ,b_zao,a_zao,i_zao,k_zao⟩
 have t_Join_win':Mt l.prog w K mg base CX0 C_zaK "win" 4 ["self"] (ZDz C_zaI C_zaH C_zaK):=⟨cl_zaK,_,_,ok_Join_win F_zav T t_Join_take_on' t_Asker_ahead' t_Join_front',b_zav,a_zav,i_zav,k_zav⟩
 have f_zaE':Fn l.prog w K mg base CX0 "leap" 4 ["asker","order","first","place"] (ZDc C_zaI C_zaH):=⟨_,_,ok_leap F_zaE T t_Asker_ahead',b_zaE,k_zaE,PySem.W.mg_of X G a_zaE⟩
 have t_Join_leap_on':Mt l.prog w K mg base CX0 C_zaK "leap_on" 5 ["self","side"] (ZCk C_zaI C_zaH C_zaK):=⟨cl_zaK,_,_,ok_Join_leap_on F_zal T f_zaE' t_Join_take_on' t_Join_has_more' t_Join_front',b_zal,a_zal,i_zal,k_zal⟩
 have k_zaK':Kl l.prog w K mg base CX0 "Join" C_zaK 1 ["self","asker","left","right"] (ZC7 C_zaK):=⟨PySem.W.mg_of X G a_zaK,_,_,ok_Join_init F_zas T ,b_zas,mk_zaK,a_zas,i_zas,kc_zaK⟩
 have f_zaz':Fn l.prog w K mg base CX0 "joined" 6 ["asker","left","right"] (ZCl C_zaI C_zaH):=⟨_,_,ok_joined F_zaz T t_Join_take_rest' t_Join_has_more' t_Join_win' t_Join_leap_on' k_zaK',b_zaz,k_zaz,PySem.W.mg_of X G a_zaz⟩
 have t_Pile_beyond_of':Mt l.prog w K mg base CX0 C_zaJ "beyond_of" 1 ["self","number"] (ZBm C_zaJ):=⟨cl_zaJ,_,_,ok_Pile_beyond_of F_zaf T ,b_zaf,a_zaf,i_zaf,k_zaf⟩
 have t_Pile_join_two':Mt l.prog w K mg base CX0 C_zaJ "join_two" 7 ["self","lower"] (ZCQ C_zaI C_zaH C_zaJ):=⟨cl_zaJ,_,_,ok_Pile_join_two F_zag T f_zaz' t_Pile_beyond_of',b_zag,a_zag,i_zag,k_zag⟩
 have t_Asker_many':Mt l.prog w K mg base CX0 C_zaI "many" 1 ["self"] (ZC0 C_zaI):=⟨cl_zaI,_,_,ok_Asker_many F_zan T ,b_zan,a_zan,i_zan,k_zan⟩
 have f_zak':Fn l.prog w K mg base CX0 "stretch_from" 4 ["asker","first","end"] (ZCC C_zaI C_zaH):=⟨_,_,ok_stretch_from F_zak T t_Asker_ahead' t_Asker_many',b_zak_3,k_zak,PySem.W.mg_of X G a_zak⟩
 have f_zaw':Fn l.prog w K mg base CX0 "in_turn" 1 ["first","beyond","falling"] (ZCm):=⟨_,_,ok_in_turn F_zaw T ,b_zaw,k_zaw,PySem.W.mg_of X G a_zaw⟩
 have f_zax':Fn l.prog w K mg base CX0 "spot_of" 4 ["asker","order","place"] (ZCh C_zaI C_zaH):=⟨_,_,ok_spot_of F_zax T t_Asker_ahead',b_zax,k_zax,PySem.W.mg_of X G a_zax⟩
 have f_zaB':Fn l.prog w K mg base CX0 "filled" 5 ["asker","first","least","end"] (ZCo C_zaI C_zaH):=⟨_,_,ok_filled F_zaB T f_zak' f_zaw' f_zax' t_Asker_many',b_zaB_4,k_zaB,PySem.W.mg_of X G a_zaB⟩
 have f_zaC':Fn l.prog w K mg base CX0 "grade" 1 ["many","first","middle","beyond"] (ZC8):=⟨_,_,ok_grade F_zaC T ,b_zaC,k_zaC,PySem.W.mg_of X G a_zaC⟩
 have t_Pile_grade_on_top':Mt l.prog w K mg base CX0 C_zaJ "grade_on_top" 2 ["self","middle","beyond"] (ZC6 C_zaJ):=⟨cl_zaJ,_,_,ok_Pile_grade_on_top F_zab T f_zaC',b_zab,a_zab,i_zab,k_zab⟩
 have t_Pile_lay':Mt l.prog w K mg base CX0 C_zaJ "lay" 6 ["self"] (ZD0 C_zaI C_zaH C_zaJ):=⟨cl_zaJ,_,_,ok_Pile_lay F_zau T f_zaB' t_Pile_grade_on_top',b_zau,a_zau,i_zau,k_zau⟩
 have t_Pile_step':Mt l.prog w K mg base CX0 C_zaJ "step" 8 ["self"] (ZDG C_zaI C_zaH C_zaJ):=⟨cl_zaJ,_,_,ok_Pile_step F_zar T t_Pile_is_due_beneath' t_Pile_join_two' t_Pile_lay',b_zar,a_zar,i_zar,k_zar⟩
 have t_Pile_paper':Mt l.prog w K mg base CX0 C_zaJ "paper" 1 ["self"] (ZCi C_zaJ):=⟨cl_zaJ,_,_,ok_Pile_paper F_zap T ,b_zap,a_zap,i_zap,k_zap⟩
 have t_Pile_standing':Mt l.prog w K mg base CX0 C_zaJ "standing" 2 ["self"] (ZCD C_zaJ):=⟨cl_zaJ,_,_,ok_Pile_standing F_zah T t_Pile_beyond_of',b_zah,a_zah,i_zah,k_zah⟩
 have k_zaH':Kl l.prog w K mg base CX0 "AskedRule" C_zaH 1 ["self","teller"] (ZCE C_zaH):=⟨PySem.W.mg_of X G a_zaH,_,_,ok_AskedRule_init F_zae T ,b_zae,mk_zaH,a_zae,i_zae,kc_zaH⟩
 have k_zaJ_3':KlD l.prog w K mg base CX0 "Pile" C_zaJ 2 ["self","asker","least","part"] (ZCF C_zaI C_zaJ) [.non]:=⟨PySem.W.mg_of X G a_zaJ,_,_,_,ok_Pile_init F_zat T t_Asker_many',b_zat_3,(.cons rfl .nil),mk_zaJ,a_zat,i_zat,kc_zaJ⟩
 have k_zaI_3':KlD l.prog w K mg base CX0 "Asker" C_zaI 1 ["self","row","rule","most"] (ZBx C_zaI) [.non]:=⟨PySem.W.mg_of X G a_zaI,_,_,_,ok_Asker_init F_zaq T ,b_zaq_3,(.cons rfl .nil),mk_zaI,a_zaq,i_zaq,kc_zaI⟩
 exact ok_law F_zaF T f_zaG' f_zay' f_zaA' f_zaD' t_Pile_step' t_Pile_paper' t_Pile_standing' k_zaH' k_zaJ_3' k_zaI_3'
end Law
open PySem PySem.W PyProof.Rows
set_option maxRecDepth 100000 in
set_option maxHeartbeats 0 in
theorem PySem.Challenge.cw_sorthall_k57_whatever_the_rule_tells_holds : PySem.Challenge.rw_sorthall_k57_whatever_the_rule_tells.Holds := by
 refine L2.hd0 ?_
 k_fill
 refine L2.walk_ofT2 (l:=PySem.Challenge.rw_sorthall_k57_whatever_the_rule_tells) (k:=9) (x:="_law_script") (names:=["_law_teller"]) rfl rfl ⟨rfl,by decide,by decide⟩ (fun w h Y=>PySem.W.km_in_of Y) (List.forall_mem_cons.mpr ⟨⟨_,rfl⟩,fun _ h=>nomatch h⟩) ?F
 case F=>
  intro w mg fa h KX G hmg
  refine' Law.all_mk KX G hmg ?a_zaK ?pg_zaK ?hd_zaK ?po_zaK ?sa_zaK ?mk_zaK ?kc_zaK ?n_zaK_asker ?n_zaK_sides ?n_zaK_taken ?n_zaK_places ?a_zas ?i_zas ?l_zas ?c_zas ?k_zas ?a_zai ?i_zai ?l_zai ?c_zai ?k_zai ?a_zao ?i_zao ?l_zao ?c_zao ?k_zao ?a_zaj ?i_zaj ?l_zaj ?c_zaj ?k_zaj ?a_zad ?i_zad ?l_zad ?c_zad ?k_zad ?a_zav ?i_zav ?l_zav ?c_zav ?k_zav ?a_zal ?i_zal ?l_zal ?c_zal ?k_zal ?a_zaJ ?pg_zaJ ?hd_zaJ ?po_zaJ ?sa_zaJ ?mk_zaJ ?kc_zaJ ?n_zaJ_asker ?n_zaJ_least ?n_zaJ_start ?n_zaJ_end ?n_zaJ_reached ?n_zaJ_firsts ?n_zaJ_orders ?n_zaJ_grades ?a_zat ?i_zat ?l_zat ?c_zat ?d_zat ?k_zat ?a_zaf ?i_zaf ?l_zaf ?c_zaf ?k_zaf ?a_zaa ?i_zaa ?l_zaa ?c_zaa ?k_zaa ?a_zab ?i_zab ?l_zab ?c_zab ?k_zab ?a_zag ?i_zag ?l_zag ?c_zag ?k_zag ?a_zau ?i_zau ?l_zau ?c_zau ?k_zau ?a_zar ?i_zar ?l_zar ?c_zar ?k_zar ?a_zap ?i_zap ?l_zap ?c_zap ?k_zap ?a_zah ?i_zah ?l_zah ?c_zah ?k_zah ?a_zaI ?pg_zaI ?hd_zaI ?po_zaI ?sa_zaI ?mk_zaI ?kc_zaI ?n_zaI_row ?n_zaI_rule ?n_zaI_most ?n_zaI_asked ?n_zaI_told ?a_zaq ?i_zaq ?l_zaq ?c_zaq ?d_zaq ?k_zaq ?a_zan ?i_zan ?l_zan ?c_zan ?k_zan ?a_zam ?i_zam ?l_zam ?c_zam ?k_zam ?a_zaH ?pg_zaH ?hd_zaH ?po_zaH ?sa_zaH ?mk_zaH ?kc_zaH ?n_zaH_teller ?a_zae ?i_zae ?l_zae ?c_zae ?k_zae ?a_zac ?i_zac ?l_zac ?c_zac ?k_zac ?a_zak ?l_zak ?c_zak ?d_zak ?k_zak ?a_zaw ?l_zaw ?c_zaw ?k_zaw ?a_zax ?l_zax ?c_zax ?k_zax ?a_zaB ?l_zaB ?c_zaB ?d_zaB ?k_zaB ?a_zaE ?l_zaE ?c_zaE ?k_zaE ?a_zaz ?l_zaz ?c_zaz ?k_zaz ?a_zaC ?l_zaC ?c_zaC ?k_zaC ?a_zay ?l_zay ?c_zay ?k_zay ?a_zaD ?l_zaD ?c_zaD ?k_zaD ?a_zaG ?l_zaG ?c_zaG ?k_zaG ?a_zaF ?l_zaF ?c_zaF ?k_zaF ?a_zaA ?l_zaA ?c_zaA ?lc_zaA ?tp_zaA ?k_zaA ?z_LEFT ?z_RIGHT ?z_WINS_TO_LEAP ?z_len ?z_range ?z_list ?z_max ?z_min ?z_sorted ?z_enumerate ?z_ValueError ?kit_int_bool ?nt
  (case a_zaK=>k_is)
  (case pg_zaK=>k_is)
  (case hd_zaK=>k_is)
  (case po_zaK=>k_is)
  (case sa_zaK=>k_is)
  (case mk_zaK=>k_is)
  (case kc_zaK=>k_is)
  (case n_zaK_asker=>k_is)
  (case n_zaK_sides=>k_is)
  (case n_zaK_taken=>k_is)
  (case n_zaK_places=>k_is)
  (case a_zas=>k_is)
  (case i_zas=>k_is)
  (case l_zas=>k_is)
  (case c_zas=>k_is)
  (case k_zas=>k_is)
  (case a_zai=>k_is)
  (case i_zai=>k_is)
  (case l_zai=>k_is)
  (case c_zai=>k_is)
  (case k_zai=>k_is)
  (case a_zao=>k_is)
  (case i_zao=>k_is)
  (case l_zao=>k_is)
  (case c_zao=>k_is)
  (case k_zao=>k_is)
  (case a_zaj=>k_is)
  (case i_zaj=>k_is)
  (case l_zaj=>k_is)
  (case c_zaj=>k_is)
  (case k_zaj=>k_is)
  (case a_zad=>k_is)
  (case i_zad=>k_is)
  (case l_zad=>k_is)
  (case c_zad=>k_is)
  (case k_zad=>k_is)
  (case a_zav=>k_is)
  (case i_zav=>k_is)
  (case l_zav=>k_is)
  (case c_zav=>k_is)
  (case k_zav=>k_is)
  (case a_zal=>k_is)
  (case i_zal=>k_is)
  (case l_zal=>k_is)
  (case c_zal=>k_is)
  (case k_zal=>k_is)
  (case a_zaJ=>k_is)
  (case pg_zaJ=>k_is)
  (case hd_zaJ=>k_is)
  (case po_zaJ=>k_is)
  (case sa_zaJ=>k_is)
  (case mk_zaJ=>k_is)
  (case kc_zaJ=>k_is)
  (case n_zaJ_asker=>k_is)
  (case n_zaJ_least=>k_is)
  (case n_zaJ_start=>k_is)
  (case n_zaJ_end=>k_is)
  (case n_zaJ_reached=>k_is)
  (case n_zaJ_firsts=>k_is)
  (case n_zaJ_orders=>k_is)
  (case n_zaJ_grades=>k_is)
  (case a_zat=>k_is)
  (case i_zat=>k_is)
  (case l_zat=>k_is)
  (case c_zat=>k_is)
  (case d_zat=>k_is)
  (case k_zat=>k_is)
  (case a_zaf=>k_is)
  (case i_zaf=>k_is)
  (case l_zaf=>k_is)
  (case c_zaf=>k_is)
  (case k_zaf=>k_is)
  (case a_zaa=>k_is)
  (case i_zaa=>k_is)
  (case l_zaa=>k_is)
  (case c_zaa=>k_is)
  (case k_zaa=>k_is)
  (case a_zab=>k_is)
  (case i_zab=>k_is)
  (case l_zab=>k_is)
  (case c_zab=>k_is)
  (case k_zab=>k_is)
  (case a_zag=>k_is)
  (case i_zag=>k_is)
  (case l_zag=>k_is)
  (case c_zag=>k_is)
  (case k_zag=>k_is)
  (case a_zau=>k_is)
  (case i_zau=>k_is)
  (case l_zau=>k_is)
  (case c_zau=>k_is)
  (case k_zau=>k_is)
  (case a_zar=>k_is)
  (case i_zar=>k_is)
  (case l_zar=>k_is)
  (case c_zar=>k_is)
  (case k_zar=>k_is)
  (case a_zap=>k_is)
  (case i_zap=>k_is)
  (case l_zap=>k_is)
  (case c_zap=>k_is)
  (case k_zap=>k_is)
  (case a_zah=>k_is)
  (case i_zah=>k_is)
  (case l_zah=>k_is)
  (case c_zah=>k_is)
  (case k_zah=>k_is)
  (case a_zaI=>k_is)
  (case pg_zaI=>k_is)
  (case hd_zaI=>k_is)
  (case po_zaI=>k_is)
  (case sa_zaI=>k_is)
  (case mk_zaI=>k_is)
  (case kc_zaI=>k_is)
  (case n_zaI_row=>k_is)
  (case n_zaI_rule=>k_is)
  (case n_zaI_most=>k_is)
  (case n_zaI_asked=>k_is)
  (case n_zaI_told=>k_is)
  (case a_zaq=>k_is)
  (case i_zaq=>k_is)
  (case l_zaq=>k_is)
  (case c_zaq=>k_is)
  (case d_zaq=>k_is)
  (case k_zaq=>k_is)
  (case a_zan=>k_is)
  (case i_zan=>k_is)
  (case l_zan=>k_is)
  (case c_zan=>k_is)
  (case k_zan=>k_is)
  (case a_zam=>k_is)
  (case i_zam=>k_is)
  (case l_zam=>k_is)
  (case c_zam=>k_is)
  (case k_zam=>k_is)
  (case a_zaH=>k_is)
  (case pg_zaH=>k_is)
  (case hd_zaH=>k_is)
  (case po_zaH=>k_is)
  (case sa_zaH=>k_is)
  (case mk_zaH=>k_is)
  (case kc_zaH=>k_is)
  (case n_zaH_teller=>k_is)
  (case a_zae=>k_is)
  (case i_zae=>k_is)
  (case l_zae=>k_is)
  (case c_zae=>k_is)
  (case k_zae=>k_is)
  (case a_zac=>k_is)
  (case i_zac=>k_is)
  (case l_zac=>k_is)
  (case c_zac=>k_is)
  (case k_zac=>k_is)
  (case a_zak=>k_is)
  (case l_zak=>k_is)
  (case c_zak=>k_is)
  (case d_zak=>k_is)
  (case k_zak=>k_is)
  (case a_zaw=>k_is)
  (case l_zaw=>k_is)
  (case c_zaw=>k_is)
  (case k_zaw=>k_is)
  (case a_zax=>k_is)
  (case l_zax=>k_is)
  (case c_zax=>k_is)
  (case k_zax=>k_is)
  (case a_zaB=>k_is)
  (case l_zaB=>k_is)
  (case c_zaB=>k_is)
  (case d_zaB=>k_is)
  (case k_zaB=>k_is)
  (case a_zaE=>k_is)
  (case l_zaE=>k_is)
  (case c_zaE=>k_is)
  (case k_zaE=>k_is)
  (case a_zaz=>k_is)
  (case l_zaz=>k_is)
  (case c_zaz=>k_is)
  (case k_zaz=>k_is)
  (case a_zaC=>k_is)
  (case l_zaC=>k_is)
  (case c_zaC=>k_is)
  (case k_zaC=>k_is)
  (case a_zay=>k_is)
  (case l_zay=>k_is)
  (case c_zay=>k_is)
  (case k_zay=>k_is)
  (case a_zaD=>k_is)
  (case l_zaD=>k_is)
  (case c_zaD=>k_is)
  (case k_zaD=>k_is)
  (case a_zaG=>k_is)
  (case l_zaG=>k_is)
  (case c_zaG=>k_is)
  (case k_zaG=>k_is)
  (case a_zaF=>k_is)
  (case l_zaF=>k_is)
  (case c_zaF=>k_is)
  (case k_zaF=>k_is)
  (case a_zaA=>k_is)
  (case l_zaA=>k_is)
  (case c_zaA=>k_is)
  (case lc_zaA=>k_is)
  (case tp_zaA=>rfl)
  (case k_zaA=>k_is)
  (case z_LEFT=>k_is)
  (case z_RIGHT=>k_is)
  (case z_WINS_TO_LEAP=>k_is)
  (case z_len=>k_is)
  (case z_range=>k_is)
  (case z_list=>k_is)
  (case z_max=>k_is)
  (case z_min=>k_is)
  (case z_sorted=>k_is)
  (case z_enumerate=>k_is)
  (case z_ValueError=>k_is)
  (case kit_int_bool=>kit_is)
  (case nt=>kernel_rfl)
