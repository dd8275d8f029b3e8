import PyProof.Rows.All
import Wide.All
import OpenK.AllK
import Wide.FinOn
import Lean
import PyProof.EqAt
import PyProof.EqKinds
import PyProof.TupleCall
import KE.KRevIter
import PyProof.CollectIter
import PyProof.SumWalkG
import KE.KDictOf
import PyProof.IsiH_list
import PyProof.RaisesAny
import PyProof.P3In
import PyProof.Rows.SortRuns
import PyProof.Rows.SortShell
import KE.KSortTup
import PySem.Challenge.RW_sorthall_k59_whole_asks_as_told
local macro_rules | `(tactic| omega) => `(tactic| first | with_reducible assumption | lia | omega (splitDisjunctions := true))
set_option Elab.async false
set_option linter.all false
set_option maxRecDepth 100000
open List renaming length_append → yAA, mem_cons_of_mem → yAC, length_map → yAD, mem_cons → yAE, mem_cons_self → yAF, getElem?_eq_some_iff → yAH, length_cons → yAI, append_assoc → yAJ, length_take → yAL, size_toArray → yAM, map_append → yAO, getElem?_eq_getElem → yAQ, mem_singleton → yAR, append_nil → yAT, length_drop → yAU, mem_of_getElem? → yAV, length_singleton → yAW, mem_append_right → yAX, getElem?_map → yAY, map_cons → yAZ, getElem?_append_right → yBA, getElem?_append_left → yBB, mem_append → yBC, getElem?_of_mem → yBF, take_append_drop → yBK, not_mem_nil → yBL, mem_append_left → yBO, getElem?_take_of_lt → yBR, lookup_cons → yBS, getElem?_drop → yBT, length_nil → yBV, pairwise_append → yBW, extract_eq_drop_take → yBY, pairwise_cons → yCA, length_replicate → yCC, map_take → yCD, map_drop → yCE, take_of_length_le → yCF, getElem?_eq_none → yCG, perm_append_comm → yCH, drop_eq_getElem_cons → yCI, length_range' → yCJ
open Nat renaming le_refl → yAB, zero_le → yAG, le_trans → yAK, ne_of_lt → yAP, lt_of_lt_of_le → yAS, le_succ → yBE, min_eq_left → yBG, sub_self → yBH, le_of_lt → yBI, pow_succ → yBN, lt_irrefl → yBQ, lt_succ_self → yBU, zero_add → yBZ, lt_or_ge → yCB, one_le_two_pow → yCK
open Array renaming length_toList → yAN, getElem?_toList → yBD, toList_append → yBM, getElem?_eq_some_iff → yBP, toList_extract → yBX
open Bool renaming false_ne_true → yBJ
namespace L2
open PySem PySem.W
theorem left_boot {p q : Program} {loose : List Str} {Xt : Shared -> Bool} {α : Type} {Yf : Shared -> α} {Ya : World -> α} {N : Nat} {g0 : Bool}
    (open_ : ∀ w : World, (fencedOpening treeTable p w N).map (fun s => (s.heap, s.gens, s.drawn, s.toks)) = some (boot_heap w.params, Array.mk [], boot_drawn, boot_toks))
    (h : ∀ (w : World) (os : OsState), (topFrom treeTable p w N ⟨boot_heap w.params, Array.mk [], boot_drawn, boot_toks, os⟩).map (fun s => (openSeen q loose (importedModules p.main.body) Xt g0 s, Yf s)) = some (openGood q loose, Ya w)) : LeftO p q loose Xt Yf Ya N g0 := fun w => by
  obtain ⟨⟨hh, gs, d, k, os⟩, e, e'⟩ := Option.map_eq_some_iff.mp (open_ w)
  obtain ⟨rfl, rfl, rfl, rfl⟩ : hh = boot_heap w.params /\ gs = Array.mk [] /\ d = boot_drawn /\ k = boot_toks := by simpa using e'
  unfold openEnds
  rw [e]
  exact h w os
theorem left_two {p q : Program} {loose : List Str} {Xt : Shared -> Bool} {α : Type} {Yf : Shared -> α} {Ya : World -> α} {N : Nat} {g0 : Bool}
    (open_ : ∀ w : World, (fencedOpening treeTable p w N).map (fun s => (s.heap, s.gens, s.drawn, s.toks)) = some (boot_heap w.params, Array.mk [], boot_drawn, boot_toks))
    (h1 : ∀ (w : World) (os : OsState), (topFrom treeTable p w N ⟨boot_heap w.params, Array.mk [], boot_drawn, boot_toks, os⟩).map (fun s => openSeen q loose (importedModules p.main.body) Xt g0 s) = some (openGood q loose))
    (h2 : ∀ (w : World) (os : OsState), (topFrom treeTable p w N ⟨boot_heap w.params, Array.mk [], boot_drawn, boot_toks, os⟩).map (fun s => Yf s) = some (Ya w)) : LeftO p q loose Xt Yf Ya N g0 :=
  left_boot open_ fun w os => by
    have a := h1 w os
    have b := h2 w os
    generalize topFrom treeTable p w N ⟨boot_heap w.params, Array.mk [], boot_drawn, boot_toks, os⟩ = r at a b
    cases r with
    | none => cases a
    | some s => exact congrArg some (Prod.ext (Option.some.inj a) (Option.some.inj b))
noncomputable def s0B (w : World) (os : OsState) : Shared := ⟨boot_heap w.params, Array.mk [], boot_drawn, boot_toks, os⟩
def ofLB : List Obj -> Nat -> BT -> BT
  | [], _, t => t
  | o :: r, n, t => ofLB r (n + 1) (t.ins n o)
noncomputable def sTB (w : World) (os : OsState) : SharedT := ⟨ofLB (boot_heap w.params).objs.toList 0 .nil, (boot_heap w.params).objs.size, (boot_heap w.params).life, Array.mk [], boot_drawn, boot_toks, os⟩
noncomputable def topRunQ (p : Program) (w : World) (n₀ : Nat) (ann : Option Value) : Nat -> SharedT -> Thread -> Option SharedT
  | 0, _, _ => none
  | n + 1, s, t => match through t with
    | true => some s
    | false => match PySem.W.Fast.tw6613529449190102663 n₀ ann t with
      | false => none
      | true => match PySem.W.Fast.tw10156331382660048174 (PySem.W.Fast.tw11892475500146522536 PySem.W.Fast.tw14364793385576792824) p w s t with
        | some (s', t') => topRunQ p w n₀ ann n s' t'
        | none => none
theorem topRunQ_spec {p : Program} {w : World} {n₀ : Nat} {ann : Option Value} : ∀ {n : Nat} {s s' : SharedT} {t : Thread}, topRunQ p w n₀ ann n s t = some s' -> topRun treeTable p w n₀ ann n s.abs t = some s'.abs
  | 0, _, _, _, h => by cases h
  | n + 1, s, s', t, h => by
    unfold topRunQ at h
    rw [<- PySem.W.Fast.te6613529449190102663, <- PySem.W.Fast.te10156331382660048174, <- PySem.W.Fast.te11892475500146522536, <- PySem.W.Fast.te14364793385576792824] at h
    unfold topRun
    cases he : through t with
    | true => rw [he] at h; cases h; rfl
    | false =>
      rw [he] at h
      cases hk : stepOk n₀ ann t with
      | false => rw [hk] at h; cases h
      | true =>
        rw [hk] at h
        cases hs : stepT (denote treeTable) p w s t with
        | none => rw [hs] at h; cases h
        | some r => obtain ⟨s₂, t₂⟩ := r; rw [hs] at h; rw [stepT_spec hs]; exact topRunQ_spec h
set_option maxHeartbeats 0 in
theorem sTB_abs : ∀ (w : World) (os : OsState), (sTB w os).abs = s0B w os := by
  intro w os
  kernel_rfl
set_option maxHeartbeats 0 in
theorem s0B_ns : ∀ (w : World) (os : OsState), ((s0B w os).heap.isNs mainGlobals && (s0B w os).gens.size == 0) = true := by
  intro w os
  kernel_rfl
def topOkB (p : Program) (s₀ s₁ : Shared) : Bool := staticsOk (importedModules p.main.body) s₀.heap s₁.heap && namesBound p s₁.heap && gensDone s₁ && laidKept s₀.heap s₁.heap
theorem via_tree {α : Type} {p : Program} {N : Nat} {F : Shared -> α} {G : α} (w : World) (os : OsState)
    (h : (topRunQ p w (s0B w os).heap.objs.size ((s0B w os).heap.nsMap mainGlobals "__annotations__") N (sTB w os) (topStub p)).map (fun s => (topOkB p (s0B w os) s.abs, F s.abs)) = some (true, G)) : (topFrom treeTable p w N ⟨boot_heap w.params, Array.mk [], boot_drawn, boot_toks, os⟩).map F = some G := by
  obtain ⟨s', e1, e2⟩ := Option.map_eq_some_iff.mp h
  have r := topRunQ_spec e1
  rw [sTB_abs] at r
  obtain ⟨e3, e4⟩ := Prod.mk.inj e2
  show (topFrom treeTable p w N (s0B w os)).map F = some G
  unfold topFrom
  rw [s0B_ns w os]
  dsimp only
  rw [r, Option.bind_some]
  unfold topOkB at e3
  rw [e3]
  exact congrArg some e4
def vw (p : Program) (ix : List Nat) : Program := { p with main := { p.main with body := ix.filterMap fun i => p.main.body[i]? } }
def Vw : Program := vw PySem.Challenge.pw_sorthall_k59_whole_asks_as_told [0, 2, 4, 5, 6, 7, 8, 11, 13, 16, 18, 20, 21, 23, 25, 26, 28, 29, 30, 31, 32, 33, 34, 35]
set_option maxHeartbeats 0 in
theorem seen1 : ∀ (w : World) (os : OsState), (topFrom treeTable PySem.Challenge.pw_sorthall_k59_whole_asks_as_told w 5886 ⟨boot_heap w.params, Array.mk [], boot_drawn, boot_toks, os⟩).map (fun s => openSeen L2.Vw (["stretch_from", "filled"] : List Str) (importedModules PySem.Challenge.pw_sorthall_k59_whole_asks_as_told.main.body) (fun s => xlAt L2.Vw [] s && recOk (RowW.records (OpenRow.toRowW (OpenLaw.row PySem.Challenge.rw_sorthall_k59_whole_asks_as_told))) s) true s) = some (openGood L2.Vw (["stretch_from", "filled"] : List Str)) := by
  intro w os
  refine via_tree w os ?_
  rw [PySem.W.Fast.te4187177175401517315]
  kernel_rfl
set_option hygiene false in
local macro_rules | `(tactic| o_head $H) => `(tactic| (refine holds_open (q := L2.Vw) (loose := (["stretch_from", "filled"] : List Str)) (Xt := fun s => xlAt L2.Vw [] s && recOk (RowW.records _) s) (XP := XL L2.Vw []) (Yf := Hook.obs $H) (Ya := Hook.val $H) (YP := Hook.says $H) (N := 5886) ?hl (Hook.of $H) (Hook.keeps $H) (fun s e => xl_of s (Bool.and_eq_true_iff.mp e).1) XL.keeps (by rfl) (by rfl) (by rfl) (fun s e => recFacts_of (Bool.and_eq_true_iff.mp e).2) (by rfl) (by first | assumption | decide +kernel) (by decide +kernel) ⟨rfl, rfl, rfl, rfl, rfl, by decide +kernel⟩ ?hw ?hc; (case hl => (refine L2.left_two (PySem.W.boot_open (by rfl) (by decide) (fun s => rfl)) (fun w os => ?h1) (fun w os => ?h2); (case h1 => exact L2.seen1 w os); (case h2 => (refine L2.via_tree w os ?_; kernel_rfl))))))
set_option maxHeartbeats 0 in
open_top hd0 for PySem.Challenge.rw_sorthall_k59_whole_asks_as_told
end L2
-- CHANGE: your row's module here, as the last of these rows
namespace L2
open PySem PySem.Spec PyProof.Rows
abbrev Key := Sum Int Str
def keyIs : Key -> Value -> Bool
  | .inl k, v => Value.isInt k v
  | .inr x, v => Value.isStrOf x v
def keyH (w : World) : Key -> Int
  | .inl k => hashInt k
  | .inr x => hashStr w x
theorem ZAw : ∀ {k : Key} {v : Value}, keyIs k v = true -> (∃ i t, k = Sum.inl i /\ v = Value.int i t) ∨ (∃ x t, k = Sum.inr x /\ v = Value.str x t)
  | .inl i, v, h => by
    obtain ⟨t, e⟩ := Value.isInt_shape (k := i) (v := v) h
    exact .inl ⟨i, t, rfl, e⟩
  | .inr x, v, h => by
    obtain ⟨t, e⟩ := Value.isStrOf_shape (x := x) (v := v) h
    exact .inr ⟨x, t, rfl, e⟩
theorem key_ll (a b : Int) : decide ((Sum.inl a : Key) = Sum.inl b) = (a == b) := by
  by_cases e : a = b
  . subst e; simp
  . have h : ¬ (Sum.inl a : Key) = Sum.inl b := fun q => e (Sum.inl.inj q)
    rw [decide_eq_false h]
    exact (beq_eq_false_iff_ne.mpr e).symm
theorem key_rr (a b : Str) : decide ((Sum.inr a : Key) = Sum.inr b) = decide (a = b) := by
  by_cases e : a = b
  . subst e; simp
  . have h : ¬ (Sum.inr a : Key) = Sum.inr b := fun q => e (Sum.inr.inj q)
    rw [decide_eq_false h, decide_eq_false e]
theorem key_lr (a : Int) (b : Str) : decide ((Sum.inl a : Key) = Sum.inr b) = false := decide_eq_false (fun q => nomatch q)
theorem key_rl (a : Str) (b : Int) : decide ((Sum.inr a : Key) = Sum.inl b) = false := decide_eq_false (fun q => nomatch q)
def mixKind (prog : Program) (w : World) : PySem.KeyKind prog w Key where
  is := keyIs
  hash := keyH w
  inj := fun v a b ha hb => by
    rcases ZAw ha with ⟨i, t, rfl, rfl⟩ | ⟨x, t, rfl, rfl⟩
    . rcases ZAw hb with ⟨j, u, rfl, e⟩ | ⟨y, u, rfl, e⟩
      . injection e with e1 _; rw [e1]
      . exact nomatch e
    . rcases ZAw hb with ⟨j, u, rfl, e⟩ | ⟨y, u, rfl, e⟩
      . exact nomatch e
      . injection e with e1 _; rw [e1]
  byValue := fun k v h => by
    rcases ZAw h with ⟨i, t, rfl, rfl⟩ | ⟨x, t, rfl, rfl⟩ <;> rfl
  pyHash := fun hv h => by
    rcases ZAw hv with ⟨i, t, rfl, rfl⟩ | ⟨x, t, rfl, rfl⟩
    . exact wpAny_pyHash_int h
    . exact wpAny_pyHash_str h
  eqBool := fun hu hv h => by
    rcases ZAw hu with ⟨i, t, rfl, rfl⟩ | ⟨x, t, rfl, rfl⟩
    . rcases ZAw hv with ⟨j, u, rfl, rfl⟩ | ⟨y, u, rfl, rfl⟩
      . rw [key_ll] at h; exact wpAny_eqBool_int h
      . rw [key_lr] at h; exact SeqAt.EqAt.int_str i t y u _ _ _ _ h
    . rcases ZAw hv with ⟨j, u, rfl, rfl⟩ | ⟨y, u, rfl, rfl⟩
      . rw [key_rl] at h; exact SeqAt.EqAt.str_int x t j u _ _ _ _ h
      . rw [key_rr] at h; exact wpAny_eqBool_str h
  «strs» := fun k x t v h => by
    rcases ZAw h with ⟨i, u, rfl, e⟩ | ⟨y, u, rfl, e⟩
    . exact nomatch e
    . injection e with e1 _
      subst e1
      cases v <;> rfl
inductive V where
  | non | bl (b : Bool) | int (i : Int) | str (x : Str) | byt (b : Array UInt8) | flt (b : UInt64) | ref (a : Addr) | ty (n : String)
  deriving DecidableEq
def RelV : V -> Value -> Prop
  | .non, u => u = Value.none
  | .bl b, u => u = Value.bool b
  | .int i, u => ∃ t, u = Value.int i t
  | .str x, u => ∃ t, u = Value.str x t
  | .byt b, u => ∃ t, u = Value.bytes b t
  | .flt b, u => ∃ t, u = Value.float b t
  | .ref a, u => u = Value.ref a
  | .ty n, u => u = Value.type n
abbrev Vals : List V -> List Value -> Prop := Paired RelV
theorem Vals.length {xs : List V} {us : List Value} (r : Vals xs us) : xs.length = us.length := Paired.length r
theorem Vals.get : ∀ {xs : List V} {us : List Value} {i : Nat} {x : V}, Vals xs us -> xs[i]? = some x -> ∃ u, us[i]? = some u /\ RelV x u
  | _, _, _, _, .nil, e => by simp at e
  | _, _, 0, _, .cons r _, e => by simp at e; subst e; exact ⟨_, rfl, r⟩
  | _, _, i + 1, x, .cons _ t, e => by
    obtain ⟨u, h1, h2⟩ := Vals.get (i := i) (x := x) t (by simpa using e)
    exact ⟨u, by simpa using h1, h2⟩
theorem Vals.set {x : V} {u : Value} (r : RelV x u) : ∀ {xs : List V} {us : List Value} (i : Nat), Vals xs us -> Vals (xs.set i x) (us.set i u)
  | _, _, _, .nil => .nil
  | _, _, 0, .cons _ t => .cons r t
  | _, _, i + 1, .cons q t => .cons q (Vals.set r i t)
theorem Vals.append : ∀ {xs ys : List V} {us ws : List Value}, Vals xs us -> Vals ys ws -> Vals (xs ++ ys) (us ++ ws)
  | _, _, _, _, .nil, s => s
  | _, _, _, _, .cons r t, s => .cons r (Vals.append t s)
theorem Vals.take : ∀ {xs : List V} {us : List Value} (n : Nat), Vals xs us -> Vals (xs.take n) (us.take n)
  | _, _, 0, _ => .nil
  | _, _, _ + 1, .nil => .nil
  | _, _, n + 1, .cons r t => .cons r (Vals.take n t)
theorem Vals.drop : ∀ {xs : List V} {us : List Value} (n : Nat), Vals xs us -> Vals (xs.drop n) (us.drop n)
  | _, _, 0, r => r
  | _, _, _ + 1, .nil => .nil
  | _, _, n + 1, .cons _ t => Vals.drop n t
def RelO : Option V -> Option Value -> Prop
  | some v, some u => RelV v u
  | none, none => True
  | _, _ => False
def KV {κ : Type} : List (κ × V) -> List (κ × Value) -> Prop := Paired fun (p : κ × V) (q : κ × Value) => p.1 = q.1 /\ RelV p.2 q.2
def kV : Key -> V
  | .inl i => .int i
  | .inr x => .str x
inductive HO where
  /-- a list -/
  | lst (xs : List V)
  /-- a tuple (never changes) -/
  | tup (xs : List V)
  /-- a dict whose keys are ints and texts; one whose keys are tuples of ints and texts (the empty one is both) -/
  | dK (kvs : List (Key × V)) | dT (kvs : List (List Key × V))
  /-- a set of ints: its members, its size -/
  | set (S : Int -> Bool) (n : Nat)
  /-- an instance of the class at C, its dict at dx, its attributes -/
  | ins (C dx : Addr) (fs : List (Str × V))
  /-- the dict of the instance at x -/
  | own (x : Addr)
  /-- the dict of an exception -/
  | xd (fs : List (Str × V))
  /-- a bound method, f of x -/
  | met (f x : Addr)
  /-- a range object lo, lo + 1, .. below hi -/
  | rng (lo hi : Int)
  /-- a thing that is known to the object (the script; a dict while a loop walks it): read, never written while it is so -/
  | frz (o : Obj) (u : HO)
  /-- a code object's table -/
  | tbl (ps : Array Value)
  /-- any other thing, by what is true of its one object (a def of one's own: SetO a S n := HO.ext fun h => ..) -/
  | ext (φ : Heap -> Prop)
abbrev Hp := Addr -> Option HO
def upd (H : Hp) (a : Addr) (o : HO) : Hp := fun b => if b = a then some o else H b
theorem ZAG {H : Hp} {a : Addr} {o : HO} : upd H a o a = some o := by unfold upd; rw [if_pos rfl]
theorem ZAH {H : Hp} {a b : Addr} {o : HO} (h : b ≠ a) : upd H a o b = H b := by unfold upd; rw [if_neg h]
theorem ZDB {H : Hp} {a : Addr} {o u : HO} : upd (upd H a o) a u = upd H a u := by
  funext b; unfold upd; split <;> rfl
theorem ZAD {H : Hp} {a b : Addr} {o : HO} (h : H a = some o) (h' : H b = none) : a ≠ b := by
  intro e; subst e; rw [h] at h'; cases h'
section
variable (P : Program) (w : World)
def ObjOk (H : Hp) (h : Heap) (a : Addr) : HO -> Prop
  | .lst xs => xs.length <= sizeLine /\ ∃ (its : List Value) (n : Nat), Vals xs its /\ h.get? a = some { cls := .type "list", data := .seq its.toArray n }
  | .tup xs => xs.length <= sizeLine /\ ∃ its : List Value, Vals xs its /\ IsTup h a its.toArray
  | .dK kvs => kvs.length <= sizeLine /\ (a == sysModules) = false /\ ∃ vs, KV kvs vs /\ h.DictOf (mixKind P w) a vs
  | .dT kvs => kvs.length <= sizeLine /\ (a == sysModules) = false /\ ∃ xs : List (List Key × Addr × Value),
      Paired (fun (p : List Key × V) (q : List Key × Addr × Value) => p.1 = q.1 /\ H q.2.1 = some (.tup (p.1.map kV)) /\ RelV p.2 q.2.2) kvs xs /\
      ∃ o es ep, h.get? a = some o /\ o.ExactDict /\ o.data = .dict es ep /\ es.toList = xs.map (entryOfKey (tupleKind (mixKind P w))) /\ (xs.map (·.1)).Nodup
  | .set S n => h.SetOf (intKind P w) a S n
  | .ins C dx fs => H dx = some (.own a) /\ fs.length <= 1000 /\ dx ≠ a /\ h.get? a = some (PySem.W.instObj C dx) /\
      ∃ mA, h.Ns1 dx mA /\ (∀ f, RelO (fs.lookup f) (mA f)) /\ PySem.Within mA (fs.map (·.1))
  | .own _ => ∃ o, h.get? a = some o
  | .xd fs => ∃ mA, h.Ns1 a mA /\ ∀ f, RelO (fs.lookup f) (mA f)
  | .rng lo hi => ∃ t u v, h.get? a = some { cls := .type "range", data := .fields #[.int lo t, .int hi u, .int 1 v] }
  | .frz o u => h.get? a = some o /\ ObjOk H h a u
  | .tbl ps => h.get? a = some { cls := .none, data := .fields ps }
  | .met f x => h.get? a = some (PySem.W.methodObj (.ref f) (.ref x))
  | .ext φ => φ h /\ (∃ o, h.get? a = some o) /\ ∀ h1 h2 : Heap, φ h1 -> (∀ o, h1.get? a = some o -> h2.get? a = some o) -> φ h2
def HOk (H : Hp) (h : Heap) : Prop := ∀ a o, H a = some o -> ObjOk P w H h a o
end
section
variable {P : Program} {w : World} {H H' : Hp} {h h' : Heap} {a : Addr} {o : HO}
theorem ObjOk.lt (x : ObjOk P w H h a o) : a < h.objs.size := by
  cases o with
  | lst xs => obtain ⟨_, _, _, _, e⟩ := x; exact Heap.lt_size e
  | tup xs => obtain ⟨_, _, _, p⟩ := x; exact p.lt
  | dK kvs => obtain ⟨_, _, _, _, o, _, _, e, _⟩ := x; exact Heap.lt_size e
  | dT kvs => obtain ⟨_, _, _, _, o, _, _, e, _⟩ := x; exact Heap.lt_size e
  | set S n => obtain ⟨o, _, _, _, e, _⟩ := x; exact Heap.lt_size e
  | ins C dx fs => obtain ⟨_, _, _, e, _⟩ := x; exact Heap.lt_size e
  | own y => obtain ⟨_, e⟩ := x; exact Heap.lt_size e
  | xd fs => obtain ⟨_, ⟨_, _, _, e, _⟩, _⟩ := x; exact Heap.lt_size e
  | rng lo hi => obtain ⟨_, _, _, e⟩ := x; exact Heap.lt_size e
  | frz ob u => obtain ⟨e, _⟩ := x; exact Heap.lt_size e
  | tbl ps => exact Heap.lt_size (show h.get? a = some _ from x)
  | met f y => exact Heap.lt_size (show h.get? a = some _ from x)
  | ext φ => obtain ⟨_, ⟨_, e⟩, _⟩ := x; exact Heap.lt_size e
theorem Paired.mapP {α β : Type} {F G : α -> β -> Prop} : ∀ {l₁ : List α} {l₂ : List β}, Paired F l₁ l₂ -> (∀ a b, F a b -> G a b) -> Paired G l₁ l₂
  | _, _, .nil, _ => .nil
  | _, _, .cons r t, f => .cons (f _ _ r) (Paired.mapP t f)
theorem ObjOk.stay (x : ObjOk P w H h a o) (k : ∀ b u, (b = a ∨ H b = some (.own a)) -> h.get? b = some u -> h'.get? b = some u)
    (ho : ∀ b, H b = some (.own a) -> H' b = some (.own a)) (ht : ∀ b xs, H b = some (.tup xs) -> H' b = some (.tup xs)) : ObjOk P w H' h' a o := by
  induction o with
  | lst xs => obtain ⟨z, its, n, r, e⟩ := x; exact ⟨z, its, n, r, k _ _ (.inl rfl) e⟩
  | tup xs => obtain ⟨z, its, r, ob, e, c⟩ := x; exact ⟨z, its, r, ob, k _ _ (.inl rfl) e, c⟩
  | dK kvs => obtain ⟨z, y, vs, r, ob, es, ep, e, c⟩ := x; exact ⟨z, y, vs, r, ob, es, ep, k _ _ (.inl rfl) e, c⟩
  | dT kvs =>
    obtain ⟨z, y, xs, r, ob, es, ep, e, c⟩ := x
    exact ⟨z, y, xs, Paired.mapP r fun p q z => ⟨z.1, ht _ _ z.2.1, z.2.2⟩, ob, es, ep, k _ _ (.inl rfl) e, c⟩
  | set S n => obtain ⟨ob, es, ep, t, e, c⟩ := x; exact ⟨ob, es, ep, t, k _ _ (.inl rfl) e, c⟩
  | ins C dx fs =>
    obtain ⟨d, z, ne, e, mA, ⟨od, es, ep, e2, c⟩, r⟩ := x
    exact ⟨ho _ d, z, ne, k _ _ (.inl rfl) e, mA, ⟨od, es, ep, k _ _ (.inr d) e2, c⟩, r⟩
  | own y => obtain ⟨ob, e⟩ := x; exact ⟨ob, k _ _ (.inl rfl) e⟩
  | xd fs => obtain ⟨mA, ⟨od, es, ep, e, c⟩, r⟩ := x; exact ⟨mA, ⟨od, es, ep, k _ _ (.inl rfl) e, c⟩, r⟩
  | rng lo hi => obtain ⟨t, u, v, e⟩ := x; exact ⟨t, u, v, k _ _ (.inl rfl) e⟩
  | frz ob u ih => obtain ⟨e, q⟩ := x; exact ⟨k _ _ (.inl rfl) e, ih q⟩
  | tbl ps =>
    have e : h.get? a = some { cls := .none, data := .fields ps } := x
    show h'.get? a = some { cls := .none, data := .fields ps }
    exact k a _ (.inl rfl) e
  | met f y =>
    have e : h.get? a = some (PySem.W.methodObj (.ref f) (.ref y)) := x
    show h'.get? a = some (PySem.W.methodObj (.ref f) (.ref y))
    exact k a _ (.inl rfl) e
  | ext φ => obtain ⟨p, ⟨o, e⟩, st⟩ := x; exact ⟨st _ _ p fun o q => k _ _ (.inl rfl) q, ⟨o, k _ _ (.inl rfl) e⟩, st⟩
theorem HOk.lt (x : HOk P w H h) (e : H a = some o) : a < h.objs.size := (x a o e).lt
theorem HOk.fresh (x : HOk P w H h) (e : h.objs.size <= a) : H a = none := by
  cases q : H a with
  | none => rfl
  | some u => exact absurd (yAS (x.lt q) e) (yBQ _)
theorem HOk.kept (x : HOk P w H h) (k : ∀ b u, h.get? b = some u -> h'.get? b = some u) : HOk P w H h' := fun a o e =>
  (x a o e).stay (fun b u _ q => k b u q) (fun _ q => q) fun _ _ q => q
theorem HOk.laid (x : HOk P w H h) (k : ∀ b u, h.get? b = some u -> h'.get? b = some u) (hp : h.objs.size <= a) (new : ObjOk P w (upd H a o) h' a o) : HOk P w (upd H a o) h' := fun b u e => by
  have hn := x.fresh hp
  by_cases hb : b = a
  . subst hb; rw [ZAG] at e; cases e; exact new
  . rw [ZAH hb] at e
    exact (x b u e).stay (fun c v _ q => k c v q) (fun c q => by rw [ZAH (ZAD q hn)]; exact q) fun c xs q => by rw [ZAH (ZAD q hn)]; exact q
end
def Rd (H : Hp) (a : Addr) (u : HO) : Prop := H a = some u ∨ ∃ o, H a = some (.frz o u)
theorem Rd.ok {P : Program} {w : World} {H : Hp} {h : Heap} {a : Addr} {u : HO} (r : Rd H a u) (x : HOk P w H h) : ObjOk P w H h a u := by
  rcases r with r | ⟨o, r⟩
  . exact x a u r
  . obtain ⟨_, q⟩ := x a _ r
    exact q
def Mut : Option HO -> Prop
  | some (.lst _) => True
  | some (.dK _) => True
  | some (.dT _) => True
  | some (.set _ _) => True
  | some (.ins _ _ _) => True
  | some (.ext _) => True
  | _ => False
section
variable {P : Program} {w : World} {H : Hp} {h h' : Heap} {x e : Addr} {o' : HO}
theorem HOk.write (ok : HOk P w H h) (mu : Mut (H x)) (he : e = x ∨ H e = some (.own x)) (k : ∀ b u, b ≠ e -> h.get? b = some u -> h'.get? b = some u) (heo : ∃ u, h'.get? e = some u)
    (new : ObjOk P w (upd H x o') h' x o') : HOk P w (upd H x o') h' := fun b u q => by
  have nown : ∀ c y, H c = some (.own y) -> c ≠ x := fun c y r z => by subst z; rw [r] at mu; exact mu
  have ntup : ∀ c xs, H c = some (.tup xs) -> c ≠ x := fun c xs r z => by subst z; rw [r] at mu; exact mu
  by_cases hb : b = x
  . subst hb; rw [ZAG] at q; cases q; exact new
  . rw [ZAH hb] at q
    by_cases hbe : b = e
    . have q' : H b = some (.own x) := by
        rcases he with z | z
        . exact absurd (hbe.trans z) hb
        . rw [hbe]; exact z
      rw [q] at q'; cases q'
      obtain ⟨v, hv⟩ := heo
      exact ⟨v, by rw [hbe]; exact hv⟩
    . refine (ok b u q).stay (fun c v hc r => k c v ?_ r) (fun c r => by rw [ZAH (nown c b r)]; exact r) fun c xs r => by rw [ZAH (ntup c xs r)]; exact r
      rcases hc with rfl | hc
      . exact hbe
      . rintro rfl
        rcases he with z | z
        . exact nown c b hc z
        . rw [hc] at z; cases z; exact hb rfl
end
structure Un (fs ex : List Addr) (H H' : Hp) (h h' : Heap) : Prop where
  keep : ∀ b o, h.get? b = some o -> H b = none -> b ∉ fs -> b ∉ ex -> h'.get? b = some o
  slot : ∀ b o, h.get? b = some o -> H b = none -> b ∈ fs -> b ∉ ex -> ∃ sl, h'.get? b = some { o with slots := sl }
  free : ∀ b o, h.get? b = some o -> H b = none -> b ∉ ex -> H' b = none
  there : ∀ b o, h.get? b = some o -> b ∉ ex -> ∃ o', h'.get? b = some o'
  tups : ∀ b xs, H b = some (.tup xs) -> H' b = some (.tup xs)
  frzs : ∀ b o u, H b = some (.frz o u) -> H' b = some (.frz o u)
  tbls : ∀ b ps, H b = some (.tbl ps) -> ∃ more, H' b = some (.tbl (ps ++ more))
section
variable {fs fs' ex ex' : List Addr} {H H1 H2 : Hp} {h h1 h2 h' : Heap} {a x e : Addr} {o : HO}
theorem Un.any (u : Un fs ex H H1 h h1) {b : Addr} {ob : Obj} (q : h.get? b = some ob) (n : H b = none) (hx : b ∉ ex) : ∃ sl, h1.get? b = some { ob with slots := sl } := by
  by_cases hb : b ∈ fs
  . exact u.slot b ob q n hb hx
  . exact ⟨ob.slots, u.keep b ob q n hb hx⟩
theorem Un.kept (k : ∀ b u, h.get? b = some u -> h'.get? b = some u) : Un fs ex H H h h' :=
  ⟨fun b ob q _ _ _ => k b ob q, fun b ob q _ _ _ => ⟨ob.slots, k b ob q⟩, fun _ _ _ n _ => n, fun b ob q _ => ⟨ob, k b ob q⟩, fun _ _ q => q, fun _ _ _ q => q, fun _ ps q => ⟨#[], by rw [q]; simp⟩⟩
theorem Un.refl : Un fs ex H H h h := Un.kept fun _ _ q => q
theorem Un.laid (k : ∀ b u, h.get? b = some u -> h'.get? b = some u) (hp : h.objs.size <= a) (hn : H a = none) : Un fs ex H (upd H a o) h h' where
  keep := fun b u q _ _ _ => k b u q
  slot := fun b u q _ _ _ => ⟨u.slots, k b u q⟩
  free := fun b u q n _ => by rw [ZAH (yAP (yAS (Heap.lt_size q) hp))]; exact n
  there := fun b u q _ => ⟨u, k b u q⟩
  tups := fun b xs q => by rw [ZAH (ZAD q hn)]; exact q
  frzs := fun b u xs q => by rw [ZAH (ZAD q hn)]; exact q
  tbls := fun b ps q => ⟨#[], by rw [ZAH (ZAD q hn), q]; simp⟩
theorem Un.write (mu : Mut (H x)) (he : e = x ∨ H e = some (.own x)) (k : ∀ b u, b ≠ e -> h.get? b = some u -> h'.get? b = some u) (heo : ∃ u, h'.get? e = some u) : Un fs ex H (upd H x o) h h' := by
  have hx : ∀ b, H b = none -> b ≠ x := fun b n z => by subst z; rw [n] at mu; exact mu
  have hb : ∀ b, H b = none -> b ≠ e := fun b n z => by
    subst z
    rcases he with r | r
    . exact hx b n r
    . rw [n] at r; cases r
  have hm : ∀ b u, H b = some u -> ¬ Mut (some u) -> b ≠ x := fun b u q nm z => by subst z; rw [q] at mu; exact nm mu
  refine ⟨fun b u q n _ _ => k b u (hb b n) q, fun b u q n _ _ => ⟨u.slots, k b u (hb b n) q⟩, fun b u q n _ => by rw [ZAH (hx b n)]; exact n, fun b u q _ => ?_,
    fun b xs q => by rw [ZAH (hm b _ q fun z => z)]; exact q, fun b u xs q => by rw [ZAH (hm b _ q fun z => z)]; exact q, fun b ps q => ⟨#[], by rw [ZAH (hm b _ q fun z => z), q]; simp⟩⟩
  by_cases hbe : b = e
  . subst hbe; exact heo
  . exact ⟨u, k b u hbe q⟩
end
def trk (h : Heap) (H : Hp) : List Addr := (List.range h.objs.size).filter fun a => (H a).isSome
def hidT (h : Heap) (H : Hp) : Heap := PySem.W.hideAll h (trk h H)
theorem hidT_size (h : Heap) (H : Hp) : (hidT h H).objs.size = h.objs.size := PySem.W.hideAll_size _ _
theorem hidT_get {h : Heap} {H : Hp} {b : Addr} {o : Obj} (e : h.get? b = some o) (n : H b = none) : (hidT h H).get? b = some o :=
  PySem.W.hideAll_get _ e fun hm => by
    have q : (H b).isSome = true := (List.mem_filter.mp hm).2
    rw [n] at q; simp at q
theorem of_hidT {h : Heap} {H : Hp} {b : Addr} {o : Obj} (e : (hidT h H).get? b = some o) : h.get? b = some o /\ H b = none := by
  have e' : h.get? b = some o := PySem.W.of_hideAll (trk h H) e
  refine ⟨e', ?_⟩
  cases q : H b with
  | none => rfl
  | some x =>
    have hm : b ∈ trk h H := List.mem_filter.mpr ⟨List.mem_range.mpr (Heap.lt_size e'), by simp [q]⟩
    have z : (hidT h H).get? b = none := PySem.W.hideAll_none (trk h H) hm
    rw [z] at e; cases e
structure Mod (K : W.Frag) (mg : Str -> Option Value) (base : Heap) : Prop where
  kin : K.In base
  glob : base.Ns mainGlobals mg
  blt : ∃ mb, base.Ns builtinsNs mb /\ ∀ x : Str, x ≠ "__name__" -> mb x = bootBuiltins x
  nolimit : base.NoLimit
/-- the context: a def's body (or a comprehension's block) running. base: fixed through the whole law; s₀, H₀: the entry; outer: the frames whose slots others may change (a def's callers); stack: all frames that run;
   ex: iterators that were made ahead of the entry and are walked here (a comprehension's); fn: the names whose cells were made at the entry (a def: all; a comprehension's block: its own); calm: not within an except suite; pn: pins that every state bears; xe: what is wanted of an exception that leaves the code -/
structure Cx where
  prog : Program
  w : World
  K : W.Frag
  mg : Str -> Option Value
  base : Heap
  A : Around
  N : List Str
  s₀ : Shared
  H₀ : Hp
  env : Env
  outer : List Env
  stack : List Env
  ex : List Addr
  fn : Str -> Bool
  calm : Bool
  pn : List (Addr × Obj)
  xe : Value -> Shared -> Prop
def frs (l : List Env) : List Addr := l.filterMap (·.frame)
abbrev Cx.fs (X : Cx) : List Addr := frs X.outer
def Vis (sc : Scope) (x : Str) : Prop := sc.names.lookup x = some .local ∨ sc.names.lookup x = some .cell ∨ sc.names.lookup x = some .free
def Loc (sc : Scope) (x : Str) : Prop := sc.names.lookup x = some .local ∨ sc.names.lookup x = some .cell
def Look (env : Env) (h : Heap) (m : Str -> Option Value) (x : Str) (u : Value) : Prop :=
  (env.kindOf x = some .local /\ m x = some u) ∨ ((env.kindOf x = some .cell ∨ env.kindOf x = some .free) /\ ∃ c, env.cells.lookup x = some c /\ h.IsCell c (some u))
structure Cx.Ok (X : Cx) : Prop where
  mod : Mod X.K X.mg X.base
  kind : X.env.scope.kind = .function
  glob : X.env.globals = mainGlobals
  blt : X.env.builtins = builtinsNs
  above : X.s₀.heap.objs.size <= X.env.locals
  inj : ∀ x y c, X.env.cells.lookup x = some c -> X.env.cells.lookup y = some c -> x = y
  has : ∀ x, (X.env.kindOf x = some .cell ∨ X.env.kindOf x = some .free) -> ∃ c, X.env.cells.lookup x = some c
  cab : ∀ x c, X.fn x = true -> X.env.cells.lookup x = some c -> X.s₀.heap.objs.size <= c
  hd : X.calm = true -> X.A.handled = none
  frames : X.A.frames = some X.stack
  stk : X.stack = X.outer ∨ (X.stack = X.env :: X.outer /\ X.env.frame = some X.env.locals)
  exf : ∀ b ∈ X.ex, b ≠ X.env.locals /\ ∀ x c, X.env.cells.lookup x = some c -> c ≠ b
  bs : ∀ b o, X.base.get? b = some o -> X.s₀.heap.get? b = some o /\ X.H₀ b = none
  bsz : X.base.objs.size <= X.s₀.heap.objs.size
  noex : ∀ b o, X.base.get? b = some o -> b ∉ X.ex
  exfs : ∀ b ∈ X.ex, b ∉ X.fs
  funs : X.s₀.heap.FunFrames X.base X.outer
  frf : ∀ b ∈ X.fs, X.H₀ b = none
structure Inv (X : Cx) (pins : List (Addr × Obj)) (σ : List (Option V)) (H : Hp) (s : Shared) : Prop where
  ok : X.Ok
  os : s.os = X.s₀.os
  bare : AllBare s.gens
  base : Un X.fs X.ex X.H₀ H X.s₀.heap s.heap
  loc : ∃ m, s.heap.Ns X.env.locals m /\ ∀ (i : Nat) (x : Str) (v : V), X.N[i]? = some x -> σ[i]? = some (some v) -> Vis X.env.scope x -> ∃ u, RelV v u /\ Look X.env s.heap m x u
  cell : ∀ x c, X.env.cells.lookup x = some c -> ∃ v, s.heap.IsCell c v
  free : H X.env.locals = none
  freeC : ∀ x c, X.env.cells.lookup x = some c -> H c = none
  pin : ∀ p ∈ X.pn ++ pins, s.heap.get? p.1 = some p.2 /\ H p.1 = none /\ p.1 ≠ X.env.locals /\ p.1 ∉ X.fs /\ ∀ v, p.2.data ≠ .cell v
  hok : HOk X.prog X.w H s.heap
  len : σ.length = X.N.length
section
variable {X : Cx} {pins : List (Addr × Obj)} {σ : List (Option V)} {H H' : Hp} {s : Shared} {h' : Heap}
theorem Cx.Ok.nofr (ok : X.Ok) {b : Addr} {o : Obj} (e : X.base.get? b = some o) : b ∉ X.fs := fun hb => by
  have := (ok.funs.mem hb).1
  rw [e] at this; cases this
theorem Inv.bs (I : Inv X pins σ H s) : ∀ b o, X.base.get? b = some o -> s.heap.get? b = some o /\ H b = none := fun b o e =>
  ⟨I.base.keep b o (I.ok.bs b o e).1 (I.ok.bs b o e).2 (I.ok.nofr e) (I.ok.noex b o e), I.base.free b o (I.ok.bs b o e).1 (I.ok.bs b o e).2 (I.ok.noex b o e)⟩
theorem Inv.bk (I : Inv X pins σ H s) : ∀ b o, X.base.get? b = some o -> s.heap.get? b = some o := fun b o e => (I.bs b o e).1
theorem Inv.mod (I : Inv X pins σ H s) : Mod X.K X.mg X.base := I.ok.mod
theorem Inv.kIn (I : Inv X pins σ H s) : X.K.In s.heap := I.ok.mod.kin.keeps I.bk
theorem Inv.lt (I : Inv X pins σ H s) : X.env.locals < s.heap.objs.size := let ⟨_, hn, _⟩ := I.loc; hn.lt
theorem Inv.sz (I : Inv X pins σ H s) : X.s₀.heap.objs.size <= s.heap.objs.size := yAK I.ok.above (yBI I.lt)
theorem Inv.nofs (I : Inv X pins σ H s) {a : Addr} (h : s.heap.objs.size <= a) : a ∉ X.fs := fun hb => by
  obtain ⟨_, o, ho, _⟩ := I.ok.funs.mem hb
  exact absurd (yAS (Heap.lt_size ho) (yAK I.sz h)) (yBQ _)
theorem Inv.cne (I : Inv X pins σ H s) : ∀ x c, X.env.cells.lookup x = some c -> c ≠ X.env.locals := fun x c e z => by
  obtain ⟨v, o, ho, hd⟩ := I.cell x c e
  obtain ⟨m, ⟨o', es, ep, ho', hd', _⟩, _⟩ := I.loc
  rw [z, ho'] at ho; cases ho; rw [hd'] at hd; cases hd
theorem Inv.funs (I : Inv X pins σ H s) : s.heap.FunFrames X.base X.outer := by
  have all : ∀ (l : List Env), (∀ b ∈ frs l, b ∈ X.fs) -> X.s₀.heap.FunFrames X.base l -> s.heap.FunFrames X.base l := by
    intro l
    induction l with
    | nil => intro _ _; trivial
    | cons env r ih =>
      intro hs hl
      obtain ⟨hk, ⟨L, o, hf, hn, ho, hd⟩, hr⟩ := hl
      have hL : L ∈ X.fs := hs L (by unfold frs; rw [List.filterMap_cons, hf]; exact yAF)
      obtain ⟨sl, e⟩ := I.base.slot L o ho (I.ok.frf L hL) hL fun z => I.ok.exfs L z hL
      exact ⟨hk, ⟨L, _, hf, hn, e, hd⟩, ih (fun b hb => hs b (by unfold frs; rw [List.filterMap_cons, hf]; exact yAC _ hb)) hr⟩
  exact all X.outer (fun _ hb => hb) I.ok.funs
theorem Inv.stack (I : Inv X pins σ H s) : s.heap.FunFrames X.base X.stack := by
  rcases I.ok.stk with e | ⟨e, hf⟩
  . rw [e]; exact I.funs
  . rw [e]
    obtain ⟨m, hn, _⟩ := I.loc
    refine .cons (by rw [I.ok.kind]; decide) hf hn ?_ I.funs
    exact Heap.get?_none_of_le (yAK I.ok.bsz I.ok.above)
theorem Inv.stkSub (I : Inv X pins σ H s) : ∀ b ∈ frs X.stack, b ∈ X.env.locals :: X.fs := fun b hb => by
  rcases I.ok.stk with e | ⟨e, hf⟩
  . rw [e] at hb; exact yAC _ hb
  . rw [e] at hb
    unfold frs at hb
    rw [List.filterMap_cons, hf] at hb
    exact hb
theorem Inv.stkFree (I : Inv X pins σ H s) : ∀ b ∈ frs X.stack, H b = none := fun b hb => by
  rcases yAE.mp (I.stkSub b hb) with e | hb
  . rw [e]; exact I.free
  . obtain ⟨_, o, ho, _⟩ := I.ok.funs.mem hb
    exact I.base.free b o ho (I.ok.frf b hb) fun z => I.ok.exfs b z hb
theorem Inv.step {g' : Array GenState} {t' : Nat} {d' : Drawn} {ch : List Addr} (I : Inv X pins σ H s)
    (hch : ∀ b ∈ ch, (b ∈ X.ex ∨ X.s₀.heap.objs.size <= b) /\ b ≠ X.env.locals /\ (∀ x c, X.env.cells.lookup x = some c -> c ≠ b) /\ ∀ p ∈ X.pn ++ pins, p.1 ≠ b)
    (keep : ∀ b o, b ≠ X.env.locals -> b ∉ X.fs -> b ∉ ch -> s.heap.get? b = some o -> H b = none -> h'.get? b = some o)
    (slot : ∀ b o, b ≠ X.env.locals -> b ∈ X.fs -> b ∉ ch -> s.heap.get? b = some o -> H b = none -> ∃ sl, h'.get? b = some { o with slots := sl }) (free : ∀ b o, b ∉ ch -> s.heap.get? b = some o -> H b = none -> H' b = none)
    (there : ∀ b o, b ∉ ch -> s.heap.get? b = some o -> ∃ o', h'.get? b = some o')
    (tups : ∀ b xs, H b = some (.tup xs) -> H' b = some (.tup xs)) (frzs : ∀ b o u, H b = some (.frz o u) -> H' b = some (.frz o u)) (tbls : ∀ b ps, H b = some (.tbl ps) -> ∃ more, H' b = some (.tbl (ps ++ more)))
    (ns : ∀ m, s.heap.Ns X.env.locals m -> h'.Ns X.env.locals m) (hok : HOk X.prog X.w H' h') (hg : AllBare g') :
    Inv X pins σ H' { s with heap := h', gens := g', drawn := d', toks := t' } := by
  have neL : ∀ b o, X.s₀.heap.get? b = some o -> b ≠ X.env.locals := fun b o e => yAP (yAS (Heap.lt_size e) I.ok.above)
  have neC : ∀ b o, X.s₀.heap.get? b = some o -> b ∉ X.ex -> b ∉ ch := fun b o e hx hb => by
    rcases (hch b hb).1 with z | z
    . exact hx z
    . exact absurd (yAS (Heap.lt_size e) z) (yBQ _)
  have cellK : ∀ x c, X.env.cells.lookup x = some c -> ∀ v, s.heap.IsCell c v -> h'.IsCell c v := fun x c e v ⟨o, ho, hd⟩ => by
    have nch : c ∉ ch := fun z => (hch c z).2.2.1 x c e rfl
    by_cases hc : c ∈ X.fs
    . obtain ⟨sl, q⟩ := slot c o (I.cne x c e) hc nch ho (I.freeC x c e)
      exact ⟨_, q, hd⟩
    . exact ⟨o, keep c o (I.cne x c e) hc nch ho (I.freeC x c e), hd⟩
  refine ⟨I.ok, I.os, hg, ⟨fun b o e n hb hx => ?_, fun b o e n hb hx => ?_, fun b o e n hx => ?_, fun b o e hx => ?_, fun b xs e => tups b xs (I.base.tups b xs e), fun b o xs e => frzs b o xs (I.base.frzs b o xs e), fun b ps e => ?_⟩, ?_, fun x c e => ?_, ?_, fun x c e => ?_, fun p hp => ?_, hok, I.len⟩
  . exact keep b o (neL b o e) hb (neC b o e hx) (I.base.keep b o e n hb hx) (I.base.free b o e n hx)
  . obtain ⟨sl, e1⟩ := I.base.slot b o e n hb hx
    obtain ⟨sl', e2⟩ := slot b _ (neL b o e) hb (neC b o e hx) e1 (I.base.free b o e n hx)
    exact ⟨sl', e2⟩
  . obtain ⟨o', e1⟩ := I.base.there b o e hx
    exact free b o' (neC b o e hx) e1 (I.base.free b o e n hx)
  . obtain ⟨o', e1⟩ := I.base.there b o e hx
    exact there b o' (neC b o e hx) e1
  . obtain ⟨m1, e1⟩ := I.base.tbls b ps e
    obtain ⟨m2, e2⟩ := tbls b _ e1
    exact ⟨m1 ++ m2, by rw [e2, Array.append_assoc]⟩
  . obtain ⟨m, hn, hl⟩ := I.loc
    refine ⟨m, ns m hn, fun i x v e1 e2 e3 => ?_⟩
    obtain ⟨u, r, l⟩ := hl i x v e1 e2 e3
    refine ⟨u, r, ?_⟩
    rcases l with l | ⟨k, c, e, z⟩
    . exact .inl l
    . exact .inr ⟨k, c, e, cellK x c e _ z⟩
  . obtain ⟨v, z⟩ := I.cell x c e
    exact ⟨v, cellK x c e v z⟩
  . obtain ⟨m, ⟨o, _, _, ho, _⟩, _⟩ := I.loc
    exact free _ o (fun z => (hch _ z).2.1 rfl) ho I.free
  . obtain ⟨v, o, ho, hd⟩ := I.cell x c e
    exact free c o (fun z => (hch c z).2.2.1 x c e rfl) ho (I.freeC x c e)
  . obtain ⟨e, n, ne, nf, d⟩ := I.pin p hp
    have nch : p.1 ∉ ch := fun z => (hch p.1 z).2.2.2 p hp rfl
    exact ⟨keep p.1 p.2 ne nf nch e n, free p.1 p.2 nch e n, ne, nf, d⟩
theorem Inv.un {t' : Nat} (I : Inv X pins σ H s) (u : Un X.fs [] H H' s.heap h') (hok : HOk X.prog X.w H' h') : Inv X pins σ H' { s with heap := h', toks := t' } := by
  obtain ⟨m, ⟨o, es, ep, ho, r⟩, _⟩ := id I.loc
  obtain ⟨sl, hL⟩ := u.any ho I.free (by simp)
  exact I.step (g' := s.gens) (d' := s.drawn) (ch := []) (fun _ z => nomatch z) (fun b o _ hb _ e n => u.keep b o e n hb (by simp)) (fun b o _ hb _ e n => u.slot b o e n hb (by simp)) (fun b o _ e n => u.free b o e n (by simp)) (fun b o _ e => u.there b o e (by simp)) u.tups u.frzs u.tbls (fun m' hm => by
    obtain ⟨o', es', ep', ho', r'⟩ := hm
    rw [ho] at ho'; cases ho'
    exact ⟨_, es', ep', hL, r'⟩) hok I.bare
theorem Inv.call {g' : Array GenState} {t' : Nat} {d' : Drawn} {ch : List Addr} (I : Inv X pins σ H s) (u : Un (frs X.stack) ch H H' s.heap h') (hok : HOk X.prog X.w H' h') (hg : AllBare g')
    (hch : ∀ b ∈ ch, (b ∈ X.ex ∨ X.s₀.heap.objs.size <= b) /\ b ≠ X.env.locals /\ (∀ x c, X.env.cells.lookup x = some c -> c ≠ b) /\ ∀ p ∈ X.pn ++ pins, p.1 ≠ b) :
    Inv X pins σ H' { s with heap := h', gens := g', drawn := d', toks := t' } := by
  obtain ⟨m, ⟨o, es, ep, ho, r⟩, _⟩ := id I.loc
  obtain ⟨sl, hL⟩ := u.any ho I.free fun z => (hch _ z).2.1 rfl
  exact I.step (ch := ch) hch (fun b o hL hb hc e n => u.keep b o e n (fun z => (yAE.mp (I.stkSub b z)).elim hL hb) hc) (fun b o _ _ hc e n => u.any e n hc) (fun b o hc e n => u.free b o e n hc) (fun b o hc e => u.there b o e hc) u.tups u.frzs u.tbls (fun m' hm => by
    obtain ⟨o', es', ep', ho', r'⟩ := hm
    rw [ho] at ho'; cases ho'
    exact ⟨_, es', ep', hL, r'⟩) hok hg
theorem Inv.turned {t' : Nat} {it : Addr} (I : Inv X pins σ H s) (k : ∀ b o, b ≠ it -> s.heap.get? b = some o -> h'.get? b = some o) (hn : H it = none) (hL : it ≠ X.env.locals)
    (h1 : it ∈ X.ex ∨ X.s₀.heap.objs.size <= it) (h2 : ∀ x c, X.env.cells.lookup x = some c -> c ≠ it) (h3 : ∀ p ∈ X.pn ++ pins, p.1 ≠ it) : Inv X pins σ H { s with heap := h', toks := t' } := by
  have nit : ∀ b u, H b = some u -> b ≠ it := fun b u e z => by rw [z, hn] at e; cases e
  refine I.step (g' := s.gens) (d' := s.drawn) (ch := [it]) (fun b hb => ?_) (fun b o _ _ hc e _ => k b o (fun z => hc (by simp [z])) e) (fun b o _ _ hc e _ => ⟨o.slots, k b o (fun z => hc (by simp [z])) e⟩) (fun _ _ _ _ n => n)
    (fun b o hc e => ⟨o, k b o (fun z => hc (by simp [z])) e⟩) (fun _ _ e => e) (fun _ _ _ e => e) (fun b ps e => ⟨#[], by rw [e]; simp⟩) (fun m hm => ?_) (fun b u e => ?_) I.bare
  . have e : b = it := by simpa using hb
    subst e
    exact ⟨h1, hL, h2, h3⟩
  . obtain ⟨o, es, ep, ho, r⟩ := hm
    exact ⟨o, es, ep, k _ o (Ne.symm hL) ho, r⟩
  . refine (I.hok b u e).stay (fun c v hc q => k c v ?_ q) (fun _ q => q) fun _ _ q => q
    rcases hc with z | z
    . rw [z]; exact nit b u e
    . exact nit c _ z
theorem Inv.tok (I : Inv X pins σ H s) (t : Nat) : Inv X pins σ H { s with toks := t } := I.un (h' := s.heap) (t' := t) Un.refl I.hok
theorem Inv.kept {t' : Nat} (I : Inv X pins σ H s) (k : ∀ b u, s.heap.get? b = some u -> h'.get? b = some u) : Inv X pins σ H { s with heap := h', toks := t' } := I.un (Un.kept k) (I.hok.kept k)
theorem Inv.laid {a : Addr} {o : HO} {t' : Nat} (I : Inv X pins σ H s) (k : ∀ b u, s.heap.get? b = some u -> h'.get? b = some u) (hp : s.heap.objs.size <= a) (new : ObjOk X.prog X.w (upd H a o) h' a o) :
    Inv X pins σ (upd H a o) { s with heap := h', toks := t' } := I.un (Un.laid k hp (I.hok.fresh hp)) (I.hok.laid k hp new)
theorem Inv.write {x e : Addr} {o : HO} {t' : Nat} (I : Inv X pins σ H s) (mu : Mut (H x)) (he : e = x ∨ H e = some (.own x)) (k : ∀ b u, b ≠ e -> s.heap.get? b = some u -> h'.get? b = some u) (heo : ∃ u, h'.get? e = some u)
    (new : ObjOk X.prog X.w (upd H x o) h' x o) : Inv X pins σ (upd H x o) { s with heap := h', toks := t' } := I.un (Un.write mu he k heo) (I.hok.write mu he k heo new)
theorem Inv.pins_of {pins' : List (Addr × Obj)} (I : Inv X pins σ H s) (h : ∀ p ∈ pins', s.heap.get? p.1 = some p.2 /\ H p.1 = none /\ p.1 ≠ X.env.locals /\ p.1 ∉ X.fs /\ ∀ v, p.2.data ≠ .cell v) : Inv X pins' σ H s :=
  ⟨I.ok, I.os, I.bare, I.base, I.loc, I.cell, I.free, I.freeC, fun p hp => (yBC.mp hp).elim (fun z => I.pin p (yBO _ z)) (h p), I.hok, I.len⟩
theorem nodup_ix {N : List Str} (hN : N.Nodup) {i j : Nat} {x : Str} (a : N[i]? = some x) (b : N[j]? = some x) : i = j := by
  obtain ⟨h1, e1⟩ := yAH.mp a
  obtain ⟨h2, e2⟩ := yAH.mp b
  exact (List.getElem_inj hN).mp (e1.trans e2.symm)
theorem store_ok2 {M : Model} {A : Around} {E : Value -> Shared -> Prop} {i : Nat} {x : Str} {v : V} {u : Value} {Q : Unit -> Shared -> Prop} (I : Inv X pins σ H s) (hN : X.N.Nodup) (hi : X.N[i]? = some x) (hx : Loc X.env.scope x) (r : RelV v u)
    (h : ∀ s', Inv X pins (σ.set i (some v)) H s' -> (∃ a, Heap.SameBut a s.heap s'.heap /\ (a = X.env.locals ∨ X.env.cells.lookup x = some a)) -> Q () s') (hf : X.fn x = true ∨ X.env.scope.names.lookup x = some .local := by first | exact .inl rfl | exact .inr rfl | assumption) : wpAny M A (storeName X.env x u) Q E s := by
  obtain ⟨m, hn, hl⟩ := id I.loc
  have hcls : (X.env.scope.kind == .class || (X.env.scope.kind == .module && X.env.locals != X.env.globals)) = false := by rw [I.ok.kind]; rfl
  have hiσ : i < σ.length := by rw [I.len]; exact (yAH.mp hi).1
  have cne := I.cne
  have tracked : ∀ {a : Addr} {h' : Heap}, (∃ o, s.heap.get? a = some o /\ H a = none) -> Heap.SameBut a s.heap h' -> HOk X.prog X.w H h' := fun {a h'} ha hs b ob e => by
    obtain ⟨_, _, hfree⟩ := ha
    refine (I.hok b ob e).stay (fun c w' hc q => (hs.2 c ?_).trans q) (fun _ q => q) fun _ _ q => q
    rintro rfl
    rcases hc with rfl | hc
    . rw [hfree] at e; cases e
    . rw [hfree] at hc; cases hc
  rcases hx with hk | hk
  . refine wpAny_storeName_local hk hn (fun h' hn' hs => ?_) hcls
    obtain ⟨oL, _, _, hoL, _⟩ := id hn
    refine h _ ⟨I.ok, I.os, I.bare, ⟨fun b o e n hb hx => ?_, fun b o e n hb hx => ?_, I.base.free, fun b o e hx => ?_, I.base.tups, I.base.frzs, I.base.tbls⟩, ⟨_, hn', fun j y v' e1 e2 e3 => ?_⟩, fun y c e => ?_, I.free, I.freeC, fun p hp => ?_, tracked ⟨oL, hoL, I.free⟩ hs, by simpa using I.len⟩ ⟨_, hs, .inl rfl⟩
    . exact (hs.2 b (yAP (yAS (Heap.lt_size e) I.ok.above))).trans (I.base.keep b o e n hb hx)
    . obtain ⟨sl, e1⟩ := I.base.slot b o e n hb hx
      exact ⟨sl, (hs.2 b (yAP (yAS (Heap.lt_size e) I.ok.above))).trans e1⟩
    . obtain ⟨o', e1⟩ := I.base.there b o e hx
      exact ⟨o', (hs.2 b (yAP (yAS (Heap.lt_size e) I.ok.above))).trans e1⟩
    . by_cases hj : j = i
      . subst hj
        rw [hi] at e1; cases e1
        rw [List.getElem?_set_self hiσ] at e2
        cases e2
        exact ⟨u, r, .inl ⟨hk, by simp⟩⟩
      . rw [List.getElem?_set_ne (Ne.symm hj)] at e2
        obtain ⟨u', r', q⟩ := hl j y v' e1 e2 e3
        refine ⟨u', r', ?_⟩
        rcases q with ⟨k, e⟩ | ⟨k, c, e, z⟩
        . refine .inl ⟨k, ?_⟩
          have : y ≠ x := fun e => hj (nodup_ix hN e1 (e ▸ hi))
          simp [this, e]
        . exact .inr ⟨k, c, e, z.sameBut hs (cne y c e)⟩
    . obtain ⟨w', z⟩ := I.cell y c e
      exact ⟨w', z.sameBut hs (cne y c e)⟩
    . obtain ⟨e, n, ne, nf, d⟩ := I.pin p hp
      exact ⟨(hs.2 p.1 ne).trans e, n, ne, nf, d⟩
  . have hfn : X.fn x = true := by
      rcases hf with z | z
      . exact z
      . rw [z] at hk; cases hk
    obtain ⟨c, hc⟩ := I.ok.has x (.inl hk)
    obtain ⟨w', z⟩ := I.cell x c hc
    refine wpAny_storeName_cell I.ok.kind hk hc z (fun h' hc' hs => ?_)
    obtain ⟨oc, hoc, hocd⟩ := id z
    refine h { s with heap := h' } ⟨I.ok, I.os, I.bare, ⟨fun b o e n hb hx => ?_, fun b o e n hb hx => ?_, I.base.free, fun b o e hx => ?_, I.base.tups, I.base.frzs, I.base.tbls⟩, ⟨m, hn.sameBut hs (Ne.symm (cne x c hc)), fun j y v' e1 e2 e3 => ?_⟩, fun y c' e => ?_, I.free, I.freeC, fun p hp => ?_, tracked ⟨oc, hoc, I.freeC x c hc⟩ hs, by simpa using I.len⟩ ⟨c, hs, .inr hc⟩
    . exact (hs.2 b (yAP (yAS (Heap.lt_size e) (I.ok.cab x c hfn hc)))).trans (I.base.keep b o e n hb hx)
    . obtain ⟨sl, e1⟩ := I.base.slot b o e n hb hx
      exact ⟨sl, (hs.2 b (yAP (yAS (Heap.lt_size e) (I.ok.cab x c hfn hc)))).trans e1⟩
    . obtain ⟨o', e1⟩ := I.base.there b o e hx
      exact ⟨o', (hs.2 b (yAP (yAS (Heap.lt_size e) (I.ok.cab x c hfn hc)))).trans e1⟩
    . by_cases hj : j = i
      . subst hj
        rw [hi] at e1; cases e1
        rw [List.getElem?_set_self hiσ] at e2
        cases e2
        exact ⟨u, r, .inr ⟨.inl hk, c, hc, hc'⟩⟩
      . rw [List.getElem?_set_ne (Ne.symm hj)] at e2
        obtain ⟨u', r', q⟩ := hl j y v' e1 e2 e3
        refine ⟨u', r', ?_⟩
        rcases q with q | ⟨k, c', e, z'⟩
        . exact .inl q
        . refine .inr ⟨k, c', e, z'.sameBut hs ?_⟩
          rintro rfl
          exact hj (nodup_ix hN e1 (I.ok.inj _ _ _ e hc ▸ hi))
    . by_cases hcc : c' = c
      . subst hcc; exact ⟨_, hc'⟩
      . obtain ⟨w2, z2⟩ := I.cell y c' e
        exact ⟨w2, z2.sameBut hs hcc⟩
    . obtain ⟨e, n, ne, nf, d⟩ := I.pin p hp
      refine ⟨(hs.2 p.1 ?_).trans e, n, ne, nf, d⟩
      intro q
      rw [q, hoc] at e
      have q' : oc = p.2 := Option.some.inj e
      exact d w' (by rw [<- q']; exact hocd)
theorem ZCf {M : Model} {A : Around} {E : Value -> Shared -> Prop} {i : Nat} {x : Str} {v : V} {u : Value} {Q : Unit -> Shared -> Prop} (I : Inv X pins σ H s) (hN : X.N.Nodup) (hi : X.N[i]? = some x) (hx : Loc X.env.scope x) (r : RelV v u)
    (h : ∀ s', Inv X pins (σ.set i (some v)) H s' -> Q () s') (hf : X.fn x = true ∨ X.env.scope.names.lookup x = some .local := by first | exact .inl rfl | exact .inr rfl | assumption) : wpAny M A (storeName X.env x u) Q E s :=
  store_ok2 I hN hi hx r (fun s' I' _ => h s' I') hf
theorem Inv.call' {s' : Shared} {ch : List Addr} (I : Inv X pins σ H s) (ho : s'.os = s.os) (u : Un (frs X.stack) ch H H' s.heap s'.heap) (hok : HOk X.prog X.w H' s'.heap) (hg : AllBare s'.gens)
    (hch : ∀ b ∈ ch, (b ∈ X.ex ∨ X.s₀.heap.objs.size <= b) /\ b ≠ X.env.locals /\ (∀ x c, X.env.cells.lookup x = some c -> c ≠ b) /\ ∀ p ∈ X.pn ++ pins, p.1 ≠ b) : Inv X pins σ H' s' := by
  obtain ⟨h', g', d', t', o'⟩ := s'
  have e : o' = s.os := ho
  subst e
  exact I.call (g' := g') (t' := t') (d' := d') u hok hg hch
end
abbrev XK := Value -> Option Addr -> Hp -> Prop
abbrev St := List (Option V)
abbrev VK := V -> Hp -> Prop
abbrev TE := St -> Hp -> VK -> Prop
abbrev TT := St -> Hp -> (Bool -> Hp -> Prop) -> Prop
abbrev TA := St -> Hp -> (List V -> Hp -> Prop) -> Prop
structure Ends where
  nx : St -> Hp -> Prop
  rt : VK
  bk : St -> Hp -> Prop := fun _ _ => False
  ct : St -> Hp -> Prop := fun _ _ => False
abbrev TS := Ends -> St -> Hp -> Prop
def EP (X : Cx) (pins : List (Addr × Obj)) (σ : St) (Q : VK) (u : Value) (s' : Shared) : Prop := ∃ v H', Inv X pins σ H' s' /\ RelV v u /\ Q v H'
def TP (X : Cx) (pins : List (Addr × Obj)) (σ : St) (Q : Bool -> Hp -> Prop) (b : Bool) (s' : Shared) : Prop := ∃ H', Inv X pins σ H' s' /\ Q b H'
def AP (X : Cx) (pins : List (Addr × Obj)) (σ : St) (Q : List V -> Hp -> Prop) (us : List Value) (s' : Shared) : Prop := ∃ vs H', Inv X pins σ H' s' /\ Vals vs us /\ Q vs H'
def SP (X : Cx) (pins : List (Addr × Obj)) (D : Ends) (f : Flow) (s' : Shared) : Prop :=
  match f with
  | .next => ∃ σ' H', Inv X pins σ' H' s' /\ D.nx σ' H'
  | .brk => ∃ σ' H', Inv X pins σ' H' s' /\ D.bk σ' H'
  | .cont => ∃ σ' H', Inv X pins σ' H' s' /\ D.ct σ' H'
  | .ret u => ∃ v σ' H', Inv X pins σ' H' s' /\ RelV v u /\ D.rt v H'
def PE (X : Cx) (e : Expr) (t : TE) : Prop :=
  ∀ (pins : List (Addr × Obj)) (s : Shared) (σ : St) (H : Hp) (Q : VK), Inv X pins σ H s -> t σ H Q -> wpAny (model X.prog X.w) X.A (eval e X.env) (EP X pins σ Q) X.xe s
def PT (X : Cx) (e : Expr) (t : TT) : Prop :=
  ∀ (pins : List (Addr × Obj)) (s : Shared) (σ : St) (H : Hp) (Q : Bool -> Hp -> Prop), Inv X pins σ H s -> t σ H Q -> wpAny (model X.prog X.w) X.A (isTrue e X.env (eval e X.env)) (TP X pins σ Q) X.xe s
def PW (X : Cx) (e : Expr) (t : TT) : Prop :=
  ∀ (whole : Sem Value) (pins : List (Addr × Obj)) (s : Shared) (σ : St) (H : Hp) (Q : Bool -> Hp -> Prop), Inv X pins σ H s -> t σ H Q -> wpAny (model X.prog X.w) X.A (isTrue e X.env whole) (TP X pins σ Q) X.xe s
theorem PW.pt {X : Cx} {e : Expr} {t : TT} (h : PW X e t) : PT X e t := h _
def PA (X : Cx) (es : List Expr) (t : TA) : Prop :=
  ∀ (pos : Pos) (pins : List (Addr × Obj)) (s : Shared) (σ : St) (H : Hp) (Q : List V -> Hp -> Prop), Inv X pins σ H s -> t σ H Q -> wpAny (model X.prog X.w) X.A (spliced (backTo pos (starEach es X.env))) (AP X pins σ Q) X.xe s
def PS (X : Cx) (st : Stmt) (t : TS) : Prop :=
  ∀ (pins : List (Addr × Obj)) (s : Shared) (σ : St) (H : Hp) (D : Ends), Inv X pins σ H s -> t D σ H -> wpAny (model X.prog X.w) X.A (exec st X.env) (SP X pins D) X.xe s
def PSs (X : Cx) (st : List Stmt) (t : TS) : Prop :=
  ∀ (pins : List (Addr × Obj)) (s : Shared) (σ : St) (H : Hp) (D : Ends), Inv X pins σ H s -> t D σ H -> wpAny (model X.prog X.w) X.A (execs st X.env) (SP X pins D) X.xe s
theorem thn {α : Type} {t : Sem α} {Q Q' : α -> Shared -> Prop} {M : Model} {A : Around} {E : Value -> Shared -> Prop} {s : Shared} (h : wpAny M A t Q E s) (hQ : ∀ a s, Q a s -> Q' a s) : wpAny M A t Q' E s := wpAny_mono h hQ fun _ _ x => x
section
variable {X : Cx}
def tVar (i : Nat) : TE := fun σ H Q => ∃ v, σ[i]? = some (some v) /\ Q v H
def tC (v : V) : TE := fun _ H Q => Q v H
theorem pe_var {i : Nat} {x : Str} {pos : Pos} (hN : X.N[i]? = some x) (hv : Vis X.env.scope x) (hd : (x == ("__debug__" : Str)) = false := by decide) (hcd : (x == ("__classdict__" : Str)) = false := by decide) : PE X (.Name x pos) (tVar i) := by
  intro pins s σ H Q I h
  obtain ⟨v, e, h⟩ := h
  obtain ⟨m, hn, hl⟩ := I.loc
  obtain ⟨u, r, l⟩ := hl i x v hN e hv
  have fin : EP X pins σ Q u s := ⟨v, H, I, r, h⟩
  rcases l with ⟨hk, hm⟩ | ⟨hk, c, hc, hcell⟩
  . exact wpAny_Name (wpAny_loadName_local I.ok.kind hk hn hm fin) hd
  . rcases hk with hk | hk
    . exact wpAny_Name (wpAny_loadName_cell I.ok.kind hk hc hcell fin) hd
    . exact wpAny_Name (wpAny_loadName_free I.ok.kind hk hc hcell fin hcd) hd
theorem ZAF {i j pos} : PE X (.Constant (.int i) j pos) (tC (.int i)) := fun _ _ _ H _ I h => wpAny_Constant_int ⟨.int i, H, I.tok _, ⟨_, rfl⟩, h⟩
theorem ZEl {b j pos} : PE X (.Constant (.bool b) j pos) (tC (.bl b)) := fun _ _ _ H _ I h => Constant_bool ⟨.bl b, H, I, rfl, h⟩
theorem ZCs {j pos} : PE X (.Constant .none j pos) (tC .non) := fun _ _ _ H _ I h => Constant_none ⟨.non, H, I, rfl, h⟩
theorem ZEE {x j pos} : PE X (.Constant (.str x) j pos) (tC (.str x)) := fun _ _ _ H _ I h => Calls.Constant_str ⟨.str x, H, I.tok _, ⟨_, rfl⟩, h⟩
def Gl (X : Cx) (x : Str) : Prop := X.env.kindOf x = some .globalImplicit
theorem ZDk {E : Value -> Shared -> Prop} {pins : List (Addr × Obj)} {s : Shared} {σ : St} {H : Hp} {x : Str} {u : Value} {pos : Pos} {Q : Value -> Shared -> Prop} (I : Inv X pins σ H s) (hg : Gl X x) (hm : X.mg x = some u) (h : Q u s)
    (hd : (x == ("__debug__" : Str)) = false := by decide) : wpAny (model X.prog X.w) X.A (eval (.Name x pos) X.env) Q E s :=
  Calls.Name_function_global I.ok.kind hg (Calls.loadGlobal_global (by rw [I.ok.glob]; exact I.mod.glob.keeps I.bk) hm h) hd
theorem ZDw {E : Value -> Shared -> Prop} {pins : List (Addr × Obj)} {s : Shared} {σ : St} {H : Hp} {x : Str} {u : Value} {pos : Pos} {Q : Value -> Shared -> Prop} (I : Inv X pins σ H s) (hg : Gl X x) (hm : X.mg x = none) (hv : bootBuiltins x = some u) (h : Q u s)
    (hn : x ≠ "__name__" := by decide) (hd : (x == ("__debug__" : Str)) = false := by decide) : wpAny (model X.prog X.w) X.A (eval (.Name x pos) X.env) Q E s := by
  obtain ⟨mb, h1, h2⟩ := I.mod.blt
  exact Calls.Name_function_global I.ok.kind hg (Calls.loadGlobal_builtin (by rw [I.ok.glob]; exact I.mod.glob.keeps I.bk) hm (by rw [I.ok.blt]; exact h1.keeps I.bk) ((h2 x hn).trans hv) h) hd
theorem pe_glob {x : Str} {v : V} {u : Value} {pos : Pos} (hg : Gl X x) (hm : X.mg x = some u) (r : RelV v u) (hd : (x == ("__debug__" : Str)) = false := by decide) : PE X (.Name x pos) (tC v) :=
  fun _ _ _ H _ I h => ZDk I hg hm ⟨v, H, I, r, h⟩ hd
variable {a b : Expr} {ta tb : TE} {pos : Pos}
def tB (t : TE) : TT := fun σ H Q => t σ H fun x H1 => ∃ c, x = .bl c /\ Q c H1
theorem ZCO {e : Expr} {t : TE} (h : PE X e t) (he : ∀ whole, isTrue e X.env whole = (do let v <- whole; standAt e.pos; holding [v] (truthy v)) := by intro _; rfl) : PT X e (tB t) := by
  intro pins s σ H Q I hw
  refine isTrue_plain (thn (h pins s σ H _ I hw) fun v s1 ⟨x, H1, I1, r1, q1⟩ => ?_) (he _)
  obtain ⟨d, rfl, q⟩ := q1
  cases r1
  exact wpAny_truthy_bool ⟨H1, I1, q⟩
variable {tA tB' : TT} {rest : List Expr}
def tAnd (t u : TT) : TT := fun σ H Q => t σ H fun c H1 => if c = true then u σ H1 Q else Q false H1
def tOr (t u : TT) : TT := fun σ H Q => t σ H fun c H1 => if c = true then Q true H1 else u σ H1 Q
def tNot (t : TT) : TT := fun σ H Q => t σ H fun c H1 => Q (!c) H1
theorem ZCc (ha : PT X a tA) : PW X (.BoolOp .And [a] pos) tA := by
  intro wh pins s σ H Q I h
  refine isTrue_and (thn (ha pins s σ H Q I h) fun c s1 e => ?_)
  cases c with
  | true => exact isTrue_and_nil e
  | false => exact e
theorem ZC8 (ha : PT X a tA) (hb : PW X (.BoolOp .And (b :: rest) pos) tB') : PW X (.BoolOp .And (a :: b :: rest) pos) (tAnd tA tB') := by
  intro wh pins s σ H Q I h
  refine isTrue_and (thn (ha pins s σ H _ I h) fun c s1 ⟨H1, I1, q1⟩ => ?_)
  cases c with
  | true => exact hb wh pins s1 σ H1 Q I1 q1
  | false => exact ⟨H1, I1, q1⟩
def ZEe (ta tb : TE) : TE := fun σ H Q => ta σ H fun x H1 => ∃ c, x = .bl c /\ if c = true then tb σ H1 Q else Q (.bl false) H1
def tOrV (ta tb : TE) : TE := fun σ H Q => ta σ H fun x H1 => ∃ c, x = .bl c /\ if c = true then Q (.bl true) H1 else tb σ H1 Q
def ZEb (ta : TE) : TE := fun σ H Q => ta σ H fun x H1 => ∃ c, x = .bl c /\ Q (.bl (!c)) H1
theorem pe_one {op} {t : TE} (h : PE X a t) : PE X (.BoolOp op [a] pos) t := fun pins s σ H Q I hw => BoolOp_one (h pins s σ H Q I hw)
theorem pe_and (ha : PE X a ta) (hb : PE X (.BoolOp .And (b :: rest) pos) tb) : PE X (.BoolOp .And (a :: b :: rest) pos) (ZEe ta tb) := by
  intro pins s σ H Q I h
  refine BoolOp_and (thn (ha pins s σ H _ I h) fun v s1 ⟨x, H1, I1, r1, q1⟩ => ?_)
  obtain ⟨c, rfl, q1⟩ := q1
  cases r1
  refine wpAny_truthy_bool ?_
  cases c with
  | true => exact hb pins s1 σ H1 Q I1 q1
  | false => exact ⟨.bl false, H1, I1, rfl, q1⟩
theorem pe_not (ha : PE X a ta) : PE X (.UnaryOp .Not a pos) (ZEb ta) := by
  intro pins s σ H Q I h
  refine UnaryOp_ (thn (ha pins s σ H _ I h) fun v s1 ⟨x, H1, I1, r1, q1⟩ => ?_)
  obtain ⟨c, rfl, q1⟩ := q1
  cases r1
  exact not_of (wpAny_truthy_bool ⟨.bl (!c), H1, I1, rfl, q1⟩)
def tIf (t : TT) (ta tb : TE) : TE := fun σ H Q => t σ H fun c H1 => if c = true then ta σ H1 Q else tb σ H1 Q
theorem ZBO {c : Expr} (hc : PT X c tA) (ha : PE X a ta) (hb : PE X b tb) : PE X (.IfExp c a b pos) (tIf tA ta tb) := by
  intro pins s σ H Q I h
  refine wpAny_IfExp (thn (hc pins s σ H _ I h) fun d s1 ⟨H1, I1, q1⟩ => ?_)
  cases d with
  | true => exact ha pins s1 σ H1 Q I1 q1
  | false => exact hb pins s1 σ H1 Q I1 q1
end
def SqL (K : W.Frag) (H : Hp) (a : Addr) (xs : List V) : Prop :=
  Rd H a (.lst xs) ∨
    ∃ (o : Obj) (its : Array Value) (n : Nat), K.lookup a = some o /\ o.cls = .type "list" /\ o.dict = none /\ o.data = .seq its n /\ its.size <= sizeLine /\ Vals xs its.toList
def SqT (K : W.Frag) (H : Hp) (a : Addr) (xs : List V) : Prop :=
  Rd H a (.tup xs) ∨
    ∃ (o : Obj) (its : Array Value) (n : Nat), K.lookup a = some o /\ o.cls = .type "tuple" /\ o.data = .seq its n /\ its.size <= sizeLine /\ Vals xs its.toList
def absV : Value -> Option V
  | .none => some .non
  | .bool b => some (.bl b)
  | .int i _ => some (.int i)
  | .str x _ => some (.str x)
  | .bytes b _ => some (.byt b)
  | .float b _ => some (.flt b)
  | .ref a => some (.ref a)
  | .type n => some (.ty n)
  | _ => none
theorem RelV.abs {x : V} {u : Value} (r : RelV x u) : absV u = some x := by
  cases x with
  | non => cases r; rfl
  | bl _ => cases r; rfl
  | int _ => obtain ⟨t, rfl⟩ := r; rfl
  | str _ => obtain ⟨t, rfl⟩ := r; rfl
  | byt _ => obtain ⟨t, rfl⟩ := r; rfl
  | flt _ => obtain ⟨t, rfl⟩ := r; rfl
  | ref _ => cases r; rfl
  | ty _ => cases r; rfl
theorem RelV.inj {x y : V} {u : Value} (r : RelV x u) (q : RelV y u) : x = y := Option.some.inj (r.abs.symm.trans q.abs)
theorem Vals.inj : ∀ {xs ys : List V} {us : List Value}, Vals xs us -> Vals ys us -> xs = ys
  | _, _, _, .nil, .nil => rfl
  | _, _, _, .cons r t, .cons r' t' => by rw [r.inj r', Vals.inj t t']
section
variable {X : Cx} {pins : List (Addr × Obj)} {σ : St} {H : Hp} {s : Shared} {a : Addr} {xs ys : List V}
theorem SqL.of {K : W.Frag} (h : H a = some (.lst xs)) : SqL K H a xs := .inl (.inl h)
theorem SqT.of {K : W.Frag} (h : H a = some (.tup xs)) : SqT K H a xs := .inl (.inl h)
theorem Inv.list (I : Inv X pins σ H s) (h : SqL X.K H a xs) : ∃ its : List Value, Vals xs its /\ PlainL s.heap a its.toArray /\ xs.length <= sizeLine := by
  rcases h with h | ⟨o, its, n, hk, hc, hd, hs, hz, r⟩
  . obtain ⟨z, its, n, r, e⟩ := h.ok I.hok
    exact ⟨its, r, ⟨_, n, e, rfl, rfl, rfl⟩, z⟩
  . refine ⟨its.toList, r, ⟨o, n, I.kIn a o hk, hc, hd, by simpa using hs⟩, ?_⟩
    have e := r.length
    simp only [yAN] at e
    omega
theorem Inv.tuple (I : Inv X pins σ H s) (h : SqT X.K H a xs) : ∃ its : List Value, Vals xs its /\ IsTup s.heap a its.toArray /\ xs.length <= sizeLine := by
  rcases h with h | ⟨o, its, n, hk, hc, hs, hz, r⟩
  . obtain ⟨z, its, r, p⟩ := h.ok I.hok
    exact ⟨its, r, p, z⟩
  . refine ⟨its.toList, r, ⟨o, I.kIn a o hk, hc, n, by simpa using hs⟩, ?_⟩
    have e := r.length
    simp only [yAN] at e
    omega
theorem Inv.list_inj (I : Inv X pins σ H s) (h : SqL X.K H a xs) (h' : SqL X.K H a ys) : xs = ys := by
  obtain ⟨its, r, ⟨o, n, e, _, _, d⟩, _⟩ := I.list h
  obtain ⟨its', r', ⟨o', n', e', _, _, d'⟩, _⟩ := I.list h'
  rw [e] at e'; cases e'
  rw [d] at d'
  injection d' with d1 _
  have : its = its' := by simpa using congrArg Array.toList d1
  subst this
  exact r.inj r'
end
abbrev Cx.wish (X : Cx) (E : Value -> Shared -> Prop) : Cx := { X with xe := E }
abbrev Cx.nox (X : Cx) : Cx := X.wish fun _ _ => False
theorem Cx.Ok.wish {X : Cx} (ok : X.Ok) (E : Value -> Shared -> Prop) : (X.wish E).Ok :=
  ⟨ok.mod, ok.kind, ok.glob, ok.blt, ok.above, ok.inj, ok.has, ok.cab, ok.hd, ok.frames, ok.stk, ok.exf, ok.bs, ok.bsz, ok.noex, ok.exfs, ok.funs, ok.frf⟩
theorem Cx.Ok.unwish {X : Cx} {E : Value -> Shared -> Prop} (ok : (X.wish E).Ok) : X.Ok :=
  ⟨ok.mod, ok.kind, ok.glob, ok.blt, ok.above, ok.inj, ok.has, ok.cab, ok.hd, ok.frames, ok.stk, ok.exf, ok.bs, ok.bsz, ok.noex, ok.exfs, ok.funs, ok.frf⟩
section
variable {X : Cx} {pins : List (Addr × Obj)} {σ : St} {H : Hp} {s : Shared} {E : Value -> Shared -> Prop}
theorem Inv.wish (I : Inv X pins σ H s) (E : Value -> Shared -> Prop) : Inv (X.wish E) pins σ H s := ⟨I.ok.wish E, I.os, I.bare, I.base, I.loc, I.cell, I.free, I.freeC, I.pin, I.hok, I.len⟩
theorem Inv.unwish (I : Inv (X.wish E) pins σ H s) : Inv X pins σ H s := ⟨I.ok.unwish, I.os, I.bare, I.base, I.loc, I.cell, I.free, I.freeC, I.pin, I.hok, I.len⟩
theorem SP.unwish {D : Ends} {f : Flow} {s' : Shared} (h : SP (X.wish E) pins D f s') : SP X pins D f s' := by
  cases f with
  | next => obtain ⟨σ', H', I, q⟩ := h; exact ⟨σ', H', I.unwish, q⟩
  | brk => obtain ⟨σ', H', I, q⟩ := h; exact ⟨σ', H', I.unwish, q⟩
  | cont => obtain ⟨σ', H', I, q⟩ := h; exact ⟨σ', H', I.unwish, q⟩
  | ret u => obtain ⟨v, σ', H', I, r, q⟩ := h; exact ⟨v, σ', H', I.unwish, r, q⟩
theorem PSs.nox {st : List Stmt} {t : TS} (h : PSs X.nox st t) : PSs X st t := fun pins s σ H D I hw =>
  wpAny_mono (h pins s σ H D (I.wish _) hw) (fun _ _ q => q.unwish) fun _ _ z => False.elim z
end
section
variable {X : Cx} {st : Stmt} {rest : List Stmt} {t u : TS} {e : Expr} {te : TE} {pos : Pos}
def ZEc : TS := fun D σ H => D.nx σ H
def tSeq (t u : TS) : TS := fun D σ H => t { D with nx := u D } σ H
theorem ZAu : PSs X [] ZEc := fun _ _ σ H _ I h => wpAny_execs_nil ⟨σ, H, I, h⟩
theorem ZAB (h1 : PS X st t) (h2 : PSs X rest u) : PSs X (st :: rest) (tSeq t u) := by
  intro pins s σ H D I h
  refine wpAny_execs_cons (thn (h1 pins s σ H { D with nx := u D } I h) fun f s1 q => ?_)
  cases f with
  | next =>
    obtain ⟨σ', H', I', q⟩ := q
    exact h2 pins s1 σ' H' D I' q
  | ret v => exact q
  | brk => exact q
  | cont => exact q
theorem ZAJ (h1 : PS X st t) : PSs X [st] t := by
  intro pins s σ H D I h
  refine wpAny_execs_cons (thn (h1 pins s σ H D I h) fun f s1 q => ?_)
  cases f with
  | next => exact wpAny_execs_nil q
  | ret v => exact q
  | brk => exact q
  | cont => exact q
theorem Inv.quiet {pins : List (Addr × Obj)} {σ : St} {H : Hp} {s : Shared} (I : Inv X pins σ H s) : interactive X.env = false := by simp [interactive, I.ok.kind]
def ZEd (te : TE) : TS := fun D σ H => te σ H fun _ H1 => D.nx σ H1
theorem ZAl (he : PE X e te) (hs : swapsWith e none pos.line X.env = pure false := by rfl) : PS X (.Expr e pos) (ZEd te) := by
  intro pins s σ H D I h
  exact wpAny_Expr_any (thn (he pins s σ H _ I h) fun v s1 ⟨x, H1, I1, r1, q1⟩ => ⟨σ, H1, I1, q1⟩) I.quiet hs
def tRet (te : TE) : TS := fun D σ H => te σ H D.rt
theorem ZAZ (he : PE X e te) : PS X (.Return (some e) pos) (tRet te) := by
  intro pins s σ H D I h
  exact wpAny_Return_some (thn (he pins s σ H _ I h) fun v s1 ⟨x, H1, I1, r1, q1⟩ => ⟨x, σ, H1, I1, r1, q1⟩)
def tRetN : TS := fun D _ H => D.rt .non H
def tIfS (c : TT) (t u : TS) : TS := fun D σ H => c σ H fun b H1 => if b = true then t D σ H1 else u D σ H1
theorem ZBT {c : Expr} {a b : List Stmt} {tc : TT} (hc : PT X c tc) (ha : PSs X a t) (hb : PSs X b u) : PS X (.If c a b pos) (tIfS tc t u) := by
  intro pins s σ H D I h
  refine wpAny_If (thn (hc pins s σ H _ I h) fun d s1 ⟨H1, I1, q1⟩ => ?_)
  cases d with
  | true => exact ha pins s1 σ H1 D I1 q1
  | false => exact hb pins s1 σ H1 D I1 q1
def ZD5 : TS := fun _ _ _ => False
theorem ps_never : PS X st ZD5 := fun _ _ _ _ _ _ h => h.elim
end
abbrev TG := V -> St -> Hp -> (St -> Hp -> Prop) -> Prop
abbrev TGs := List V -> St -> Hp -> (St -> Hp -> Prop) -> Prop
def PG (X : Cx) (target : Expr) (t : TG) : Prop :=
  ∀ (pins : List (Addr × Obj)) (s : Shared) (σ : St) (H : Hp) (v : V) (u : Value) (Q : St -> Hp -> Prop), Inv X pins σ H s -> RelV v u -> t v σ H Q ->
    wpAny (model X.prog X.w) X.A (assign target X.env u) (fun _ s' => ∃ σ' H', Inv X pins σ' H' s' /\ Q σ' H') X.xe s
abbrev TSet := V -> V -> V -> Hp -> (Hp -> Prop) -> Prop
def PSet (X : Cx) (t : TSet) : Prop :=
  ∀ (pins : List (Addr × Obj)) (s : Shared) (σ : St) (H : Hp) (o i v : V) (ov iv u : Value) (Q : Hp -> Prop), Inv X pins σ H s -> RelV o ov -> RelV i iv -> RelV v u -> t o i v H Q ->
    wpAny (model X.prog X.w) X.A (setItem ov iv u) (fun _ s' => ∃ H', Inv X pins σ H' s' /\ Q H') X.xe s
abbrev TIp := V -> V -> Hp -> VK -> Prop
def PIp (X : Cx) (op : Operator) (t : TIp) : Prop :=
  ∀ (pins : List (Addr × Obj)) (s : Shared) (σ : St) (H : Hp) (x y : V) (v u : Value) (Q : VK), Inv X pins σ H s -> RelV x v -> RelV y u -> t x y H Q ->
    wpAny (model X.prog X.w) X.A (inplaceOp op v u) (EP X pins σ Q) X.xe s
section
variable {X : Cx} {pos : Pos}
def ZEX (i : Nat) : TG := fun v σ H Q => Q (σ.set i (some v)) H
theorem ZCr {i : Nat} {x : Str} (hN : X.N.Nodup) (hi : X.N[i]? = some x) (hx : Loc X.env.scope x) (hf : X.fn x = true ∨ X.env.scope.names.lookup x = some .local := by first | exact .inl rfl | exact .inr rfl | assumption) : PG X (.Name x pos) (ZEX i) := by
  intro pins s σ H v u Q I r h
  exact wpAny_assign_Name (ZCf I hN hi hx r (fun s' I' => ⟨_, H, I', h⟩) hf)
def gNil : TGs := fun vs σ H Q => vs = [] /\ Q σ H
def gCons (t : TG) (u : TGs) : TGs := fun vs σ H Q => ∃ v r, vs = v :: r /\ t v σ H fun σ' H' => u r σ' H' Q
def gSub (to ti : TE) (t : TSet) : TG := fun v σ H Q => to σ H fun o H1 => ti σ H1 fun i H2 => t o i v H2 fun H3 => Q σ H3
theorem pg_sub {o i : Expr} {to ti : TE} {t : TSet} (ho : PE X o to) (hi : PE X i ti) (hs : PSet X t)
    (ha : ∀ v, assign (.Subscript o i pos) X.env v = (do
      let ov <- holding [v] (eval o X.env)
      let iv <- holding [v, ov] (eval i X.env)
      standAt pos
      holding [v, ov, iv] (setItem ov iv v)
      release [v, ov, iv] []) := by intro _; rfl) : PG X (.Subscript o i pos) (gSub to ti t) := by
  intro pins s σ H v u Q I r h
  rw [ha]
  refine wpAny_bind (wpAny_holding (thn (ho pins s σ H _ I h) fun ov s1 ⟨x, H1, I1, r1, q1⟩ => ?_))
  refine wpAny_bind (wpAny_holding (thn (hi pins s1 σ H1 _ I1 q1) fun iv s2 ⟨y, H2, I2, r2, q2⟩ => ?_))
  refine wpAny_bind (wpAny_standAt (wpAny_bind (wpAny_holding (thn (hs pins s2 σ H2 x y v ov iv u _ I2 r1 r2 r q2) fun _ s3 ⟨H3, I3, q3⟩ => ?_))))
  exact wpAny_release ⟨σ, H3, I3, q3⟩
def tAsg (te : TE) (g : TG) : TS := fun D σ H => te σ H fun x H1 => g x σ H1 D.nx
theorem ps_asg {tg e : Expr} {te : TE} {g : TG} (he : PE X e te) (hg : PG X tg g) (hs : swapsWithSole [tg] e pos.line X.env = pure false := by rfl) (hw : swappedStores [tg] e X.env = pure none := by rfl)
    (h1 : (assignEach [tg] X.env).map (·.2) = [assign tg X.env] := by rfl) : PS X (.Assign [tg] e pos) (tAsg te g) := by
  intro pins s σ H D I h
  refine wpAny_Assign_stores (thn (he pins s σ H _ I h) fun v s1 ⟨x, H1, I1, r1, q1⟩ => ?_) hs hw
  rw [h1]
  exact thn (hg pins s1 σ H1 x v _ I1 r1 q1) fun _ s2 q => q
theorem ZAK {i : Nat} {x : Str} {e : Expr} {te : TE} {pos' : Pos} (hN : X.N.Nodup) (hi : X.N[i]? = some x) (hx : Loc X.env.scope x) (he : PE X e te) (hs : swapsWith e (some (.Name x pos')) pos.line X.env = pure false := by rfl) (hf : X.fn x = true ∨ X.env.scope.names.lookup x = some .local := by first | exact .inl rfl | exact .inr rfl | assumption) :
    PS X (.Assign [.Name x pos'] e pos) (tAsg te (ZEX i)) := by
  intro pins s σ H D I h
  refine wpAny_Assign_Name (thn (he pins s σ H _ I h) fun v s1 ⟨y, H1, I1, r1, q1⟩ => ?_) hs
  exact ZCf I1 hN hi hx r1 (fun s2 I2 => ⟨_, H1, I2, q1⟩) hf
def tAug (i : Nat) (te : TE) (ti : TIp) : TS := fun D σ H => ∃ x, σ[i]? = some (some x) /\ te σ H fun y H1 => ti x y H1 fun z H2 => D.nx (σ.set i (some z)) H2
theorem ZDs {i : Nat} {x : Str} {e : Expr} {te : TE} {op : Operator} {ti : TIp} {pos' : Pos} (hN : X.N.Nodup) (hi : X.N[i]? = some x) (hx : Loc X.env.scope x) (he : PE X e te) (ho : PIp X op ti) (hf : X.fn x = true ∨ X.env.scope.names.lookup x = some .local := by first | exact .inl rfl | exact .inr rfl | assumption) :
    PS X (.AugAssign (.Name x pos') op e pos) (tAug i te ti) := by
  intro pins s σ H D I h
  obtain ⟨v, e1, h⟩ := h
  obtain ⟨m, hn, hl⟩ := I.loc
  have vis : Vis X.env.scope x := by rcases hx with k | k; exact .inl k; exact .inr (.inl k)
  obtain ⟨u, r, l⟩ := hl i x v hi e1 vis
  refine wpAny_AugAssign_Name ?_
  have go : wpAny (model X.prog X.w) X.A (eval e X.env) (fun w s₂ => wpAny (model X.prog X.w) X.A (inplaceOp op u w) (fun r s₃ => wpAny (model X.prog X.w) X.A (storeName X.env x r) (fun _ => SP X pins D .next) X.xe s₃) X.xe s₂) X.xe s := by
    refine thn (he pins s σ H _ I h) fun w s1 ⟨y, H1, I1, r1, q1⟩ => ?_
    refine thn (ho pins s1 σ H1 v y u w _ I1 r r1 q1) fun z s2 ⟨zv, H2, I2, r2, q2⟩ => ?_
    exact ZCf I2 hN hi hx r2 (fun s3 I3 => ⟨_, H2, I3, q2⟩) hf
  rcases l with ⟨hk, hm⟩ | ⟨hk, c, hc, hcell⟩
  . exact wpAny_loadName_local I.ok.kind hk hn hm go
  . rcases hk with hk | hk
    . exact wpAny_loadName_cell I.ok.kind hk hc hcell go
    . rcases hx with k | k
      . have : X.env.scope.names.lookup x = some .free := hk
        rw [k] at this; cases this
      . have : X.env.scope.names.lookup x = some .free := hk
        rw [k] at this; cases this
def ipI (f : Int -> Int -> Int) : TIp := fun x y H Q => ∃ i j, x = .int i /\ y = .int j /\ Q (.int (f i j)) H
theorem ZDx : PIp X .Add (ipI fun i j => i + j) := by
  intro pins s σ H x y v u Q I r1 r2 h
  obtain ⟨i, j, e1, e2, q⟩ := h
  subst e1; subst e2
  obtain ⟨t, rfl⟩ := r1
  obtain ⟨t', rfl⟩ := r2
  exact iadd_int ⟨.int _, H, I.tok _, ⟨_, rfl⟩, q⟩
end
section
variable {X : Cx} {pos : Pos}
def tWhile (c : TT) (tb : TS) : TS := fun D σ H => ∃ W : Nat -> St -> Hp -> Prop, (∃ m, W m σ H) /\ ∀ m σ H, W m σ H ->
  c σ H fun b H1 => if b = true then ∃ N : St -> Hp -> Prop, (∀ σ' H', N σ' H' -> ∃ m', m' < m /\ W m' σ' H') /\ tb { D with nx := N, ct := N, bk := D.nx } σ H1 else D.nx σ H1
theorem ZBX {c : Expr} {body : List Stmt} {tc : TT} {tb : TS} (hp : PassesOwn (model X.prog X.w) X.A X.env X.xe) (hc : PT X c tc) (hb : PSs X body tb) : PS X (.While c body [] pos) (tWhile tc tb) := by
  intro pins s σ H D I h
  obtain ⟨W, ⟨m0, w0⟩, turn⟩ := h
  refine wpAny_While (codeAny_whileLoop (fun n s' => ∃ σ' H', Inv X pins σ' H' s' /\ W n σ' H') ?_ m0 ⟨σ, H, I, w0⟩)
  rintro n s1 ⟨σ1, H1, I1, w1⟩
  refine wpAny_passesOwn hp (thn (hc pins s1 σ1 H1 _ I1 (turn n σ1 H1 w1)) fun b s2 ⟨H2, I2, q2⟩ => ?_)
  cases b with
  | true =>
    obtain ⟨N, hN, q2⟩ := q2
    rw [if_pos rfl]
    refine wpAny_passesOwn hp (thn (hb pins s2 σ1 H2 _ I2 q2) fun f s3 q3 => ?_)
    cases f with
    | next =>
      obtain ⟨σ3, H3, I3, n3⟩ := q3
      obtain ⟨m', hm, w3⟩ := hN σ3 H3 n3
      exact ⟨m', hm, σ3, H3, I3, w3⟩
    | cont =>
      obtain ⟨σ3, H3, I3, n3⟩ := q3
      obtain ⟨m', hm, w3⟩ := hN σ3 H3 n3
      exact ⟨m', hm, σ3, H3, I3, w3⟩
    | brk => exact q3
    | ret v => exact q3
  | false =>
    rw [if_neg yBJ]
    exact wpAny_execs_nil ⟨σ1, H2, I2, q2⟩
end
structure It where
  go : Nat -> Hp -> Prop
  yld : Nat -> Hp -> V -> Hp -> Prop
  stop : Nat -> Hp -> Prop
def FpOk (X : Cx) (pins : List (Addr × Obj)) (H : Hp) (b : Addr) : Prop :=
  H b = none /\ b ≠ X.env.locals /\ b ∉ X.fs /\ (b ∈ X.ex ∨ X.s₀.heap.objs.size <= b) /\ (∀ x c, X.env.cells.lookup x = some c -> c ≠ b) /\ ∀ p ∈ X.pn ++ pins, p.1 ≠ b
theorem Inv.fpOk {X : Cx} {pins : List (Addr × Obj)} {σ : St} {H H' : Hp} {s : Shared} {b : Addr} (I : Inv X pins σ H s) (hb : s.heap.objs.size <= b) (hn : H' b = none) : FpOk X pins H' b := by
  refine ⟨hn, Nat.ne_of_gt (yAS I.lt hb), I.nofs hb, .inr (yAK I.sz hb), fun x c e z => ?_, fun p hp z => ?_⟩
  . obtain ⟨v, q⟩ := I.cell x c e
    exact absurd (yAS q.lt (by rw [z]; exact hb)) (yBQ _)
  . exact absurd (yAS (Heap.lt_size (I.pin p hp).1) (by rw [z]; exact hb)) (yBQ _)
structure Turn (P : Program) (w : World) (K : W.Frag) (tg : Expr) (J : It) (fp : List Addr) (it : Addr) (tn : Nat -> Heap -> Prop) : Prop where
  mem : it ∈ fp
  obj : ∀ i h, tn i h -> ∀ b ∈ fp, ∃ o, h.get? b = some o /\ ∀ v, o.data ≠ .cell v
  keep : ∀ i h h', tn i h -> (∀ b ∈ fp, ∀ o, h.get? b = some o -> h'.get? b = some o) -> tn i h'
  item : ∀ (X : Cx), X.prog = P -> X.w = w -> X.K = K -> X.calm = true -> ∀ (i : Nat) (pins : List (Addr × Obj)) (s : Shared) (σ : St) (H : Hp) (E : Value -> Shared -> Prop), Inv X pins σ H s -> (∀ b ∈ fp, FpOk X pins H b) -> tn i s.heap -> J.go i H ->
    wpAny (model P w) X.A (pyNext (.ref it)) (fun r s1 => ∃ u, r = some u /\
      wpAny (model P w) X.A (letOwnedTupleGo tg (.ref it) u) (fun _ s2 => ∃ x H', Inv X pins σ H' s2 /\ RelV x u /\ J.yld i H x H' /\ tn (i + 1) s2.heap /\ ∀ b ∈ fp, H' b = none) E s1) E s
  done : ∀ (X : Cx), X.prog = P -> X.w = w -> X.K = K -> X.calm = true -> ∀ (i : Nat) (pins : List (Addr × Obj)) (s : Shared) (σ : St) (H : Hp) (E : Value -> Shared -> Prop), Inv X pins σ H s -> (∀ b ∈ fp, FpOk X pins H b) -> tn i s.heap -> J.stop i H ->
    wpAny (model P w) X.A (pyNext (.ref it)) (fun r s1 => r = none /\ Inv X pins σ H s1) E s
  self : ∀ (A : Around) (i : Nat) (s : Shared) (Q : Value -> Shared -> Prop) (E : Value -> Shared -> Prop), tn i s.heap -> Q (.ref it) s -> wpAny (model P w) A (pyIter (.ref it)) Q E s
abbrev TI := St -> Hp -> (It -> Hp -> Prop) -> Prop
def PIE (X : Cx) (pins : List (Addr × Obj)) (σ : St) (tg : Expr) (R : It -> Hp -> Prop) (itv : Value) (s2 : Shared) : Prop :=
  ∃ (it : Addr) (fp : List Addr) (tn : Nat -> Heap -> Prop) (J : It) (H' : Hp), itv = .ref it /\ Inv X pins σ H' s2 /\ Turn X.prog X.w X.K tg J fp it tn /\ tn 0 s2.heap /\ (∀ b ∈ fp, FpOk X pins H' b) /\ R J H'
def PI (X : Cx) (tg iter : Expr) (wi : TI) : Prop :=
  ∀ (pins : List (Addr × Obj)) (s : Shared) (σ : St) (H : Hp) (R : It -> Hp -> Prop), Inv X pins σ H s -> wi σ H R ->
    wpAny (model X.prog X.w) X.A (eval iter X.env) (fun v s1 => wpAny (model X.prog X.w) X.A (pyIter v) (PIE X pins σ tg R) X.xe s1) X.xe s
theorem go_of {M : Model} {A : Around} {E : Value -> Shared -> Prop} {s : Shared} {tg : Expr} {it : Addr} {u : Value} {o : Obj} {n : String} {vs : Array Value} {Q : Unit -> Shared -> Prop} (ho : s.heap.get? it = some o) (hc : o.cls = .type n) (hd : o.data = .fields vs)
    (hn : ["enumerate", "zip", "dict_itemiterator", "dict_reverseitemiterator", "odict_iterator", "itertools.zip_longest", "itertools.pairwise"].contains n = false) (hQ : Q () s) : wpAny M A (letOwnedTupleGo tg (.ref it) u) Q E s := by
  unfold letOwnedTupleGo
  cases tg <;> first
    | exact wpAny_pure hQ
    | (cases u <;> first
        | exact wpAny_pure hQ
        | (refine wpAny_bind (wpAny_load ho ?_)
           rw [hc, hd]
           show wpAny M A (if (["enumerate", "zip", "dict_itemiterator", "dict_reverseitemiterator", "odict_iterator", "itertools.zip_longest", "itertools.pairwise"].contains n && vs[0]? == some (rawInt _)) = true then _ else _) Q E s
           rw [if_neg (by intro h; rw [hn, Bool.false_and] at h; cases h)]
           exact wpAny_pure hQ))
def Itl (K : W.Frag) (a : Addr) : It :=
  ⟨fun i H => ∃ xs x, SqL K H a xs /\ xs[i]? = some x, fun i H x H' => H' = H /\ ∀ xs, SqL K H a xs -> xs[i]? = some x, fun i H => ∃ xs, SqL K H a xs /\ xs.length <= i⟩
def Itr (lo : Int) (n : Nat) : It := ⟨fun i _ => i < n, fun i H x H' => H' = H /\ x = .int (lo + i), fun i _ => n <= i⟩
theorem turn_list {P : Program} {w : World} {K : W.Frag} {tg : Expr} (a it : Addr) : Turn P w K tg (Itl K a) [it] it (fun i h => h.IsListIter it a i) where
  mem := by simp
  obj := fun i h st b hb => by
    have e : b = it := by simpa using hb
    subst e
    obtain ⟨o, e, c, d⟩ := st
    exact ⟨o, e, fun v z => by rw [d] at z; cases z⟩
  keep := fun i h h' st k => st.at fun o e => k it (by simp) o e
  item := by
    intro X hP hw hK hc i pins s σ H E I hf st hg
    subst hP hw hK
    obtain ⟨xs, x, hq, hx⟩ := hg
    obtain ⟨its, rv, p, hz⟩ := I.list hq
    obtain ⟨u, hu, ru⟩ := rv.get hx
    obtain ⟨f0, f1, f2, f3, f4, f5⟩ := hf it (by simp)
    refine wpAny_pyNext_list_item st p.isList (x := u) (by simpa using hu) fun h' st' sb => ?_
    have I1 : Inv X pins σ H { s with heap := h' } := I.turned (t' := s.toks) (fun b o hb e => (sb.2 b hb).trans e) f0 f1 f3 f4 f5
    obtain ⟨o, e, c, d⟩ := id st'
    exact ⟨u, rfl, go_of (s := { s with heap := h' }) e c d (by decide) ⟨x, H, I1, ru, ⟨rfl, fun ys hy => by rw [I.list_inj hy hq]; exact hx⟩, st', fun b hb => (hf b hb).1⟩⟩
  done := by
    intro X hP hw hK hc i pins s σ H E I hf st hg
    subst hP hw hK
    obtain ⟨xs, hq, hx⟩ := hg
    obtain ⟨its, rv, p, hz⟩ := I.list hq
    obtain ⟨f0, f1, f2, f3, f4, f5⟩ := hf it (by simp)
    have hl := rv.length
    exact wpAny_pyNext_list_end (I.ok.hd hc) st p.isList (by simp; omega) fun h' eb => ⟨rfl, I.turned (t' := s.toks) (fun b o hb e => eb b o hb e) f0 f1 f3 f4 f5⟩
  self := fun _ _ _ _ _ st h => wpAny_pyIter_listiter st h
theorem turn_range {P : Program} {w : World} {K : W.Frag} {tg : Expr} (it : Addr) (lo : Int) (n : Nat) : Turn P w K tg (Itr lo n) [it] it (fun i h => IsRangeIter h it (lo + (i : Nat) * 1) ((n : Int) - (i : Nat)) 1) where
  mem := by simp
  obj := fun i h st b hb => by
    have e : b = it := by simpa using hb
    subst e
    exact ⟨_, st, fun v z => by
      have z' : Data.fields _ = Data.cell v := z
      cases z'⟩
  keep := fun i h h' st k => k it (by simp) _ st
  item := by
    intro X hP hw hK hc i pins s σ H E I hf st hg
    subst hP hw hK
    obtain ⟨f0, f1, f2, f3, f4, f5⟩ := hf it (by simp)
    have W := Walks.range (prog := X.prog) (w := X.w) (I.ok.hd hc) it lo 1 n
    refine W.item i s _ _ hg st fun v h' tk hv st' kk => ?_
    obtain ⟨t, rfl⟩ := hv
    have I1 : Inv X pins σ H { s with heap := h', toks := tk } := I.turned (fun b o hb e => kk b o (by simpa using hb) e) f0 f1 f3 f4 f5
    refine ⟨_, rfl, go_of (s := { s with heap := h', toks := tk }) (n := "range_iterator") st' rfl rfl (by decide) ⟨.int (lo + i), H, I1, ⟨t, ?_⟩, ⟨rfl, rfl⟩, st', fun b hb => (hf b hb).1⟩⟩
    rw [Int.mul_one]
  done := by
    intro X hP hw hK hc i pins s σ H E I hf st hg
    subst hP hw hK
    obtain ⟨f0, f1, f2, f3, f4, f5⟩ := hf it (by simp)
    exact wpAny_pyNext_range_end (I.ok.hd hc) st (by have : n <= i := hg; omega) fun h' eb => ⟨rfl, I.turned (t' := s.toks) (fun b o hb e => eb b o hb e) f0 f1 f3 f4 f5⟩
  self := fun _ _ _ _ _ st h => wpAny_pyIter_rangeiter st h
section
variable {X : Cx} {tg : Expr}
def ZEo (K : W.Frag) (tl : TE) : TI := fun σ H R => tl σ H fun x H1 => ∃ a, x = .ref a /\ (∃ xs, SqL K H1 a xs) /\ R (Itl K a) H1
theorem pi_list {l : Expr} {tl : TE} (hl : PE X l tl) : PI X tg l (ZEo X.K tl) := by
  intro pins s σ H R I h
  refine thn (hl pins s σ H _ I h) fun v s1 ⟨x, H1, I1, r1, q1⟩ => ?_
  obtain ⟨a, e, ⟨xs, hq⟩, q⟩ := q1
  subst e
  cases r1
  obtain ⟨its, rv, p, hz⟩ := I1.list hq
  refine wpAny_pyIter_list p.isList ?_
  refine ⟨s1.heap.objs.size, [s1.heap.objs.size], _, _, H1, rfl, I1.kept (t' := s1.toks) fun b o e => Heap.get?_push_of_some _ e, turn_list a _, ⟨_, Heap.get?_push_size _ rfl, rfl, rfl⟩, fun b hb => ?_, q⟩
  have e : b = s1.heap.objs.size := by simpa using hb
  subst e
  exact I1.fpOk (yAB _) (I1.hok.fresh (yAB _))
theorem range_it {pins : List (Addr × Obj)} {σ : St} {H : Hp} {s : Shared} {R : It -> Hp -> Prop} {E : Value -> Shared -> Prop} {lo hi : Int} {t u v : Tok} {tk : Nat} (I : Inv X pins σ H s) (h1 : -(2 ^ 62) <= lo) (h2 : lo < 2 ^ 62) (h3 : -(2 ^ 62) <= hi) (h4 : hi < 2 ^ 62)
    (q : R (Itr lo (hi - lo).toNat) H) : wpAny (model X.prog X.w) X.A (pyIter (.ref s.heap.objs.size)) (PIE X pins σ tg R) E { s with heap := s.heap.push { cls := .type "range", data := .fields #[.int lo t, .int hi u, .int 1 v] }, toks := tk } := by
  refine wpAny_pyIter_range (IsRange.new ..) (small_one h1 h2 h3 h4) ?_
  have I1 : Inv X pins σ H { s with heap := s.heap.push { cls := .type "range", data := .fields #[.int lo t, .int hi u, .int 1 v] }, toks := tk } := I.kept fun b o e => Heap.get?_push_of_some _ e
  refine ⟨(s.heap.push { cls := .type "range", data := .fields #[.int lo t, .int hi u, .int 1 v] }).objs.size, [(s.heap.push { cls := .type "range", data := .fields #[.int lo t, .int hi u, .int 1 v] }).objs.size], _, _, H, rfl,
    I1.kept (t' := tk) fun b o e => Heap.get?_push_of_some _ e, turn_range _ lo (hi - lo).toNat, ?_, fun b hb => ?_, q⟩
  . have e1 : lo + ((0 : Nat) : Int) * 1 = lo := by simp
    have e2 : (((hi - lo).toNat : Nat) : Int) - ((0 : Nat) : Int) = Builtin.Range.rangeSize lo hi 1 := by rw [rangeSize_one]; split <;> omega
    show IsRangeIter _ _ (lo + ((0 : Nat) : Int) * 1) ((((hi - lo).toNat : Nat) : Int) - ((0 : Nat) : Int)) 1
    rw [e1, e2]
    exact Heap.get?_push_size _ rfl
  . have e : b = (s.heap.push { cls := .type "range", data := .fields #[.int lo t, .int hi u, .int 1 v] }).objs.size := by simpa using hb
    subst e
    exact I1.fpOk (yAB _) (I1.hok.fresh (yAB _))
def ZEn (ta : TA) : TI := fun σ H R => ta σ H fun vs H1 => ∃ j : Int, vs = [.int j] /\ -(2 ^ 62) <= j /\ j < 2 ^ 62 /\ R (Itr 0 j.toNat) H1
def ZEm (ta : TA) : TI := fun σ H R => ta σ H fun vs H1 => ∃ i j : Int, vs = [.int i, .int j] /\ (-(2 ^ 62) <= i /\ i < 2 ^ 62 /\ -(2 ^ 62) <= j /\ j < 2 ^ 62) /\ R (Itr i (j - i).toNat) H1
theorem pi_range1 {a : Expr} {ta : TA} {p pos : Pos} (hg : Gl X "range") (hm : X.mg "range" = none) (ha : PA X [a] ta) (hs : starEach [a] X.env = [(false, eval a X.env)] := by rfl) : PI X tg (.Call (.Name "range" p) [a] [] pos) (ZEn ta) := by
  intro pins s σ H R I h
  refine Call_ (ZDw I hg hm boot_range (PyProof.Rows.callWith_type1 (thn (ha pos pins s σ H _ I h) fun us s1 ⟨vs, H1, I1, r1, q1⟩ => ?_) hs rfl))
  obtain ⟨j, e, q1, q2, q⟩ := q1
  subst e
  cases r1 with
  | cons r rr =>
    cases rr
    obtain ⟨t, rfl⟩ := r
    exact call_range_1 (range_it I1 (by omega) (by omega) q1 q2 (by simpa using q))
theorem pi_range2 {a b : Expr} {ta : TA} {p pos : Pos} (hg : Gl X "range") (hm : X.mg "range" = none) (ha : PA X [a, b] ta) (hs : starEach [a, b] X.env = [(false, eval a X.env), (false, eval b X.env)] := by rfl) (hs2 : starEach [b] X.env = [(false, eval b X.env)] := by rfl) :
    PI X tg (.Call (.Name "range" p) [a, b] [] pos) (ZEm ta) := by
  intro pins s σ H R I h
  refine Call_ (ZDw I hg hm boot_range (PyProof.Rows.callWith_type1 (thn (ha pos pins s σ H _ I h) fun us s1 ⟨vs, H1, I1, r1, q1⟩ => ?_) (by rw [hs, hs2]) (by rw [hs2]; rfl)))
  obtain ⟨i, j, e, ⟨q1, q2, q3, q4⟩, q⟩ := q1
  subst e
  cases r1 with
  | cons r rr =>
    cases rr with
    | cons r' rr =>
      cases rr
      obtain ⟨t, rfl⟩ := r
      obtain ⟨t', rfl⟩ := r'
      exact call_range_2 (range_it I1 q1 q2 q3 q4 q)
def tFor (wi : TI) (g : TG) (tb : TS) : TS := fun D σ H => wi σ H fun J H1 => ∃ W : Nat -> Nat -> St -> Hp -> Prop, (∃ m, W 0 m σ H1) /\ ∀ i m σ H, W i m σ H ->
  (J.stop i H /\ D.nx σ H) ∨ (J.go i H /\ ∃ N : St -> Hp -> Prop, (∀ σ' H', N σ' H' -> ∃ m', m' < m /\ W (i + 1) m' σ' H') /\ ∀ x H', J.yld i H x H' -> g x σ H' fun σ2 H2 => tb { D with nx := N, ct := N, bk := D.nx } σ2 H2)
def ZDW (fp : List Addr) (h : Heap) : List (Addr × Obj) := fp.filterMap fun b => (h.get? b).map fun o => (b, o)
theorem ZB6 {fp : List Addr} {h : Heap} {b : Addr} {o : Obj} (hb : b ∈ fp) (e : h.get? b = some o) : (b, o) ∈ ZDW fp h := List.mem_filterMap.mpr ⟨b, hb, by rw [e]; rfl⟩
theorem of_pinsAt {fp : List Addr} {h : Heap} {p : Addr × Obj} (hp : p ∈ ZDW fp h) : p.1 ∈ fp /\ h.get? p.1 = some p.2 := by
  obtain ⟨b, hb, e⟩ := List.mem_filterMap.mp hp
  cases q : h.get? b with
  | none => rw [q] at e; cases e
  | some o =>
    rw [q] at e
    have e' : (b, o) = p := Option.some.inj e
    subst e'
    exact ⟨hb, q⟩
theorem Inv.pinned {pins : List (Addr × Obj)} {σ : St} {H : Hp} {s : Shared} {fp : List Addr} (I : Inv X pins σ H s) (hf : ∀ b ∈ fp, FpOk X pins H b) (ho : ∀ b ∈ fp, ∃ o, s.heap.get? b = some o /\ ∀ v, o.data ≠ .cell v) : Inv X (pins ++ ZDW fp s.heap) σ H s :=
  I.pins_of fun p hp => (yBC.mp hp).elim (fun z => I.pin p (yAX _ z)) fun z => by
    obtain ⟨hb, e⟩ := of_pinsAt z
    obtain ⟨f0, f1, f2, _⟩ := hf p.1 hb
    obtain ⟨o, e', d⟩ := ho p.1 hb
    rw [e] at e'; cases e'
    exact ⟨e, f0, f1, f2, d⟩
theorem Inv.unpinned {pins pl : List (Addr × Obj)} {σ : St} {H : Hp} {s : Shared} (I : Inv X (pins ++ pl) σ H s) : Inv X pins σ H s := I.pins_of fun p hp => I.pin p (yAX _ (yBO _ hp))
theorem ZED {iter : Expr} {body : List Stmt} {wi : TI} {g : TG} {tb : TS} {pos : Pos} (hp : PassesOwn (model X.prog X.w) X.A X.env X.xe) (hc : X.calm = true) (hi : PI X tg iter wi) (hg : PG X tg g) (hb : PSs X body tb)
    (hs : ∀ x, foldedSetIterable iter X.env x = pure x := by intro _; rfl) : PS X (.For tg iter body [] pos) (tFor wi g tb) := by
  intro pins s σ H D I h
  refine wpAny_For (thn (hi pins s σ H _ I h) fun v s1 h1 => thn h1 fun itv s2 h2 => ?_) hs
  obtain ⟨it, fp, tn, J, H2, e, I2, T, st2, f2, W, ⟨m0, w0⟩, turn⟩ := h2
  subst e
  -- what stays true of the iterator's objects through the loop
  have stat : ∀ {H' : Hp}, (∀ b ∈ fp, H' b = none) -> ∀ b ∈ fp, FpOk X pins H' b := fun hn b hb => ⟨hn b hb, (f2 b hb).2⟩
  refine codeAny_forLoop_any (fun n s' => ∃ i σ' H', Inv X pins σ' H' s' /\ tn i s'.heap /\ (∀ b ∈ fp, H' b = none) /\ W i n σ' H') ?_ m0 ⟨0, σ, H2, I2, st2, fun b hb => (f2 b hb).1, w0⟩
  rintro n s3 ⟨i, σ3, H3, I3, st3, fr3, w3⟩
  rcases turn i n σ3 H3 w3 with ⟨stop, qn⟩ | ⟨go, N, hN, step⟩
  . refine wpAny_passesOwn hp (thn (T.done X rfl rfl rfl hc i pins s3 σ3 H3 X.xe I3 (stat fr3) st3 stop) fun r s4 ⟨hr, I4⟩ => ?_)
    subst hr
    exact wpAny_execs_nil ⟨σ3, H3, I4, qn⟩
  . refine wpAny_passesOwn hp (thn (T.item X rfl rfl rfl hc i pins s3 σ3 H3 X.xe I3 (stat fr3) st3 go) fun r s4 ⟨u, hr, h4⟩ => ?_)
    subst hr
    refine wpAny_passesOwn hp (thn h4 fun _ s5 ⟨x, H5, I5, r5, y5, st5, fr5⟩ => ?_)
    have I5' := I5.pinned (stat fr5) (T.obj _ _ st5)
    refine wpAny_passesOwn hp (thn (hg _ s5 σ3 H5 x u _ I5' r5 (step x H5 y5)) fun _ s6 ⟨σ6, H6, I6, q6⟩ => ?_)
    refine wpAny_passesOwn hp (thn (hb _ s6 σ6 H6 _ I6 q6) fun f s7 q7 => ?_)
    have again : ∀ {σ7 : St} {H7 : Hp}, Inv X (pins ++ ZDW fp s5.heap) σ7 H7 s7 -> N σ7 H7 -> ∃ m, m < n /\ ∃ i σ' H', Inv X pins σ' H' s7 /\ tn i s7.heap /\ (∀ b ∈ fp, H' b = none) /\ W i m σ' H' := fun {σ7 H7} I7 n7 => by
      obtain ⟨m', hm, w7⟩ := hN σ7 H7 n7
      refine ⟨m', hm, i + 1, σ7, H7, I7.unpinned, T.keep _ _ _ st5 fun b hb o e => (I7.pin (b, o) (yAX _ (yAX _ (ZB6 hb e)))).1, fun b hb => ?_, w7⟩
      obtain ⟨o, e, d⟩ := T.obj _ _ st5 b hb
      exact (I7.pin (b, o) (yAX _ (yAX _ (ZB6 hb e)))).2.1
    cases f with
    | next => obtain ⟨σ7, H7, I7, n7⟩ := q7; exact again I7 n7
    | cont => obtain ⟨σ7, H7, I7, n7⟩ := q7; exact again I7 n7
    | brk => obtain ⟨σ7, H7, I7, q7⟩ := q7; exact ⟨σ7, H7, I7.unpinned, q7⟩
    | ret v => obtain ⟨x7, σ7, H7, I7, r7, q7⟩ := q7; exact ⟨x7, σ7, H7, I7.unpinned, r7, q7⟩
end
theorem for_list {K : W.Frag} {a : Addr} {xs : List V} {g : TG} {tb : TS} {D : Ends} {σ : St} {H : Hp} (Pv : Nat -> St -> Hp -> Prop) (h0 : Pv 0 σ H) (hl : ∀ i σ H, i <= xs.length -> Pv i σ H -> SqL K H a xs)
    (hs : ∀ i x σ H, xs[i]? = some x -> Pv i σ H -> g x σ H fun σ2 H2 => tb { D with nx := Pv (i + 1), ct := Pv (i + 1), bk := D.nx } σ2 H2) (hd : ∀ σ H, Pv xs.length σ H -> D.nx σ H) :
    ∃ W : Nat -> Nat -> St -> Hp -> Prop, (∃ m, W 0 m σ H) /\ ∀ i m σ H, W i m σ H ->
      ((Itl K a).stop i H /\ D.nx σ H) ∨ ((Itl K a).go i H /\ ∃ N : St -> Hp -> Prop, (∀ σ' H', N σ' H' -> ∃ m', m' < m /\ W (i + 1) m' σ' H') /\ ∀ x H', (Itl K a).yld i H x H' -> g x σ H' fun σ2 H2 => tb { D with nx := N, ct := N, bk := D.nx } σ2 H2) := by
  refine ⟨fun i m σ H => m = xs.length - i /\ i <= xs.length /\ Pv i σ H, ⟨xs.length, by simp, yAG _, h0⟩, ?_⟩
  rintro i m σ H ⟨rfl, hi, p⟩
  have q := hl i σ H hi p
  by_cases hlt : i < xs.length
  . refine .inr ⟨⟨xs, xs[i], q, by simp [hlt]⟩, Pv (i + 1), fun σ' H' p' => ⟨xs.length - (i + 1), by omega, rfl, hlt, p'⟩, fun x H' y => ?_⟩
    obtain ⟨e, y⟩ := y
    subst e
    exact hs i x σ _ (y xs q) p
  . have e : i = xs.length := by omega
    subst e
    exact .inl ⟨⟨xs, q, yAB _⟩, hd σ H p⟩
theorem for_range {lo : Int} {n : Nat} {g : TG} {tb : TS} {D : Ends} {σ : St} {H : Hp} (Pv : Nat -> St -> Hp -> Prop) (h0 : Pv 0 σ H)
    (hs : ∀ i σ H, i < n -> Pv i σ H -> g (.int (lo + i)) σ H fun σ2 H2 => tb { D with nx := Pv (i + 1), ct := Pv (i + 1), bk := D.nx } σ2 H2) (hd : ∀ σ H, Pv n σ H -> D.nx σ H) :
    ∃ W : Nat -> Nat -> St -> Hp -> Prop, (∃ m, W 0 m σ H) /\ ∀ i m σ H, W i m σ H ->
      ((Itr lo n).stop i H /\ D.nx σ H) ∨ ((Itr lo n).go i H /\ ∃ N : St -> Hp -> Prop, (∀ σ' H', N σ' H' -> ∃ m', m' < m /\ W (i + 1) m' σ' H') /\ ∀ x H', (Itr lo n).yld i H x H' -> g x σ H' fun σ2 H2 => tb { D with nx := N, ct := N, bk := D.nx } σ2 H2) := by
  refine ⟨fun i m σ H => m = n - i /\ i <= n /\ Pv i σ H, ⟨n, by simp, yAG _, h0⟩, ?_⟩
  rintro i m σ H ⟨rfl, hi, p⟩
  by_cases hlt : i < n
  . refine .inr ⟨hlt, Pv (i + 1), fun σ' H' p' => ⟨n - (i + 1), by omega, rfl, hlt, p'⟩, fun x H' y => ?_⟩
    obtain ⟨e, y⟩ := y
    subst e y
    exact hs i σ _ hlt p
  . have e : i = n := by omega
    subst e
    exact .inl ⟨yAB _, hd σ H p⟩
abbrev R2 := V -> V -> Hp -> VK -> Prop
def OpR (X : Cx) (f : Value -> Value -> Sem Value) (r : R2) : Prop :=
  ∀ (pins : List (Addr × Obj)) (s : Shared) (σ : St) (H : Hp) (x y : V) (v u : Value) (Q : VK), Inv X pins σ H s -> RelV x v -> RelV y u -> r x y H Q ->
    wpAny (model X.prog X.w) X.A (f v u) (EP X pins σ Q) X.xe s
def UnR (X : Cx) (f : Value -> Sem Value) (r : V -> Hp -> VK -> Prop) : Prop :=
  ∀ (pins : List (Addr × Obj)) (s : Shared) (σ : St) (H : Hp) (x : V) (v : Value) (Q : VK), Inv X pins σ H s -> RelV x v -> r x H Q ->
    wpAny (model X.prog X.w) X.A (f v) (EP X pins σ Q) X.xe s
def ZC5 (X : Cx) (f : Value) (r : List V -> Hp -> VK -> Prop) : Prop :=
  ∀ (pins : List (Addr × Obj)) (s : Shared) (σ : St) (H : Hp) (xs : List V) (us : List Value) (Q : VK), Inv X pins σ H s -> Vals xs us -> r xs H Q ->
    wpAny (model X.prog X.w) X.A (call f us) (EP X pins σ Q) X.xe s
def tOp (r : R2) (ta tb : TE) : TE := fun σ H Q => ta σ H fun x H1 => tb σ H1 fun y H2 => r x y H2 Q
def tUn (r : V -> Hp -> VK -> Prop) (ta : TE) : TE := fun σ H Q => ta σ H fun x H1 => r x H1 Q
def rI (C : Int -> Int -> Prop) (g : Int -> Int -> V) : R2 := fun x y H Q => ∃ i j, x = .int i /\ y = .int j /\ C i j /\ Q (g i j) H
def rI0 (g : Int -> Int -> V) : R2 := fun x y H Q => ∃ i j, x = .int i /\ y = .int j /\ Q (g i j) H
def rU (g : Int -> V) : V -> Hp -> VK -> Prop := fun x H Q => ∃ i, x = .int i /\ Q (g i) H
section
variable {X : Cx} {a b c : Expr} {ta tb tc : TE} {pos : Pos}
theorem binT (ha : PE X a ta) (hb : PE X b tb) {pins : List (Addr × Obj)} {s : Shared} {σ : St} {H : Hp} {R : V -> V -> Hp -> Prop} (I : Inv X pins σ H s)
    (h : ta σ H fun x H1 => tb σ H1 fun y H2 => R x y H2) {Q : Value -> Shared -> Prop} {f : Value -> Value -> Sem Value}
    (hf : ∀ v u s2 x y H2, Inv X pins σ H2 s2 -> RelV x v -> RelV y u -> R x y H2 -> wpAny (model X.prog X.w) X.A (f v u) Q X.xe s2) :
    wpAny (model X.prog X.w) X.A (eval a X.env) (fun v s₁ => wpAny (model X.prog X.w) X.A (eval b X.env) (fun u s₂ => wpAny (model X.prog X.w) X.A (f v u) Q X.xe s₂) X.xe s₁) X.xe s := by
  refine thn (ha pins s σ H _ I h) fun v s1 ⟨x, H1, I1, r1, q1⟩ => ?_
  refine thn (hb pins s1 σ H1 _ I1 q1) fun u s2 ⟨y, H2, I2, r2, q2⟩ => ?_
  exact hf v u s2 x y H2 I2 r1 r2 q2
theorem ZAO {op : Operator} {r : R2} (ho : OpR X (binaryOp op) r) (ha : PE X a ta) (hb : PE X b tb) : PE X (.BinOp a op b pos) (tOp r ta tb) := by
  intro pins s σ H Q I h
  exact wpAny_BinOp (binT ha hb I h fun v u s2 x y H2 I2 rx ry q => ho pins s2 σ H2 x y v u Q I2 rx ry q)
theorem ZEk {op : UnaryOp} {r : V -> Hp -> VK -> Prop} (ho : UnR X (unaryOp op) r) (ha : PE X a ta) : PE X (.UnaryOp op a pos) (tUn r ta) := by
  intro pins s σ H Q I h
  exact UnaryOp_ (thn (ha pins s σ H _ I h) fun v s1 ⟨x, H1, I1, r1, q1⟩ => ho pins s1 σ H1 x v Q I1 r1 q1)
theorem opI {f : Value -> Value -> Sem Value} {C : Int -> Int -> Prop} {g : Int -> Int -> Int}
    (rule : ∀ (i j : Int) (t u : Tok) (s : Shared) (Q : Value -> Shared -> Prop) (E : Value -> Shared -> Prop), C i j -> Q (.int (g i j) s.toks) { s with toks := s.toks + 1 } -> wpAny (model X.prog X.w) X.A (f (.int i t) (.int j u)) Q E s) :
    OpR X f (rI C fun i j => .int (g i j)) := by
  intro pins s σ H x y v u Q I rx ry h
  obtain ⟨i, j, rfl, rfl, hc, q⟩ := h
  obtain ⟨t, rfl⟩ := rx
  obtain ⟨t', rfl⟩ := ry
  exact rule i j t t' s _ _ hc ⟨.int (g i j), H, I.tok _, ⟨_, rfl⟩, q⟩
theorem opI0 {f : Value -> Value -> Sem Value} {g : Int -> Int -> Int}
    (rule : ∀ (i j : Int) (t u : Tok) (s : Shared) (Q : Value -> Shared -> Prop) (E : Value -> Shared -> Prop), Q (.int (g i j) s.toks) { s with toks := s.toks + 1 } -> wpAny (model X.prog X.w) X.A (f (.int i t) (.int j u)) Q E s) :
    OpR X f (rI0 fun i j => .int (g i j)) := by
  intro pins s σ H x y v u Q I rx ry h
  obtain ⟨i, j, rfl, rfl, q⟩ := h
  obtain ⟨t, rfl⟩ := rx
  obtain ⟨t', rfl⟩ := ry
  exact rule i j t t' s _ _ ⟨.int (g i j), H, I.tok _, ⟨_, rfl⟩, q⟩
theorem opB0 {f : Value -> Value -> Sem Value} {g : Int -> Int -> Bool}
    (rule : ∀ (i j : Int) (t u : Tok) (s : Shared) (Q : Value -> Shared -> Prop) (E : Value -> Shared -> Prop), Q (.bool (g i j)) s -> wpAny (model X.prog X.w) X.A (f (.int i t) (.int j u)) Q E s) :
    OpR X f (rI0 fun i j => .bl (g i j)) := by
  intro pins s σ H x y v u Q I rx ry h
  obtain ⟨i, j, rfl, rfl, q⟩ := h
  obtain ⟨t, rfl⟩ := rx
  obtain ⟨t', rfl⟩ := ry
  exact rule i j t t' s _ _ ⟨.bl (g i j), H, I, rfl, q⟩
def CDiv (i j : Int) : Prop := 0 < j /\ j < 1073741824
def CPow (i j : Int) : Prop := 0 <= j /\ j <= 1000000 /\ i.natAbs < 2 ^ 64
def CMul (i j : Int) : Prop := (-(2 ^ 64) < i /\ i < 2 ^ 64) ∨ (-(2 ^ 64) < j /\ j < 2 ^ 64)
theorem CMul.ok {i j : Int} (h : CMul i j) : IntMulOk i j := by
  rcases h with ⟨h1, h2⟩ | ⟨h1, h2⟩
  . exact .of_left (intBits_le_64 h1 h2)
  . exact .of_right (intBits_le_64 h1 h2)
theorem ZAi : OpR X (binaryOp .Add) (rI0 fun i j => .int (i + j)) := opI0 fun _ _ _ _ _ _ _ q => add_int q
theorem ZBB : OpR X (binaryOp .Sub) (rI0 fun i j => .int (i - j)) := opI0 fun _ _ _ _ _ _ _ q => sub_int q
theorem ZCC : OpR X (binaryOp .Mult) (rI CMul fun i j => .int (i * j)) := opI fun _ _ _ _ _ _ _ hc q => mul_int q hc.ok
theorem ZBc : OpR X (binaryOp .FloorDiv) (rI CDiv fun i j => .int (i / j)) := opI fun i j _ _ _ _ _ hc q => by
  have h1 : (0 : Int) < j := hc.1
  have h2 : j < 1073741824 := hc.2
  exact floordiv_int (by omega) (by rw [Int.fdiv_eq_ediv_of_nonneg i (by omega)]; exact q) (.inl (PyProof.noPylong_small (by omega)))
theorem ZBA : OpR X (binaryOp .Mod) (rI (fun _ j => 0 < j) fun i j => .int (i % j)) := opI fun i j _ _ _ _ _ hc q => by
  have h1 : (0 : Int) < j := hc
  exact mod_int' (by omega) (by rw [Int.fmod_eq_emod_of_nonneg i (by omega)]; exact q)
theorem op_pow : OpR X (binaryOp .Pow) (rI CPow fun i j => .int (i ^ j.toNat)) := opI fun _ _ _ _ _ _ _ hc q => pow_int_small hc.1 hc.2.1 hc.2.2 q
theorem unI {f : Value -> Sem Value} {g : Int -> Int}
    (rule : ∀ (i : Int) (t : Tok) (s : Shared) (Q : Value -> Shared -> Prop) (E : Value -> Shared -> Prop), Q (.int (g i) s.toks) { s with toks := s.toks + 1 } -> wpAny (model X.prog X.w) X.A (f (.int i t)) Q E s) :
    UnR X f (rU fun i => .int (g i)) := by
  intro pins s σ H x v Q I rx h
  obtain ⟨i, rfl, q⟩ := h
  obtain ⟨t, rfl⟩ := rx
  exact rule i t s _ _ ⟨.int (g i), H, I.tok _, ⟨_, rfl⟩, q⟩
theorem ZD4 : UnR X (unaryOp .USub) (rU fun i => .int (-i)) := unI fun _ _ _ _ _ q => neg_int q
end
def scal : V -> V -> Bool
  | .non, .non => true | .non, .int _ => true | .int _, .non => true | .non, .bl _ => true | .bl _, .non => true | .non, .str _ => true | .str _, .non => true
  | .int _, .int _ => true | .bl _, .bl _ => true | .str _, .str _ => true | .byt _, .byt _ => true
  | .int _, .str _ => true | .str _, .int _ => true | .bl _, .str _ => true | .str _, .bl _ => true
  | _, _ => false
def rEq : R2 := fun x y H Q => scal x y = true /\ Q (.bl (decide (x = y))) H
def rNe : R2 := fun x y H Q => scal x y = true /\ Q (.bl (!decide (x = y))) H
theorem dec_int {i j : Int} : decide (V.int i = V.int j) = (i == j) := by
  rw [Bool.eq_iff_iff]
  simp
theorem dec_bl {i j : Bool} : decide (V.bl i = V.bl j) = (i == j) := by
  rw [Bool.eq_iff_iff]
  simp
theorem dec_str {i j : Str} : decide (V.str i = V.str j) = (i == j) := by
  rw [Bool.eq_iff_iff]
  simp
theorem dec_byt {i j : Array UInt8} : decide (V.byt i = V.byt j) = (i.toList == j.toList) := by
  rw [Bool.eq_iff_iff]
  cases i
  cases j
  simp
section
variable {X : Cx} {a b c : Expr} {ta tb tc : TE} {pos : Pos}
theorem ZBL {pins : List (Addr × Obj)} {σ : St} {H : Hp} {s : Shared} {Q : VK} {k k' : Bool} (I : Inv X pins σ H s) (q : Q (.bl k) H) (e : k = k') : EP X pins σ Q (.bool k') s := by
  subst e
  exact ⟨.bl k, H, I, rfl, q⟩
theorem ZCd : OpR X (compareOp .Eq) rEq := by
  intro pins s σ H x y v u Q I rx ry h
  obtain ⟨hs, q⟩ := h
  cases x with
  | non =>
    cases rx
    cases y with
    | non => cases ry; exact PySem.EqNone.eq_none_none (ZBL I q (by simp))
    | bl j => cases ry; exact PySem.EqNone.eq_none_bool (ZBL I q (by simp))
    | int j => obtain ⟨t', rfl⟩ := ry; exact PySem.EqNone.eq_none_int (ZBL I q (by simp))
    | str j => obtain ⟨t', rfl⟩ := ry; exact PySem.EqNone.eq_none_str (ZBL I q (by simp))
    | _ => exact absurd (show false = true from hs) yBJ
  | bl i =>
    cases rx
    cases y with
    | non => cases ry; exact PySem.EqNone.eq_bool_none (ZBL I q (by simp))
    | bl j => cases ry; exact eq_bool (ZBL I q dec_bl)
    | str j => obtain ⟨t', rfl⟩ := ry; exact PySem.EqMixed.eq_bool_str (ZBL I q (by simp))
    | _ => exact absurd (show false = true from hs) yBJ
  | int i =>
    obtain ⟨t, rfl⟩ := rx
    cases y with
    | non => cases ry; exact PySem.EqNone.eq_int_none (ZBL I q (by simp))
    | int j => obtain ⟨t', rfl⟩ := ry; exact eq_int (ZBL I q dec_int)
    | str j => obtain ⟨t', rfl⟩ := ry; exact PySem.EqMixed.eq_int_str (ZBL I q (by simp))
    | _ => exact absurd (show false = true from hs) yBJ
  | str i =>
    obtain ⟨t, rfl⟩ := rx
    cases y with
    | non => cases ry; exact PySem.EqNone.eq_str_none (ZBL I q (by simp))
    | bl j => cases ry; exact PySem.EqMixed.eq_str_bool (ZBL I q (by simp))
    | int j => obtain ⟨t', rfl⟩ := ry; exact PySem.EqMixed.eq_str_int (ZBL I q (by simp))
    | str j => obtain ⟨t', rfl⟩ := ry; exact eq_str (ZBL I q dec_str)
    | _ => exact absurd (show false = true from hs) yBJ
  | byt i =>
    obtain ⟨t, rfl⟩ := rx
    cases y with
    | byt j => obtain ⟨t', rfl⟩ := ry; exact PySem.W.eq_bytes (ZBL I q dec_byt)
    | _ => exact absurd (show false = true from hs) yBJ
  | _ => cases y <;> exact absurd (show false = true from hs) yBJ
theorem ZC2 : OpR X (compareOp .Lt) (rI0 fun i j => .bl (decide (i < j))) := opB0 fun _ _ _ _ _ _ _ q => lt_int q
theorem ZEU : OpR X (compareOp .Gt) (rI0 fun i j => .bl (decide (j < i))) := opB0 fun _ _ _ _ _ _ _ q => gt_int q
theorem op_ge : OpR X (compareOp .GtE) (rI0 fun i j => .bl (decide (j <= i))) := opB0 fun _ _ _ _ _ _ _ q => ge_int q
theorem ZDu : OpR X (compareOp .Is) (fun x y H Q => y = .non /\ Q (.bl (decide (x = .non))) H) := by
  intro pins s σ H x y v u Q I rx ry h
  obtain ⟨rfl, q⟩ := h
  cases ry
  refine is_none_gen (ZBL I q ?_)
  cases x <;> first
    | (cases rx; rfl)
    | (obtain ⟨t, rfl⟩ := rx; rfl)
theorem op_notN : OpR X (compareOp .IsNot) (fun x y H Q => y = .non /\ Q (.bl (!decide (x = .non))) H) := by
  intro pins s σ H x y v u Q I rx ry h
  obtain ⟨rfl, q⟩ := h
  cases ry
  refine isnot_none_gen (ZBL I q ?_)
  cases x <;> first
    | (cases rx; rfl)
    | (obtain ⟨t, rfl⟩ := rx; rfl)
theorem ZAY (b : Expr) {op : CmpOp} (h : op ≠ .In := by decide) (h2 : op ≠ .NotIn := by decide) : behindInMarks op b = false := by
  have e1 : (op == CmpOp.In) = false := by cases op <;> first | rfl | exact absurd rfl h
  have e2 : (op == CmpOp.NotIn) = false := by cases op <;> first | rfl | exact absurd rfl h2
  cases b <;> simp [behindInMarks, e1, e2]
theorem ZCt {op : CmpOp} {r : R2} (ho : OpR X (compareOp op) r) (ha : PE X a ta) (hb : PE X b tb) (hm : behindInMarks op b = false) : PE X (.Compare a [op] [b] pos) (tOp r ta tb) := by
  intro pins s σ H Q I h
  exact wpAny_Compare1 (binT ha hb I h fun v u s2 x y H2 I2 rx ry q => ho pins s2 σ H2 x y v u Q I2 rx ry q) hm
def ZEZ (t : TE) : TT := fun σ H Q => t σ H fun x H' => ∃ k, x = .bl k /\ Q k H'
theorem ZAU {op : CmpOp} {r : R2} (ho : OpR X (compareOp op) r) (ha : PE X a ta) (hb : PE X b tb) (hm : behindInMarks op b = false) : PT X (.Compare a [op] [b] pos) (ZEZ (tOp r ta tb)) := by
  intro pins s σ H Q I h
  refine wpAny_isTrue_Compare1 (thn (ha pins s σ H _ I h) fun v s1 ⟨x, H1, I1, r1, q1⟩ => thn (hb pins s1 σ H1 _ I1 q1) fun u s2 ⟨y, H2, I2, r2, q2⟩ =>
    thn (ho pins s2 σ H2 x y v u _ I2 r1 r2 q2) fun c s3 ⟨z, H3, I3, r3, k, e, q3⟩ => ?_) hm
  subst e
  cases r3
  exact wpAny_truthy_bool ⟨H3, I3, q3⟩
def tChain (r r' : R2) (ta tb tc : TE) : TE := fun σ H Q => ta σ H fun x H1 => tb σ H1 fun y H2 => r x y H2 fun z H3 => ∃ k, z = .bl k /\
  (if k = true then tc σ H3 fun w' H4 => r' y w' H4 Q else Q (.bl false) H3)
theorem ZDv : (sizeLine : Nat) < 2 ^ 63 := by rw [sizeLine_eq]; decide
theorem ZD3 {x : V} {us : List Value} (r : Vals [x] us) : ∃ u, us = [u] /\ RelV x u := by
  cases r with
  | cons r1 r2 => cases r2; exact ⟨_, rfl, r1⟩
theorem ZEY {x y : V} {us : List Value} (r : Vals [x, y] us) : ∃ u w', us = [u, w'] /\ RelV x u /\ RelV y w' := by
  cases r with
  | cons r1 r2 =>
    cases r2 with
    | cons r3 r4 => cases r4; exact ⟨_, _, rfl, r1, r3⟩
theorem call_max2 (hc : X.calm = true) : ZC5 X (.builtin "max") (fun xs H Q => ∃ i j, xs = [.int i, .int j] /\ Q (.int (if j > i then j else i)) H) := by
  intro pins s σ H xs us Q I r h
  obtain ⟨i, j, rfl, q⟩ := h
  obtain ⟨u, w', rfl, ⟨t, rfl⟩, ⟨t', rfl⟩⟩ := ZEY r
  refine max_two_ints (I.ok.hd hc) fun h' tk k => ⟨_, H, I.kept k, ?_, q⟩
  by_cases hj : j > i
  . rw [if_pos hj, if_pos hj]; exact ⟨_, rfl⟩
  . rw [if_neg hj, if_neg hj]; exact ⟨_, rfl⟩
theorem ZBz (hc : X.calm = true) : ZC5 X (.builtin "min") (fun xs H Q => ∃ i j, xs = [.int i, .int j] /\ Q (.int (if j < i then j else i)) H) := by
  intro pins s σ H xs us Q I r h
  obtain ⟨i, j, rfl, q⟩ := h
  obtain ⟨u, w', rfl, ⟨t, rfl⟩, ⟨t', rfl⟩⟩ := ZEY r
  refine min_two_ints (I.ok.hd hc) fun h' tk k => ⟨_, H, I.kept k, ?_, q⟩
  by_cases hj : j < i
  . rw [if_pos hj, if_pos hj]; exact ⟨_, rfl⟩
  . rw [if_neg hj, if_neg hj]; exact ⟨_, rfl⟩
end
structure ObjM (h : Heap) (x dx C : Addr) (mA : Str -> Option Value) : Prop where
  obj : h.get? x = some (PySem.W.instObj C dx)
  ns : h.Ns1 dx mA
  ne : dx ≠ x
theorem lookIn_ns {h : Heap} {dx : Addr} {mA : Str -> Option Value} (n : h.Ns1 dx mA) : ∃ od, h.get? dx = some od /\ ∀ name, PySem.W.lookIn name od = some (mA name) := by
  obtain ⟨o, es, ep, ho, hd, hk, _, hm⟩ := n
  refine ⟨o, ho, fun name => ?_⟩
  have e := hm name
  unfold nsFind findBy at e
  rw [<- Array.find?_toList] at e
  unfold PySem.W.lookIn
  rw [hd]
  dsimp only
  split
  . rename_i y q
    rw [q] at e
    exact congrArg some e
  . rename_i q
    rw [q] at e
    have a : es.toList.any (·.refKey) = false := by
      rw [List.any_eq_false]
      intro y hy
      obtain ⟨z, t, hkey⟩ := hk y (Array.mem_toList_iff.mp hy)
      simp [DictEntry.refKey, hkey]
    have a' : ¬ es.toList.any (·.refKey) = true := by rw [a]; exact yBJ
    rw [if_neg a']
    exact congrArg some e
theorem ObjM.look {h : Heap} {x dx C : Addr} {mA : Str -> Option Value} (I : ObjM h x dx C mA) : ∃ od, PySem.W.InstAt h x (PySem.W.instObj C dx) C (some od) /\ ∀ name, PySem.W.lookIn name od = some (mA name) :=
  let ⟨od, ho, hl⟩ := lookIn_ns I.ns
  ⟨od, ⟨I.obj, rfl, rfl, ho⟩, hl⟩
section
variable {prog : Program} {w : World} {A : Around} {E : Value -> Shared -> Prop} {s : Shared} {K : W.Frag} {x dx C f : Addr} {mA : Str -> Option Value} {name : Str} {v : Value}
theorem get_map {expr : Bool} {Q : Value -> Shared -> Prop} (X : K.In s.heap) (I : ObjM s.heap x dx C mA) (hg : PySem.W.plainGet K C name = true) (hh : PySem.W.hasDictIn K C = true)
    (ha : W.findIn K (.ref C) name = some none) (hv : mA name = some v) (hv' : PySem.W.handedIn v = true) (h : Q v { s with toks := s.toks + 1 }) :
    wpAny (model prog w) A (getAttr (.ref x) name expr) Q E s := by
  obtain ⟨od, J, hl⟩ := I.look
  exact PySem.W.get_value X J (PySem.W.plainGet_of hg).1 (PySem.W.findObj_own hh ha rfl (by rw [hl, hv])) hv' h
theorem get_meth {pl : Sem Bool} {Q : Value × List Value -> Shared -> Prop} (X : K.In s.heap) (I : ObjM s.heap x dx C mA) (hg : PySem.W.plainGet K C name = true)
    (hf : W.findIn K (.ref C) name = some (some (.ref f))) (ht : PySem.W.isFn K (.ref f) = true) (hv : mA name = none) (h : Q (.ref f, [.ref x]) s) :
    wpAny (model prog w) A (getMethod (.ref x) name pl) Q E s := by
  obtain ⟨od, J, hl⟩ := I.look
  exact PySem.W.method_fn X J (PySem.W.plainGet_of hg).1 (PySem.W.plainGet_of hg).2 hf (beq_iff_eq.mp ht) (by show (PySem.W.lookIn name od).map (·.isSome) = some false; rw [hl, hv]; rfl) h
theorem set_map {ns : List Str} {Q : Unit -> Shared -> Prop} (X : K.In s.heap) (I : ObjM s.heap x dx C mA)
    (hs : W.findIn K (.ref C) "__setattr__" = some (some (.builtin "object.__setattr__"))) (hp : PySem.W.plainOver K C = true) (ht : PySem.W.takerIn K C name = some none) (hh : PySem.W.hasDictIn K C = true)
    (hw : PySem.Within mA ns) (hsz : ns.length <= sizeLine)
    (h : ∀ h', ObjM h' x dx C (fun y => if y = name then some v else mA y) -> Heap.SameBut dx s.heap h' -> Q () { s with heap := h', toks := s.toks + 2 }) :
    wpAny (model prog w) A (setAttr (.ref x) name v) Q E s := by
  obtain ⟨od, J, hl⟩ := I.look
  refine PySem.W.set_plain X J hs (PySem.W.osa_open (s := { s with toks := s.toks + 1 }) (r := none) X J hp ht fun b => ?_)
  obtain ⟨cd, hc, hd'⟩ := PySem.W.any_some hh
  have hx : s.heap.get? x = some ⟨.ref C, some dx, .plain, #[]⟩ := I.obj
  refine wpAny_bind (wpAny_pure (wpAny_bind (wpAny_bind (wpAny_loadPart hx (wpAny_bind (PySem.W.Looks.here (s := { s with toks := s.toks + 1 }) (PySem.W.looks_clsIn X hc) ?_))))))
  rw [hd']
  refine wpAny_pure (a := some dx) (wpAny_bind (wpAny_pure (wpAny_bind ?_)))
  refine wpAny_nsSet1 (s := { s with toks := s.toks + 1 }) I.ns fun h' hn2 hs2 => ?_
  obtain ⟨oD, esD, epD, hoD, hdD, hcD⟩ := hn2.count (PySem.Within.cons name v hw)
  refine wpAny_bind (wpAny_lookBehind hoD (by rw [hdD]; exact pastItsLine_dict (yAK hcD (by rw [yAI]; omega))) ?_)
  exact wpAny_pure (h _ ⟨(hs2.2 _ (Ne.symm I.ne)).trans I.obj, hn2, I.ne⟩ hs2)
theorem make_map {R : Result -> Shared -> Prop} {vs : List Value} {kw : List (Str × Value)} (X : K.In s.heap) (hm : PySem.W.makesIn K C = true)
    (hi : W.findIn K (.ref C) "__init__" = some (some (.ref f))) (hf : PySem.W.typeIn K (.ref f) = some (.type "function"))
    (h : codeAny (model prog w) (A.under (.builtin "type.__call__" ⟨.ref C :: vs, kw⟩)) (.call (.ref f) ⟨.ref (s.heap.objs.size + 1) :: vs, kw⟩) (PySem.W.InitBack (s.heap.objs.size + 1) R)
      { s with heap := (s.heap.push PySem.W.emptyDict).push (PySem.W.instObj C s.heap.objs.size) }) :
    codeAny (model prog w) A (.call (.ref C) ⟨vs, kw⟩) R s := by
  obtain ⟨hh, g, d, t, os⟩ := s
  exact PySem.W.make_core (PySem.W.makes_of X hm) (PySem.W.looks_findIn X hi) (fun self => PySem.W.bind_fn X self hf) (.inl rfl) h
end
def putF (f : Str) (v : V) : List (Str × V) -> List (Str × V)
  | [] => [(f, v)]
  | (g, x) :: r => if g = f then (g, v) :: r else (g, x) :: putF f v r
theorem ZAc (f g : Str) (v : V) : ∀ fs : List (Str × V), (putF f v fs).lookup g = if g = f then some v else fs.lookup g
  | [] => by
    show List.lookup g [(f, v)] = _
    by_cases h : g = f
    . have hb : (g == f) = true := beq_iff_eq.mpr h
      simp only [List.lookup, hb, if_pos h]
    . have hb : (g == f) = false := beq_eq_false_iff_ne.mpr h
      simp only [List.lookup, hb, if_neg h]
  | (k, x) :: r => by
    have ih := ZAc f g v r
    rw [show putF f v ((k, x) :: r) = (if k = f then (k, v) :: r else (k, x) :: putF f v r) from rfl]
    by_cases hk : k = f
    . rw [if_pos hk]
      by_cases h : g = k
      . have hb : (g == k) = true := beq_iff_eq.mpr h
        simp only [List.lookup, hb, if_pos (h.trans hk)]
      . have hb : (g == k) = false := beq_eq_false_iff_ne.mpr h
        simp only [List.lookup, hb, if_neg (fun e : g = f => h (e.trans hk.symm))]
    . rw [if_neg hk]
      by_cases h : g = k
      . have hb : (g == k) = true := beq_iff_eq.mpr h
        simp only [List.lookup, hb, if_neg (fun e : g = f => hk (h.symm.trans e))]
      . have hb : (g == k) = false := beq_eq_false_iff_ne.mpr h
        simp only [List.lookup, hb]
        exact ih
theorem ZCw (f : Str) (v : V) : ∀ fs : List (Str × V), f ∈ (putF f v fs).map (·.1) /\ ∀ g, g ∈ fs.map (·.1) -> g ∈ (putF f v fs).map (·.1)
  | [] => ⟨by simp [putF], fun g h => by simp at h⟩
  | (k, x) :: r => by
    obtain ⟨i1, i2⟩ := ZCw f v r
    rw [show putF f v ((k, x) :: r) = (if k = f then (k, v) :: r else (k, x) :: putF f v r) from rfl]
    by_cases hk : k = f
    . rw [if_pos hk]
      subst hk
      exact ⟨by simp, fun g h => by simpa using h⟩
    . rw [if_neg hk]
      refine ⟨?_, fun g h => ?_⟩
      . rw [yAZ]
        exact yAC _ i1
      . rw [yAZ] at h ⊢
        rcases yAE.mp h with e | e
        . exact yAE.mpr (.inl e)
        . exact yAC _ (i2 g e)
theorem ZCI (f : Str) (v : V) : ∀ fs : List (Str × V), (putF f v fs).length <= fs.length + 1
  | [] => by simp [putF]
  | (k, x) :: r => by
    have ih := ZCI f v r
    rw [show putF f v ((k, x) :: r) = (if k = f then (k, v) :: r else (k, x) :: putF f v r) from rfl]
    by_cases hk : k = f
    . rw [if_pos hk, yAI, yAI]; omega
    . rw [if_neg hk, yAI, yAI]; omega
theorem RelO.some_of {v : V} {o : Option Value} (r : RelO (some v) o) : ∃ u, o = some u /\ RelV v u := by
  cases o with
  | none => exact (show False from r).elim
  | some u => exact ⟨u, rfl, r⟩
theorem RelO.none_of {o : Option Value} (r : RelO none o) : o = none := by
  cases o with
  | none => rfl
  | some u => exact (show False from r).elim
theorem handed_of {v : V} {u : Value} (r : RelV v u) : PySem.W.handedIn u = true := by
  cases v with
  | non => cases (show u = Value.none from r); rfl
  | bl b => cases (show u = Value.bool b from r); rfl
  | int i => obtain ⟨t, e⟩ := (show ∃ t, u = Value.int i t from r); cases e; rfl
  | str x => obtain ⟨t, e⟩ := (show ∃ t, u = Value.str x t from r); cases e; rfl
  | byt b => obtain ⟨t, e⟩ := (show ∃ t, u = Value.bytes b t from r); cases e; rfl
  | flt b => obtain ⟨t, e⟩ := (show ∃ t, u = Value.float b t from r); cases e; rfl
  | ref a => cases (show u = Value.ref a from r); rfl
  | ty n => cases (show u = Value.type n from r); rfl
section
variable {P : Program} {w : World} {H H' : Hp} {h h' : Heap} {a C dx : Addr} {fs fs' : List (Str × V)}
theorem ZDm (hok : HOk P w H h) (e : H a = some (.ins C dx fs)) : ∃ mA, ObjM h a dx C mA /\ (∀ f, RelO (fs.lookup f) (mA f)) /\ PySem.Within mA (fs.map (·.1)) /\ fs.length <= 1000 /\ H dx = some (.own a) := by
  obtain ⟨d, z, ne, ob, mA, n, r, q⟩ := (show ObjOk P w H h a (.ins C dx fs) from hok a _ e)
  exact ⟨mA, ⟨ob, n, ne⟩, r, q, z, d⟩
end
structure Cls (K : W.Frag) (C : Addr) : Prop where
  pg : PySem.W.plainGet K C Str.empty = true
  hd : PySem.W.hasDictIn K C = true
  po : PySem.W.plainOver K C = true
  sa : W.findIn K (.ref C) "__setattr__" = some (some (.builtin "object.__setattr__"))
theorem Cls.get {K : W.Frag} {C : Addr} (c : Cls K C) (f : Str) : PySem.W.plainGet K C f = true := c.pg
def NoAttr (K : W.Frag) (C : Addr) (f : Str) : Prop := W.findIn K (.ref C) f = some none
theorem NoAttr.taker {K : W.Frag} {C : Addr} {f : Str} (n : NoAttr K C f) : PySem.W.takerIn K C f = some none := by
  unfold PySem.W.takerIn
  rw [show W.findIn K (.ref C) f = some none from n]
  rfl
structure Meth (K : W.Frag) (C : Addr) (m : Str) (f : Addr) : Prop where
  at_ : W.findIn K (.ref C) m = some (some (.ref f))
  fn : PySem.W.isFn K (.ref f) = true
  kp : W.keepIn K (.ref f) = true
section
variable {X : Cx} {pins : List (Addr × Obj)} {σ : St} {H : Hp} {s : Shared} {a C dx : Addr} {fs : List (Str × V)} {f : Str} {v : V} {A : Around} {E : Value -> Shared -> Prop}
theorem getattr_ok {b : Bool} {Q : Value -> Shared -> Prop} (I : Inv X pins σ H s) (e : H a = some (.ins C dx fs)) (c : Cls X.K C) (n : NoAttr X.K C f) (l : fs.lookup f = some v)
    (h : ∀ u s', Inv X pins σ H s' -> RelV v u -> Q u s') : wpAny (model X.prog X.w) A (getAttr (.ref a) f b) Q E s := by
  obtain ⟨mA, O, r, _, _, _⟩ := ZDm I.hok e
  obtain ⟨u, hu, ru⟩ := RelO.some_of (v := v) (o := mA f) (by rw [<- l]; exact r f)
  exact get_map I.kIn O (c.get f) c.hd n hu (handed_of ru) (h u _ (I.tok _) ru)
theorem getmeth_ok {m : Str} {g : Addr} {pl : Sem Bool} {Q : Value × List Value -> Shared -> Prop} (I : Inv X pins σ H s) (e : H a = some (.ins C dx fs)) (c : Cls X.K C) (k : Meth X.K C m g) (l : fs.lookup m = none)
    (h : Q (.ref g, [.ref a]) s) : wpAny (model X.prog X.w) A (getMethod (.ref a) m pl) Q E s := by
  obtain ⟨mA, O, r, _, _, _⟩ := ZDm I.hok e
  have hn : mA m = none := RelO.none_of (by rw [<- l]; exact r m)
  exact get_meth I.kIn O (c.get m) k.at_ k.fn hn h
theorem setattr_ok {y : V} {u : Value} {Q : Unit -> Shared -> Prop} (I : Inv X pins σ H s) (e : H a = some (.ins C dx fs)) (c : Cls X.K C) (n : NoAttr X.K C f) (hl : fs.length < 1000) (ry : RelV y u)
    (h : ∀ s', Inv X pins σ (upd H a (.ins C dx (putF f y fs))) s' -> Q () s') : wpAny (model X.prog X.w) A (setAttr (.ref a) f u) Q E s := by
  obtain ⟨mA, O, r, wi, _, ho⟩ := ZDm I.hok e
  have hz : (fs.map (·.1)).length <= sizeLine := by rw [yAD, sizeLine_eq]; omega
  refine set_map I.kIn O c.sa c.po n.taker c.hd wi hz fun h' O' sb => h _ ?_
  have hd : ∃ o, h'.get? dx = some o := let ⟨o, _, _, e', _⟩ := O'.ns; ⟨o, e'⟩
  refine I.write (x := a) (e := dx) (by rw [e]; exact True.intro) (.inr ho) (fun b q hb z => (sb.2 b hb).trans z) hd ?_
  refine ⟨by rw [ZAH O.ne]; exact ho, ?_, O.ne, O'.obj, _, O'.ns, fun g => ?_, fun g hg => ?_⟩
  . have := ZCI f y fs; omega
  . show RelO ((putF f y fs).lookup g) (if g = f then some u else mA g)
    rw [ZAc]
    by_cases q : g = f
    . rw [if_pos q, if_pos q]; exact ry
    . rw [if_neg q, if_neg q]; exact r g
  . by_cases q : g = f
    . rw [q]; exact (ZCw f y fs).1
    . refine (ZCw f y fs).2 g (wi g fun z => hg ?_)
      show (if g = f then some u else mA g) = none
      rw [if_neg q]; exact z
theorem Inv.made (I : Inv X pins σ H s) : Inv X pins σ (upd (upd H s.heap.objs.size (.own (s.heap.objs.size + 1))) (s.heap.objs.size + 1) (.ins C s.heap.objs.size []))
    { s with heap := (s.heap.push PySem.W.emptyDict).push (PySem.W.instObj C s.heap.objs.size) } := by
  have e1 : (s.heap.push PySem.W.emptyDict).get? s.heap.objs.size = some PySem.W.emptyDict := Heap.get?_push_size s.heap rfl
  have e2 : ((s.heap.push PySem.W.emptyDict).push (PySem.W.instObj C s.heap.objs.size)).get? (s.heap.objs.size + 1) = some (PySem.W.instObj C s.heap.objs.size) := by
    have := Heap.get?_push_size (s.heap.push PySem.W.emptyDict) (o := PySem.W.instObj C s.heap.objs.size) rfl
    rwa [Heap.size_push] at this
  have e3 : (s.heap.push PySem.W.emptyDict).Ns s.heap.objs.size (fun _ => none) := ⟨PySem.W.emptyDict, #[], _, e1, rfl, (fun e he => absurd he (by simp)), fun _ => rfl⟩
  have I1 := I.laid (a := s.heap.objs.size) (o := .own (s.heap.objs.size + 1)) (h' := s.heap.push PySem.W.emptyDict) (t' := s.toks) (fun b u q => Heap.get?_push_of_some _ q) (yAB _) ⟨_, e1⟩
  refine I1.laid (a := s.heap.objs.size + 1) (o := .ins C s.heap.objs.size []) (t' := s.toks) (fun b u q => Heap.get?_push_of_some _ q) (Nat.le_of_eq (Heap.size_push _ _)) ?_
  have ne : s.heap.objs.size ≠ s.heap.objs.size + 1 := yAP (yBU _)
  refine ⟨by rw [ZAH ne, ZAG], yAG _, ne, e2, fun _ => none, (Heap.Ns1.of_empty e3).at fun o q => Heap.get?_push_of_some _ q, fun _ => True.intro, fun y hy => absurd rfl hy⟩
theorem attr_of {prog : Program} {w : World} {env : Env} {e : Expr} {f : Str} {pos : Pos} {s : Shared} {Q : Value -> Shared -> Prop} (hb : attributeBase e f env (eval e env) = eval e env)
    (h : wpAny (model prog w) A (eval e env) (fun o s₁ => wpAny (model prog w) A (getAttr o f true) Q E s₁) E s) : wpAny (model prog w) A (eval (.Attribute e f pos) env) Q E s :=
  Attribute_any_ h (by rw [arm_eval_Attribute, hb])
end
def tFld (K : W.Frag) (ta : TE) (f : Str) : TE := fun σ H Q => ta σ H fun x H1 => ∃ a C dx fs v, x = .ref a /\ H1 a = some (.ins C dx fs) /\ Cls K C /\ NoAttr K C f /\ fs.lookup f = some v /\ Q v H1
def sFld (K : W.Frag) (ta tv : TE) (f : Str) : TS := fun D σ H => tv σ H fun y H1 => ta σ H1 fun x H2 => ∃ a C dx fs, x = .ref a /\ H2 a = some (.ins C dx fs) /\ Cls K C /\ NoAttr K C f /\ fs.length < 1000 /\
  D.nx σ (upd H2 a (.ins C dx (putF f y fs)))
def InOp (X : Cx) (op : Operator) (rd : V -> V -> Hp -> VK -> Prop) : Prop :=
  ∀ (pins : List (Addr × Obj)) (s : Shared) (σ : St) (H : Hp) (x y : V) (u v : Value) (Q : VK), Inv X pins σ H s -> RelV x u -> RelV y v -> rd x y H Q -> wpAny (model X.prog X.w) X.A (inplaceOp op u v) (EP X pins σ Q) X.xe s
def sFldAug (K : W.Frag) (ta tv : TE) (rd : V -> V -> Hp -> VK -> Prop) (f : Str) : TS := fun D σ H => ta σ H fun x H1 => ∃ a C dx fs v, x = .ref a /\ H1 a = some (.ins C dx fs) /\ Cls K C /\ NoAttr K C f /\ fs.lookup f = some v /\
  tv σ H1 fun y H2 => rd v y H2 fun z H3 => ∃ dx' fs', H3 a = some (.ins C dx' fs') /\ fs'.length < 1000 /\ D.nx σ (upd H3 a (.ins C dx' (putF f z fs')))
section
variable {X : Cx} {o e value : Expr} {f : Str} {pos pos' tpos : Pos} {ta tv : TE}
theorem ZAP (he : PE X e ta) (hb : attributeBase e f X.env (eval e X.env) = eval e X.env) : PE X (.Attribute e f pos) (tFld X.K ta f) := by
  intro pins s σ H Q I h
  refine attr_of hb (thn (he pins s σ H _ I h) fun u s1 ⟨x, H1, I1, rx, a, C, dx, fs, v, ex, ea, c, n, l, q⟩ => ?_)
  subst ex
  obtain rfl : u = Value.ref a := rx
  exact getattr_ok I1 ea c n l fun u' s2 I2 ru => ⟨v, H1, I2, ru, q⟩
theorem ZA8 (ha : PE X o ta) (hv : PE X value tv) (hs : swapsWith value (some (.Attribute o f pos')) pos.line X.env = pure false) : PS X (.Assign [.Attribute o f pos'] value pos) (sFld X.K ta tv f) := by
  intro pins s σ H D I h
  refine plainObj_wpAny_Assign_Attribute (thn (hv pins s σ H _ I h) fun u s1 ⟨y, H1, I1, ry, q⟩ => thn (ha pins s1 σ H1 _ I1 q) fun ov s2 ⟨x, H2, I2, rx, a, C, dx, fs, ex, ea, c, n, l, q2⟩ => ?_) hs
  subst ex
  obtain rfl : ov = Value.ref a := rx
  exact setattr_ok I2 ea c n l ry fun s3 I3 => ⟨σ, _, I3, q2⟩
theorem ps_fldaug {op : Operator} {rd : V -> V -> Hp -> VK -> Prop} (ha : PE X o ta) (hv : PE X value tv) (hop : InOp X op rd) : PS X (.AugAssign (.Attribute o f tpos) op value pos) (sFldAug X.K ta tv rd f) := by
  intro pins s σ H D I h
  refine wpAny_AugAssign_AttributeAny (thn (ha pins s σ H _ I h) fun ov s1 ⟨x, H1, I1, rx, a, C, dx, fs, v, ex, ea, c, n, l, q⟩ => ?_)
  subst ex
  obtain rfl : ov = Value.ref a := rx
  refine getattr_ok I1 ea c n l fun u s2 I2 ru => thn (hv pins s2 σ H1 _ I2 q) fun w3 s3 ⟨y, H2, I3, ry, q3⟩ => thn (hop pins s3 σ H2 v y u w3 _ I3 ru ry q3) fun w4 s4 ⟨z, H3, I4, rz, dx', fs', ea', l', q4⟩ => ?_
  exact setattr_ok I4 ea' c n l' rz fun s5 I5 => ⟨σ, _, I5, q4⟩
def rAdd : V -> V -> Hp -> VK -> Prop := fun x y H Q => ∃ i j, x = .int i /\ y = .int j /\ Q (.int (i + j)) H
theorem in_add : InOp X .Add rAdd := by
  rintro pins s σ H x y u v Q I rx ry ⟨i, j, rfl, rfl, q⟩
  obtain ⟨t, rfl⟩ := (show ∃ t, u = Value.int i t from rx)
  obtain ⟨t', rfl⟩ := (show ∃ t', v = Value.int j t' from ry)
  exact PyProof.Rows.iadd_int ⟨.int (i + j), H, I.tok _, ⟨_, rfl⟩, q⟩
end
section
variable {X : Cx} {pins : List (Addr × Obj)} {σ : St} {H : Hp} {s : Shared} {A : Around} {E : Value -> Shared -> Prop} {Q : Value -> Shared -> Prop} {c : Value} {b : Bool}
end
structure Room (k : Nat) (A : Around) : Prop where
  hd : A.handled = none
  dp : A.depth + 3 * k + 5 < recursionLimit
  un : A.units + 16 * k + 200 < cLine
theorem Room.mono {j k : Nat} {A : Around} (r : Room k A) (h : j <= k) : Room j A := ⟨r.hd, by have := r.dp; omega, by have := r.un; omega⟩
theorem Room.deeper {k : Nat} {A : Around} (r : Room (k + 1) A) (env : Env) : Room k (A.deeper env) :=
  ⟨r.hd, by have := r.dp; show A.depth + 1 + 3 * k + 5 < _; omega, by have := r.un; show A.units + 3 + 16 * k + 200 < _; omega⟩
theorem make_depth {A : Around} {C : Addr} {us : List Value} {kw : List (Str × Value)} : (A.under (.builtin "type.__call__" ⟨.ref C :: us, kw⟩)).depth = A.depth + 1 := by
  first | rfl | simp [Around.under, Code.weight, Code.isCreation, Code.isGuard, Code.isCaller, Code.frames, Code.isFrame, guardIds]
theorem make_units {A : Around} {C : Addr} {us : List Value} {kw : List (Str × Value)} : (A.under (.builtin "type.__call__" ⟨.ref C :: us, kw⟩)).units = A.units + 1 := by
  first | rfl | simp [Around.under, Code.cUnits, Code.frames, Code.isFrame]
theorem Room.make {k : Nat} {A : Around} (r : Room (k + 1) A) (C : Addr) (us : List Value) (kw : List (Str × Value)) : Room k (A.under (.builtin "type.__call__" ⟨.ref C :: us, kw⟩)) :=
  ⟨r.hd, by have := r.dp; rw [make_depth]; omega, by have := r.un; rw [make_units]; omega⟩
theorem Room.depth {k : Nat} {A : Around} (r : Room k A) : A.depth < recursionLimit := by have := r.dp; omega
theorem Room.units {k : Nat} {A : Around} (r : Room k A) : A.units + 64 < cLine := by have := r.un; omega
def tNil : TA := fun _ H Q => Q [] H
def ZB8 (ta : TE) (tr : TA) : TA := fun σ H Q => ta σ H fun x H1 => tr σ H1 fun xs H2 => Q (x :: xs) H2
section
variable {X : Cx} {e : Expr} {es : List Expr} {te : TE} {t : TA} {pos : Pos}
theorem ZAE : PA X [] tNil := fun _ _ _ _ H Q I h => Calls.spliced_nil ⟨[], H, I, .nil, h⟩
theorem ZAA (ha : PE X e te) (hr : PA X es t) (hs : starEach (e :: es) X.env = (false, eval e X.env) :: starEach es X.env := by rfl) : PA X (e :: es) (ZB8 te t) := by
  intro pos pins s σ H Q I h
  rw [hs]
  show wpAny _ _ (spliced ((false, eval e X.env) :: backTo pos (starEach es X.env))) _ _ s
  refine Calls.spliced_cons (thn (ha pins s σ H _ I h) fun u s1 ⟨x, H1, I1, r1, q1⟩ => ?_)
  exact thn (hr pos pins s1 σ H1 _ I1 q1) fun us s2 ⟨xs, H2, I2, r2, q2⟩ => ⟨x :: xs, H2, I2, .cons r1 r2, q2⟩
def tTup (t : TA) : TE := fun σ H Q => t σ H fun xs H1 => xs.length <= sizeLine /\ ∀ p, H1 p = none -> Q (.ref p) (upd H1 p (.tup xs))
def tLst (t : TA) : TE := fun σ H Q => t σ H fun xs H1 => xs.length <= sizeLine /\ ∀ p, H1 p = none -> Q (.ref p) (upd H1 p (.lst xs))
theorem ZBu {x1} (h : PA X es t) : PE X (.Tuple es x1 pos) (tTup t) := by
  intro pins s σ H Q I hq
  refine wpAny_Tuple_spliced (thn (h pos pins s σ H _ I hq) fun us s1 ⟨xs, H1, I1, r, z, q⟩ => ⟨by rw [<- r.length]; exact z, ?_⟩)
  have hf : H1 s1.heap.objs.size = none := I1.hok.fresh (yAB _)
  refine ⟨.ref s1.heap.objs.size, upd H1 s1.heap.objs.size (.tup xs), I1.laid (t' := s1.toks) (fun b u e => Heap.get?_push_of_some _ e) (yAB _) ?_, rfl, q _ hf⟩
  exact ⟨z, us, r, ⟨_, Heap.get?_push_size _ rfl, rfl, _, rfl⟩⟩
theorem ZBJ (h : PA X es t) : PE X (.List es pos) (tLst t) := by
  intro pins s σ H Q I hq
  refine wpAny_List_spliced (thn (h pos pins s σ H _ I hq) fun us s1 ⟨xs, H1, I1, r, z, q⟩ => ⟨by rw [<- r.length]; exact z, ?_⟩)
  have hf : H1 s1.heap.objs.size = none := I1.hok.fresh (yAB _)
  refine ⟨.ref s1.heap.objs.size, upd H1 s1.heap.objs.size (.lst xs), I1.laid (t' := s1.toks) (fun b u e => Heap.get?_push_of_some _ e) (yAB _) ?_, rfl, q _ hf⟩
  exact ⟨z, us, 0, r, Heap.get?_push_size _ rfl⟩
end
abbrev Sp := List V -> Hp -> VK -> XK -> Prop
abbrev CXT := List Env -> Hp -> Shared -> XK -> Value -> Shared -> Prop
structure Env0 (P : Program) (w : World) (K : W.Frag) (mg : Str -> Option Value) (base : Heap) (A : Around) (outer : List Env) (s : Shared) (H : Hp) : Prop where
  frames : A.frames = some outer
  mod : Mod K mg base
  bs : ∀ b o, base.get? b = some o -> s.heap.get? b = some o /\ H b = none
  bsz : base.objs.size <= s.heap.objs.size
  funs : s.heap.FunFrames base outer
  frf : ∀ b ∈ frs outer, H b = none
  hok : HOk P w H s.heap
  bare : AllBare s.gens
def CE (outer : List Env) (P : Program) (w : World) (H : Hp) (s : Shared) (Q : VK) (u : Value) (s' : Shared) : Prop :=
  ∃ v H', s'.os = s.os /\ AllBare s'.gens /\ Un (frs outer) [] H H' s.heap s'.heap /\ HOk P w H' s'.heap /\ RelV v u /\ Q v H'
def CR (CX : CXT) (outer : List Env) (P : Program) (w : World) (H : Hp) (s : Shared) (Q : VK) (E : XK) (r : Result) (s' : Shared) : Prop :=
  match r with
  | .ok (.ret u) => CE outer P w H s Q u s'
  | .ok _ => False
  | .error e => CX outer H s E e s'
structure FnOk (P : Program) (w : World) (K : W.Frag) (mg : Str -> Option Value) (base : Heap) (CX : CXT) (k : Nat) (f : Addr) (fd : FuncData) (ps : List Str) (sp : Sp) : Prop where
  len : ∀ vs H Q E, sp vs H Q E -> vs.length = ps.length
  run : ∀ (A : Around) (outer : List Env) (s : Shared) (H : Hp) (args : Args) (us : List Value) (vs : List V) (Q : VK) (E : XK), Room k A -> Env0 P w K mg base A outer s H -> BindsTo s fd args (ps.zip us) -> Vals vs us -> sp vs H Q E ->
    codeAny (model P w) A (.call (.ref f) args) (CR CX outer P w H s Q E) s
theorem Env0.make {P : Program} {w : World} {K : W.Frag} {mg : Str -> Option Value} {base : Heap} {A : Around} {outer : List Env} {s : Shared} {H : Hp} (e : Env0 P w K mg base A outer s H) (C : Addr) (us : List Value) (kw : List (Str × Value)) :
    Env0 P w K mg base (A.under (.builtin "type.__call__" ⟨.ref C :: us, kw⟩)) outer s H := ⟨by first | exact e.frames | (simpa [Around.under, Code.envs, Code.isFrame, pushEnvs] using e.frames), e.mod, e.bs, e.bsz, e.funs, e.frf, e.hok, e.bare⟩
section
variable {X : Cx} {pins : List (Addr × Obj)} {σ : St} {H : Hp} {s s' : Shared}
theorem Inv.env0 (I : Inv X pins σ H s) : Env0 X.prog X.w X.K X.mg X.base X.A X.stack s H :=
  ⟨I.ok.frames, I.ok.mod, I.bs, yAK I.ok.bsz I.sz, I.stack, I.stkFree, I.hok, I.bare⟩
theorem Inv.after {Q : VK} {u : Value} (I : Inv X pins σ H s) (h : CE X.stack X.prog X.w H s Q u s') : EP X pins σ Q u s' := by
  obtain ⟨v, H', os, bare, un, hok, r, q⟩ := h
  obtain ⟨hh, g, d, t, os'⟩ := s'
  obtain rfl : os' = s.os := os
  exact ⟨v, H', I.call (h' := hh) (g' := g) (d' := d) (t' := t) (ch := []) un hok bare (fun b z => absurd z (by simp)), r, q⟩
end
def ZEP (sp : Sp) (dvs : List V) (E : XK) (t : TA) : TE := fun σ H Q => t σ H fun vs H1 => sp (vs ++ dvs) H1 Q E
def ZD0 (C : Addr) (m : Str) (sp : Sp) (dvs : List V) (E : XK) (ta : TE) (t : TA) : TE := fun σ H Q => ta σ H fun x H1 => ∃ a dx fs, x = .ref a /\ H1 a = some (.ins C dx fs) /\ fs.lookup m = none /\
  t σ H1 fun vs H2 => sp (x :: (vs ++ dvs)) H2 Q E
def ZD6 (C : Addr) (sp : Sp) (dvs : List V) (E : XK) (t : TA) : TE := fun σ H Q => t σ H fun vs H1 => ∀ x dx, H1 x = none -> H1 dx = none -> dx ≠ x ->
  sp (.ref x :: (vs ++ dvs)) (upd (upd H1 dx (.own x)) x (.ins C dx [])) (fun v H2 => v = .non /\ Q (.ref x) H2) E
def Binds (K : W.Frag) (fd : FuncData) (ps : List Str) (ds : List Value) : Prop :=
  ∀ (s : Shared) (us : List Value), K.In s.heap -> (us ++ ds).length = ps.length -> BindsTo s fd ⟨us, []⟩ (ps.zip (us ++ ds))
theorem Binds.all {K : W.Frag} {fd : FuncData} {ps : List Str} (h : ∀ us : List Value, us.length = ps.length -> bindArgs fd ⟨us, []⟩ = pure (ps.zip us)) : Binds K fd ps [] := fun s us _ hl => by
  rw [yAT] at hl ⊢
  exact .of_eq (h us hl)
def ZBr (CX : CXT) (X : Cx) (E : XK) : Prop := ∀ (pins : List (Addr × Obj)) (σ : St) (H : Hp) (s : Shared) (e : Value) (s' : Shared), Inv X pins σ H s -> CX X.stack H s E e s' -> X.xe e s'
section
variable {X : Cx} {CX : CXT} {k : Nat} {f C : Addr} {fd : FuncData} {ps : List Str} {sp : Sp} {dvs : List V} {ds : List Value} {E : XK} {x m : Str} {p pos apos : Pos} {e o : Expr} {es : List Expr} {ta : TE} {t : TA}
theorem ZEC {pins : List (Addr × Obj)} {σ : St} {H : Hp} {s : Shared} {Q : VK} {us : List Value} {vs : List V} (F : FnOk X.prog X.w X.K X.mg X.base CX k f fd ps sp) (hr : Room k X.A) (hb : Binds X.K fd ps ds) (hd : Vals dvs ds) (hx : ZBr CX X E)
    (I : Inv X pins σ H s) (r : Vals vs us) (h : sp (vs ++ dvs) H Q E) : wpAny (model X.prog X.w) X.A (call (.ref f) us) (EP X pins σ Q) X.xe s := by
  have r2 : Vals (vs ++ dvs) (us ++ ds) := r.append hd
  have hl : (us ++ ds).length = ps.length := by rw [<- r2.length]; exact F.len _ _ _ _ h
  refine wpAny_call (codeAny_mono (F.run X.A X.stack s H ⟨us, []⟩ (us ++ ds) (vs ++ dvs) Q E hr I.env0 (hb s us I.kIn hl) r2 h) fun r s' hq => ?_)
  cases r with
  | error e => exact hx pins σ H s e s' I hq
  | ok fl =>
    cases fl with
    | ret u => exact I.after hq
    | next => exact False.elim hq
    | brk => exact False.elim hq
    | cont => exact False.elim hq
theorem pe_call (F : FnOk X.prog X.w X.K X.mg X.base CX k f fd ps sp) (hr : Room k X.A) (hg : Gl X x) (hm : X.mg x = some (.ref f)) (hk : W.keepIn X.K (.ref f) = true) (hb : Binds X.K fd ps ds) (hd : Vals dvs ds) (hx : ZBr CX X E)
    (ha : PA X (e :: es) t) (hdb : (x == ("__debug__" : Str)) = false := by decide) (he : starEach (e :: es) X.env = (false, eval e X.env) :: starEach es X.env := by rfl) (hpl : (backTo pos (starEach es X.env)).any (·.1) = false := by rfl) :
    PE X (.Call (.Name x p) (e :: es) [] pos) (ZEP sp dvs E t) := by
  intro pins s σ H Q I h
  refine wpAny_Call_Name_kw (ZDk I hg hm ?_ hdb)
  refine PySem.W.callWith_K (h₀ := X.base) I.ok.mod.kin hk (thn (ha pos pins s σ H _ I h) fun us s1 ⟨vs, H1, I1, r, q⟩ => ⟨I1.kIn, ?_⟩) he hpl
  exact ZEC F hr hb hd hx I1 r q
theorem pe_meth {pl : Sem Bool} (he : PE X o ta) (c : Cls X.K C) (hm : Meth X.K C m f) (F : FnOk X.prog X.w X.K X.mg X.base CX k f fd ps sp) (hr : Room k X.A) (hb : Binds X.K fd ps ds) (hd : Vals dvs ds) (hx : ZBr CX X E) (ha : PA X (e :: es) t)
    (hst : starEach (e :: es) X.env = (false, eval e X.env) :: starEach es X.env := by rfl) (hpl : (backTo pos (starEach es X.env)).any (·.1) = false := by rfl)
    (ht : eval (.Call (.Attribute o m apos) (e :: es) [] pos) X.env = (do
      let ov <- eval o X.env
      standAt apos.atName
      let (f, first) <- holding [ov] (getMethod ov m pl)
      callWith pos f first (backTo pos (starEach (e :: es) X.env)) (backToKw pos (keywordEach [] X.env))) := by rfl) :
    PE X (.Call (.Attribute o m apos) (e :: es) [] pos) (ZD0 C m sp dvs E ta t) := by
  intro pins s σ H Q I h
  refine PySem.W.methodCall_KW (pl := pl) (thn (he pins s σ H _ I h) fun u s1 ⟨x, H1, I1, rx, a, dx, fs, ex, ea, l, q⟩ => ?_) ht
  subst ex
  obtain rfl : u = Value.ref a := rx
  refine getmeth_ok I1 ea c hm l ?_
  refine PySem.W.callWith_K (first := [.ref a]) (h₀ := X.base) I.ok.mod.kin hm.kp (thn (ha pos pins s1 σ H1 _ I1 q) fun us s2 ⟨vs, H2, I2, r, q2⟩ => ⟨I2.kIn, ?_⟩) hst hpl
  exact ZEC (us := .ref a :: us) (vs := .ref a :: vs) F hr hb hd hx I2 (.cons rfl r) q2
theorem pe_meth0 {pl : Sem Bool} (he : PE X o ta) (c : Cls X.K C) (hm : Meth X.K C m f) (F : FnOk X.prog X.w X.K X.mg X.base CX k f fd ps sp) (hr : Room k X.A) (hb : Binds X.K fd ps ds) (hd : Vals dvs ds) (hx : ZBr CX X E)
    (ht : eval (.Call (.Attribute o m apos) [] [] pos) X.env = (do
      let ov <- eval o X.env
      standAt apos.atName
      let (f, first) <- holding [ov] (getMethod ov m pl)
      callWith pos f first (backTo pos (starEach [] X.env)) (backToKw pos (keywordEach [] X.env))) := by rfl) :
    PE X (.Call (.Attribute o m apos) [] [] pos) (ZD0 C m sp dvs E ta tNil) := by
  intro pins s σ H Q I h
  refine PySem.W.methodCall_KW (pl := pl) (thn (he pins s σ H _ I h) fun u s1 ⟨x, H1, I1, rx, a, dx, fs, ex, ea, l, q⟩ => ?_) ht
  subst ex
  obtain rfl : u = Value.ref a := rx
  refine getmeth_ok I1 ea c hm l ?_
  exact PySem.W.callWith_K0 (first := [.ref a]) I1.kIn hm.kp (ZEC (us := [.ref a]) (vs := [.ref a]) F hr hb hd hx I1 (.cons rfl .nil) q)
structure Mk (K : W.Frag) (C f : Addr) : Prop where
  makes : PySem.W.makesIn K C = true
  init : W.findIn K (.ref C) "__init__" = some (some (.ref f))
  fn : PySem.W.isFn K (.ref f) = true
  kp : W.keepIn K (.ref C) = true
theorem run_make {pins : List (Addr × Obj)} {σ : St} {H : Hp} {s : Shared} {Q : VK} {us : List Value} {vs : List V} (M : Mk X.K C f) (F : FnOk X.prog X.w X.K X.mg X.base CX k f fd ps sp) (hr : Room (k + 1) X.A) (hb : Binds X.K fd ps ds) (hd : Vals dvs ds)
    (hx : ZBr CX X E) (I : Inv X pins σ H s) (r : Vals vs us)
    (h : ∀ x dx, H x = none -> H dx = none -> dx ≠ x -> sp (.ref x :: (vs ++ dvs)) (upd (upd H dx (.own x)) x (.ins C dx [])) (fun v H2 => v = .non /\ Q (.ref x) H2) E) :
    wpAny (model X.prog X.w) X.A (call (.ref C) us) (EP X pins σ Q) X.xe s := by
  have hq := h (s.heap.objs.size + 1) s.heap.objs.size (I.hok.fresh (yBE _)) (I.hok.fresh (yAB _)) (yAP (yBU _))
  have I2 := Inv.made (C := C) I
  have r2 : Vals (V.ref (s.heap.objs.size + 1) :: (vs ++ dvs)) (Value.ref (s.heap.objs.size + 1) :: (us ++ ds)) := .cons rfl (r.append hd)
  have hl : (Value.ref (s.heap.objs.size + 1) :: us ++ ds).length = ps.length := by
    have e := r2.length
    rw [F.len _ _ _ _ hq] at e
    exact e.symm
  refine wpAny_call (make_map (f := f) I.kIn M.makes M.init (beq_iff_eq.mp M.fn) (codeAny_mono (F.run _ X.stack _ _ ⟨Value.ref (s.heap.objs.size + 1) :: us, []⟩ (Value.ref (s.heap.objs.size + 1) :: (us ++ ds)) _ _ E (hr.make C us [])
    (I2.env0.make C us []) (hb _ (Value.ref (s.heap.objs.size + 1) :: us) I2.kIn hl) r2 hq) fun r s' hq' => ?_))
  cases r with
  | error e => exact hx pins σ _ _ e s' I2 hq'
  | ok fl =>
    cases fl with
    | ret u =>
      obtain ⟨v, H', I3, rv, ev, q3⟩ := I2.after hq'
      subst ev
      exact ⟨rv, ⟨V.ref (s.heap.objs.size + 1), H', I3, rfl, q3⟩⟩
    | next => exact False.elim hq'
    | brk => exact False.elim hq'
    | cont => exact False.elim hq'
theorem pe_make (M : Mk X.K C f) (F : FnOk X.prog X.w X.K X.mg X.base CX k f fd ps sp) (hr : Room (k + 1) X.A) (hg : Gl X x) (hm : X.mg x = some (.ref C)) (hb : Binds X.K fd ps ds) (hd : Vals dvs ds) (hx : ZBr CX X E)
    (ha : PA X (e :: es) t) (hdb : (x == ("__debug__" : Str)) = false := by decide) (he : starEach (e :: es) X.env = (false, eval e X.env) :: starEach es X.env := by rfl) (hpl : (backTo pos (starEach es X.env)).any (·.1) = false := by rfl) :
    PE X (.Call (.Name x p) (e :: es) [] pos) (ZD6 C sp dvs E t) := by
  intro pins s σ H Q I h
  refine wpAny_Call_Name_kw (ZDk I hg hm ?_ hdb)
  refine PySem.W.callWith_K (h₀ := X.base) I.ok.mod.kin M.kp (thn (ha pos pins s σ H _ I h) fun us s1 ⟨vs, H1, I1, r, q⟩ => ⟨I1.kIn, ?_⟩) he hpl
  exact run_make M F hr hb hd hx I1 r q
end
section
variable {X : Cx} {CX : CXT} {k : Nat} {f C : Addr} {fd : FuncData} {ps ks : List Str} {sp : Sp} {E : XK} {x m : Str} {p pos apos kpos : Pos} {e o : Expr} {es : List Expr} {kws : List Keyword} {te ta : TE} {t tk : TA} {nm : Option Str}
variable {g : List Value -> List Value -> List Value} {gV : List V -> List V -> List V}
end
structure FnScope (N P : List Str) (sc : Scope) : Prop where
  kind : sc.kind = .function
  co : sc.isCoroutine = false
  gen : sc.isGenerator = false
  nd : N.Nodup
  pre : N.take P.length = P
  par : ∀ x ∈ P, sc.names.lookup x = some .local ∨ sc.names.lookup x = some .cell
  nofree : ∀ y ∈ sc.names, y.2 ≠ .free
theorem bindL_out {kindOf : Str -> Option NameKind} {x : Str} : ∀ {binds : List (Str × Value)} {m : Str -> Option Value}, (∀ v, (x, v) ∉ binds) -> bindL kindOf binds m x = m x
  | [], _, _ => rfl
  | (n, v) :: r, m, h => by
    unfold bindL
    rw [bindL_out fun w hw => h w (yAC _ hw)]
    split
    . have : x ≠ n := by rintro rfl; exact h v yAF
      simp [this]
    . rfl
theorem bindC_out {kindOf : Str -> Option NameKind} {x : Str} : ∀ {binds : List (Str × Value)} {m : Str -> Option Value}, (∀ v, (x, v) ∉ binds) -> bindC kindOf binds m x = m x
  | [], _, _ => rfl
  | (n, v) :: r, m, h => by
    unfold bindC
    rw [bindC_out fun w hw => h w (yAC _ hw)]
    split
    . rfl
    . have : x ≠ n := by rintro rfl; exact h v yAF
      simp [this]
theorem bindL_get {kindOf : Str -> Option NameKind} {x : Str} {v : Value} : ∀ {P : List Str} {vs : List Value} {i : Nat} {m : Str -> Option Value}, P.Nodup -> P[i]? = some x -> vs[i]? = some v -> kindOf x = some .local ->
    bindL kindOf (P.zip vs) m x = some v
  | [], _, _, _, _, h, _, _ => by simp at h
  | _ :: _, [], _, _, _, _, h, _ => by simp at h
  | p :: P, w :: vs, 0, m, nd, h1, h2, hk => by
    simp at h1 h2; subst h1; subst h2
    show bindL kindOf ((p, w) :: P.zip vs) m p = _
    unfold bindL
    rw [bindL_out fun v hv => (List.nodup_cons.mp nd).1 (List.of_mem_zip hv).1, if_pos hk]
    simp
  | p :: P, w :: vs, i + 1, m, nd, h1, h2, hk => by
    show bindL kindOf ((p, w) :: P.zip vs) m x = _
    unfold bindL
    exact bindL_get (i := i) (List.nodup_cons.mp nd).2 (by simpa using h1) (by simpa using h2) hk
theorem bindC_get {kindOf : Str -> Option NameKind} {x : Str} {v : Value} : ∀ {P : List Str} {vs : List Value} {i : Nat} {m : Str -> Option Value}, P.Nodup -> P[i]? = some x -> vs[i]? = some v -> kindOf x ≠ some .local ->
    bindC kindOf (P.zip vs) m x = some v
  | [], _, _, _, _, h, _, _ => by simp at h
  | _ :: _, [], _, _, _, _, h, _ => by simp at h
  | p :: P, w :: vs, 0, m, nd, h1, h2, hk => by
    simp at h1 h2; subst h1; subst h2
    show bindC kindOf ((p, w) :: P.zip vs) m p = _
    unfold bindC
    rw [bindC_out fun v hv => (List.nodup_cons.mp nd).1 (List.of_mem_zip hv).1, if_neg hk]
    simp
  | p :: P, w :: vs, i + 1, m, nd, h1, h2, hk => by
    show bindC kindOf ((p, w) :: P.zip vs) m x = _
    unfold bindC
    exact bindC_get (i := i) (List.nodup_cons.mp nd).2 (by simpa using h1) (by simpa using h2) hk
def start (N : List Str) (vs : List V) : St := vs.map some ++ List.replicate (N.length - vs.length) none
def cxOf (CX : CXT) (P : Program) (w : World) (K : W.Frag) (mg : Str -> Option Value) (base : Heap) (N : List Str) (qual : Str) (scope : Scope) (f : Addr) (cd : Value) (A : Around) (outer : List Env) (s : Shared) (H : Hp) (E : XK) : Cx where
  prog := P
  w := w
  K := K
  mg := mg
  base := base
  A := A.deeper (envOfC qual scope s.heap.objs.size f cd)
  N := N
  s₀ := s
  H₀ := H
  env := envOfC qual scope s.heap.objs.size f cd
  outer := outer
  stack := envOfC qual scope s.heap.objs.size f cd :: outer
  ex := []
  calm := true
  fn := fun _ => true
  pn := []
  xe := fun e s' => wpAny (model P w) (A.deeper (envOfC qual scope s.heap.objs.size f cd)) (leaving (envOfC qual scope s.heap.objs.size f cd) e) (fun _ s'' => CX outer H s E e s'') (fun e' s'' => CX outer H s E e' s'') s'
theorem ZCn {sc : Scope} {n : Nat} {x : Str} (h : sc.names.lookup x = some .cell) : ∃ c, (cellsFrom n sc.names []).lookup x = some c := by
  have q := PySem.W.cellsFrom_some sc.names n [] (.inl h)
  exact Option.isSome_iff_exists.mp q
theorem inv_start {CX : CXT} {P : Program} {w : World} {K : W.Frag} {mg : Str -> Option Value} {base : Heap} {N ps : List Str} {qual : Str} {scope : Scope} {f : Addr} {cd : Value} {A : Around} {outer : List Env} {s s1 : Shared} {H : Hp} {E : XK} {us : List Value} {vs : List V}
    (S : FnScope N ps scope) (hd : A.handled = none) (e0 : Env0 P w K mg base A outer s H) (hl : vs.length = ps.length) (r : Vals vs us)
    (x : InCallC s s.heap.objs.size (bindL (envOfC qual scope s.heap.objs.size f cd).kindOf (ps.zip us) fun _ => none) (cellsFrom (s.heap.objs.size + 1) scope.names []) (bindC (envOfC qual scope s.heap.objs.size f cd).kindOf (ps.zip us) fun _ => none) s1) :
    Inv (cxOf CX P w K mg base N qual scope f cd A outer s H E) [] (start N vs) H s1 := by
  have hpl : ps.length <= N.length := by have := congrArg List.length S.pre; rw [yAL] at this; omega
  obtain ⟨h1, tk, rfl, hk⟩ := x.done
  have noA : ∀ b : Addr, b ∉ (cxOf CX P w K mg base N qual scope f cd A outer s H E).ex := fun b z => absurd (show b ∈ ([] : List Addr) from z) (by simp)
  refine ⟨⟨e0.mod, S.kind, rfl, rfl, yAB _, fun y z c h1 h2 => ?_, fun y hy => ?_, fun y c _ h => ?_, fun _ => hd, Around.frames_deeper e0.frames, .inr ⟨rfl, rfl⟩, fun b z => absurd z (noA b), e0.bs, e0.bsz, fun b _ _ => noA b, fun b z => absurd z (noA b), e0.funs, e0.frf⟩,
    rfl, e0.bare, Un.kept hk, ⟨_, x.toInCall.ns, fun i y v h1 h2 h3 => ?_⟩, fun y c h => ⟨_, x.cell y c h⟩, e0.hok.fresh (yAB _), fun y c h => ?_, fun p hp => absurd (show p ∈ ([] : List (Addr × Obj)) from hp) (by simp), e0.hok.kept hk, ?_⟩
  . exact name_of_addr x.apart (PySem.mem_of_lookup h1) (PySem.mem_of_lookup h2)
  . have hy : scope.names.lookup y = some .cell ∨ scope.names.lookup y = some .free := hy
    rcases hy with hy | hy
    . exact ZCn hy
    . exact absurd rfl (S.nofree _ (PySem.mem_of_lookup hy))
  . exact yBI (x.above y c (PySem.mem_of_lookup h))
  . have hi : i < vs.length := by
      unfold start at h2
      by_cases hi : i < vs.length
      . exact hi
      . rw [yBA (by simpa using hi)] at h2
        rw [List.getElem?_replicate] at h2
        split at h2 <;> cases h2
    have ha : vs[i]? = some v := by
      unfold start at h2
      rw [yBB (by simpa using hi), yAY] at h2
      cases e : vs[i]? with
      | none => rw [e] at h2; cases h2
      | some a => rw [e] at h2; cases h2; rfl
    obtain ⟨u, hu, rv⟩ := r.get ha
    have hp : ps[i]? = some y := by
      rw [<- S.pre, yBR (by omega)]; exact h1
    have ndP : ps.Nodup := by rw [<- S.pre]; exact S.nd.sublist (List.take_sublist _ _)
    refine ⟨u, rv, ?_⟩
    rcases S.par y (yAV hp) with k | k
    . exact .inl ⟨k, bindL_get ndP hp hu k⟩
    . obtain ⟨c, e⟩ := ZCn (n := s.heap.objs.size + 1) k
      refine .inr ⟨.inl k, c, e, ?_⟩
      have q := x.cell y c e
      rw [bindC_get ndP hp hu (by show scope.names.lookup y ≠ _; rw [k]; decide)] at q
      exact q
  . exact e0.hok.fresh (yBI (x.above y c (PySem.mem_of_lookup h)))
  . unfold start
    show _ = N.length
    rw [yAA, yAD, yCC]
    omega
theorem fn_of {CX : CXT} {P : Program} {w : World} {K : W.Frag} {mg : Str -> Option Value} {base : Heap} {k : Nat} {f : Addr} {name qual : Str} {params : Arguments} {body : List Stmt} {scope : Scope} {dV kV doc pm cdv ct oc : Value} {an od : Option Addr}
    {osl : Array (Option Value)} {N ps : List Str} {sp : Sp} (lk : K.lookup f = some ⟨oc, od, .func (W.fnOf name qual params body scope dV kV doc pm an cdv ct), osl⟩) (hcd : W.codeIn K cdv qual = true) (S : FnScope N ps scope)
    (len : ∀ vs H Q E, sp vs H Q E -> vs.length = ps.length)
    (hbody : ∀ (A : Around) (outer : List Env) (s : Shared) (H : Hp) (vs : List V) (Q : VK) (E : XK), Room k (A.deeper (envOfC qual scope s.heap.objs.size f cdv)) -> sp vs H Q E ->
      ∃ t, PSs (cxOf CX P w K mg base N qual scope f cdv A outer s H E) body t /\ t { nx := fun _ H' => Q .non H', rt := Q } (start N vs) H) :
    FnOk P w K mg base CX (k + 1) f (W.fnOf name qual params body scope dV kV doc pm an cdv ct) ps sp := by
  refine ⟨len, fun A outer s H args us vs Q E hr e0 hb r hsp => ?_⟩
  have hl := len _ _ _ _ hsp
  have KX : K.In s.heap := e0.mod.kin.keeps fun b o e => (e0.bs b o e).1
  have lim : s.heap.NoLimit := e0.mod.nolimit.keeps fun b o e => (e0.bs b o e).1
  have hkind : ∀ y ∈ ps.zip us, scope.names.lookup y.1 = some .local ∨ (scope.names.lookup y.1 = some .cell /\ ((cellsFrom (s.heap.objs.size + 1) scope.names []).lookup y.1).isSome = true) := fun ⟨n, v⟩ hy => by
    rcases S.par n (List.of_mem_zip hy).1 with q | q
    . exact .inl q
    . exact .inr ⟨q, PySem.W.cellsFrom_some _ _ _ (.inl q)⟩
  refine codeAny_call_function hr.depth (KX _ _ lk) rfl S.co S.gen rfl (PySem.W.codeRec_of KX hcd) (hb _ _ _ _ ?_)
  refine wpAny_newFunctionEnv_cells S.kind hkind fun env he s1 x => ?_
  subst he
  refine ⟨lim.keeps x.toInCall.keep, codeAny_func ?_⟩
  obtain ⟨t, ht, hq⟩ := hbody A outer s H vs Q E (hr.deeper _) hsp
  have I : Inv (cxOf CX P w K mg base N qual scope f cdv A outer s H E) [] (start N vs) H s1 := inv_start S hr.hd e0 hl r x
  refine wpAny_mono (ht [] s1 (start N vs) H _ I hq) (fun fl s' hs => ?_) fun e s' hs => hs
  have fin : ∀ {σ' : St} {H' : Hp} {v : V} {u : Value}, Inv (cxOf CX P w K mg base N qual scope f cdv A outer s H E) [] σ' H' s' -> RelV v u -> Q v H' -> CE outer P w H s Q u s' :=
    fun {σ' H' v u} J rv q => ⟨v, H', J.os, J.bare, J.base, J.hok, rv, q⟩
  cases fl with
  | ret u =>
    obtain ⟨v, σ', H', J, rv, q⟩ := hs
    exact fin J rv q
  | next =>
    obtain ⟨σ', H', J, q⟩ := hs
    exact fin (v := V.non) (u := Value.none) J rfl q
  | brk =>
    obtain ⟨_, _, _, q⟩ := hs
    exact False.elim q
  | cont =>
    obtain ⟨_, _, _, q⟩ := hs
    exact False.elim q
section
variable {X : Cx} {x : Str} {p pos : Pos} {e : Expr} {es : List Expr} {t : TA} {id T : String} {r : List V -> Hp -> VK -> Prop}
def tCB (r : List V -> Hp -> VK -> Prop) (t : TA) : TE := fun σ H Q => t σ H fun vs H1 => r vs H1 Q
theorem ZAR (hc : ZC5 X (.builtin id) r) (hg : Gl X x) (hm : X.mg x = none) (hv : bootBuiltins x = some (.builtin id)) (ha : PA X (e :: es) t) (hn : x ≠ "__name__" := by decide) (hdb : (x == ("__debug__" : Str)) = false := by decide)
    (he : starEach (e :: es) X.env = (false, eval e X.env) :: starEach es X.env := by rfl) (hpl : (backTo pos (starEach es X.env)).any (·.1) = false := by rfl) : PE X (.Call (.Name x p) (e :: es) [] pos) (tCB r t) := by
  intro pins s σ H Q I h
  refine wpAny_Call_Name_kw (ZDw I hg hm hv ?_ hn hdb)
  exact PyProof.Rows.callWith_builtin1 (thn (ha pos pins s σ H _ I h) fun us s1 ⟨vs, H1, I1, r1, q1⟩ => hc pins s1 σ H1 vs us Q I1 r1 q1) he hpl
theorem ZBK (hc : ZC5 X (.type T) r) (hg : Gl X x) (hm : X.mg x = none) (hv : bootBuiltins x = some (.type T)) (ha : PA X (e :: es) t) (hn : x ≠ "__name__" := by decide) (hdb : (x == ("__debug__" : Str)) = false := by decide)
    (he : starEach (e :: es) X.env = (false, eval e X.env) :: starEach es X.env := by rfl) (hpl : (backTo pos (starEach es X.env)).any (·.1) = false := by rfl) : PE X (.Call (.Name x p) (e :: es) [] pos) (tCB r t) := by
  intro pins s σ H Q I h
  refine wpAny_Call_Name_kw (ZDw I hg hm hv ?_ hn hdb)
  exact PyProof.Rows.callWith_type1 (thn (ha pos pins s σ H _ I h) fun us s1 ⟨vs, H1, I1, r1, q1⟩ => hc pins s1 σ H1 vs us Q I1 r1 q1) he hpl
end
end L2
namespace HT
open PySem PyProof.Rows
section
open PySem.SeqAt
open PySem.AutoSeq1 (wpAny_loadPart')
open PySem.MeetsSeq PySem.MeetsSeq2 PySem.MeetsSeq3
end
section
variable {prog : Program} {w : World} {A : Around} {E : Value -> Shared -> Prop} {s : Shared}
def sIx (n d : Nat) : Option Int -> Nat
  | none => d
  | some v => if v < 0 then (v + (n : Int)).toNat else min v.toNat n
theorem sIx_none (n d : Nat) : sIx n d none = d := rfl
theorem sIx_nat (n d k : Nat) : sIx n d (some (k : Int)) = min k n := by
  show (if (k : Int) < 0 then ((k : Int) + (n : Int)).toNat else min (k : Int).toNat n) = min k n
  rw [if_neg (by omega), Int.toNat_natCast]
end
end HT
namespace L2
open PySem PySem.Spec PyProof.Rows
abbrev TO := St -> Hp -> (Option Int -> Hp -> Prop) -> Prop
def PO (X : Cx) (e : Option Expr) (t : TO) : Prop :=
  ∀ (pins : List (Addr × Obj)) (s : Shared) (σ : St) (H : Hp) (Q : Option Int -> Hp -> Prop), Inv X pins σ H s -> t σ H Q ->
    wpAny (model X.prog X.w) X.A (evalPart e X.env) (fun u s' => ∃ o H', Inv X pins σ H' s' /\ IsPart u o /\ Q o H') X.xe s
def ZDb : TO := fun _ H Q => Q none H
def ZEa (t : TE) : TO := fun σ H Q => t σ H fun x H1 => ∃ i, x = .int i /\ Q (some i) H1
theorem intsAre_of {ns : List Int} : ∀ {us : List Value}, Vals (ns.map V.int) us -> IntsAre us ns := by
  induction ns with
  | nil => intro us r; rw [List.map_nil] at r; cases r; exact .nil
  | cons n ns ih =>
    intro us r
    rw [yAZ] at r
    cases r with
    | cons r1 r2 =>
      obtain ⟨t, e⟩ := r1
      subst e
      exact .cons n t (ih r2)
section
variable {X : Cx} {e : Expr} {te : TE} {lo hi : Option Expr} {tl th : TO} {pos p2 : Pos}
theorem po_none : PO X none ZDb := by
  intro pins s σ H Q I h
  rw [evalPart_none]
  exact wpAny_pure ⟨none, H, I, .none, h⟩
theorem ZA9 (h : PE X e te) : PO X (some e) (ZEa te) := by
  intro pins s σ H Q I hw
  rw [evalPart_some]
  refine thn (h pins s σ H _ I hw) fun u s1 ⟨x, H1, I1, r1, q1⟩ => ?_
  obtain ⟨i, rfl, q⟩ := q1
  obtain ⟨t, rfl⟩ := r1
  exact ⟨some i, H1, I1, .int i t, q⟩
def SlR (X : Cx) (r : V -> Option Int -> Option Int -> Hp -> VK -> Prop) : Prop :=
  ∀ (pins : List (Addr × Obj)) (s : Shared) (σ : St) (H : Hp) (x : V) (v vl vu : Value) (lo hi : Option Int) (sl : Addr) (Q : VK), Inv X pins σ H s -> RelV x v -> s.heap.IsSliceOf sl vl vu .none -> IsPart vl lo -> IsPart vu hi -> r x lo hi H Q ->
    ∃ T id, typeLookup (.type T) "__getitem__" = pure (some (.builtin id)) /\ s.TypeIs v T /\ wpAny (model X.prog X.w) X.A (getItem v (.ref sl)) (EP X pins σ Q) X.xe s
def tSl (r : V -> Option Int -> Option Int -> Hp -> VK -> Prop) (te : TE) (tl th : TO) : TE := fun σ H Q => te σ H fun x H1 => tl σ H1 fun l H2 => th σ H2 fun u H3 => r x l u H3 Q
theorem ZBY {r : V -> Option Int -> Option Int -> Hp -> VK -> Prop} (hr : SlR X r) (he : PE X e te) (hl : PO X lo tl) (hu : PO X hi th) : PE X (.Subscript e (.Slice lo hi none p2) pos) (tSl r te tl th) := by
  intro pins s σ H Q I h
  refine Subscript_ (thn (he pins s σ H _ I h) fun v s1 ⟨x, H1, I1, r1, q1⟩ => ?_)
  refine wpAny_Slice (thn (hl pins s1 σ H1 _ I1 q1) fun vl s2 ⟨l, H2, I2, pl, q2⟩ => thn (hu pins s2 σ H2 _ I2 q2) fun vu s3 ⟨u, H3, I3, pu, q3⟩ => ?_)
  rw [evalPart_none]
  refine wpAny_pure ?_
  have I4 : Inv X pins σ H3 { s3 with heap := s3.heap.push { cls := .type "slice", data := .fields #[vl, vu, .none] } } := I3.kept (t' := s3.toks) fun b ob q => Heap.get?_push_of_some _ q
  obtain ⟨T, id, hT, ht, hg⟩ := hr pins { s3 with heap := s3.heap.push { cls := .type "slice", data := .fields #[vl, vu, .none] } } σ H3 x v vl vu l u s3.heap.objs.size Q I4 r1 (Heap.IsSliceOf.new ..) pl pu q3
  show wpAny (model X.prog X.w) X.A (subscriptTail e (.Slice lo hi none p2) v (.ref s3.heap.objs.size)) (EP X pins σ Q) X.xe { s3 with heap := s3.heap.push { cls := .type "slice", data := .fields #[vl, vu, .none] } }
  exact tail_any (ops := [.ref s3.heap.objs.size, v]) ht hT hg (by with_unfolding_all rfl)
def cutV (xs : List V) (lo hi : Option Int) : List V := (xs.drop (HT.sIx xs.length 0 lo)).take (HT.sIx xs.length xs.length hi - HT.sIx xs.length 0 lo)
theorem cutV_length (xs : List V) (lo hi : Option Int) : (cutV xs lo hi).length <= xs.length := by
  unfold cutV
  rw [yAL, yAU]
  omega
end
def ixN (n : Nat) (i : Int) : Option Nat := if 0 <= i then (if i < n then some i.toNat else none) else if -(n : Int) <= i then some (i + n).toNat else none
def atI {α : Type} (xs : List α) (i : Int) : Option α := (ixN xs.length i).bind fun j => xs[j]?
theorem ixN_seq {n : Nat} {i : Int} {j : Nat} (h : ixN n i = some j) : seqIndex? i n = some j /\ j < n /\ -(n : Int) <= i /\ i < n := by
  unfold ixN at h
  by_cases h0 : 0 <= i
  . rw [if_pos h0] at h
    by_cases h1 : i < n
    . rw [if_pos h1] at h
      have e : i.toNat = j := Option.some.inj h
      exact ⟨by rw [seqIndex_of h0 h1, e], by omega, by omega, h1⟩
    . rw [if_neg h1] at h; cases h
  . rw [if_neg h0] at h
    by_cases h1 : -(n : Int) <= i
    . rw [if_pos h1] at h
      have e : (i + n).toNat = j := Option.some.inj h
      exact ⟨by rw [seqIndex_neg (by omega) h1, e], by omega, h1, by omega⟩
    . rw [if_neg h1] at h; cases h
theorem atI_get {α : Type} {xs : List α} {i : Int} {v : α} (h : atI xs i = some v) : ∃ j, seqIndex? i xs.length = some j /\ xs[j]? = some v /\ j < xs.length /\ -(xs.length : Int) <= i /\ i < xs.length := by
  unfold atI at h
  cases e : ixN xs.length i with
  | none => rw [e] at h; cases h
  | some j =>
    rw [e] at h
    obtain ⟨h1, h2, h3, h4⟩ := ixN_seq e
    exact ⟨j, h1, h, h2, h3, h4⟩
theorem atI_nat {α : Type} {xs : List α} {j : Nat} {v : α} (h : xs[j]? = some v) : atI xs (j : Int) = some v := by
  have hj : j < xs.length := (yAH.mp h).1
  have e : ixN xs.length (j : Int) = some j := by
    unfold ixN
    rw [if_pos (by omega), if_pos (by omega)]; simp
  unfold atI; rw [e]; exact h
def PlainIx (b : Expr) : Prop := ∀ o i, subscripted b false o i = operate [o, i] (getItem o i)
def IxR (X : Cx) (r : R2) : Prop :=
  ∀ (value slice : Expr) (pins : List (Addr × Obj)) (s : Shared) (σ : St) (H : Hp) (x y : V) (v u : Value) (Q : VK), Inv X pins σ H s -> RelV x v -> RelV y u -> r x y H Q ->
    subscripted slice false v u = operate [v, u] (getItem v u) -> wpAny (model X.prog X.w) X.A (subscriptTail value slice v u) (EP X pins σ Q) X.xe s
def MtR (X : Cx) (id : String) (r : V -> List V -> Hp -> VK -> Prop) : Prop :=
  ∀ (pins : List (Addr × Obj)) (s : Shared) (σ : St) (H : Hp) (x : V) (xs : List V) (v : Value) (us : List Value) (Q : VK), Inv X pins σ H s -> RelV x v -> Vals xs us -> r x xs H Q ->
    wpAny (model X.prog X.w) X.A (call (.builtin id) (v :: us)) (EP X pins σ Q) X.xe s
section
variable {X : Cx} {a b : Expr} {ta tb : TE} {pos : Pos}
theorem ZAa {r : R2} (hr : IxR X r) (ha : PE X a ta) (hb : PE X b tb) (hs : PlainIx b) : PE X (.Subscript a b pos) (tOp r ta tb) := by
  intro pins s σ H Q I h
  exact Subscript_ (binT ha hb I h fun v u s2 x y H2 I2 rx ry q => hr a b pins s2 σ H2 x y v u Q I2 rx ry q (hs _ _))
def rIxL (K : W.Frag) : R2 := fun x y H Q => ∃ p xs i v, x = .ref p /\ y = .int i /\ SqL K H p xs /\ atI xs i = some v /\ Q v H
def rIxT (K : W.Frag) : R2 := fun x y H Q => ∃ p xs i v, x = .ref p /\ y = .int i /\ SqT K H p xs /\ atI xs i = some v /\ Q v H
theorem ZAg : IxR X (rIxL X.K) := by
  intro value slice pins s σ H x y v u Q I rx ry h hs
  obtain ⟨p, xs, i, z, rfl, rfl, hq, he, q⟩ := h
  cases rx
  obtain ⟨t, rfl⟩ := ry
  obtain ⟨its, r, pl, hz⟩ := I.list hq
  obtain ⟨j, h1, h2, h3, h4, h5⟩ := atI_get he
  obtain ⟨w, ew, rw'⟩ := r.get h2
  have hl := r.length
  have hn := ZDv
  have fin : EP X pins σ Q w s := ⟨z, H, I, rw', q⟩
  by_cases h0 : 0 <= i
  . have hj : i.toNat = j := by
      rw [seqIndex_of h0 h5] at h1
      exact Option.some.inj h1
    exact item_listR pl.isList h0 (by omega) (by rw [hj]; simpa using ew) fin hs
  . have hj : (i + (its.toArray.size : Int)).toNat = j := by
      rw [seqIndex_neg (by omega) h4] at h1
      rw [yAM, <- hl]
      exact Option.some.inj h1
    exact subscriptTail_builtinR (x := w) pl.isList.typeIs slot_list_getitem.lookup
      (wpAny_getItem_list_neg (Q := fun r s' => r = w /\ EP X pins σ Q r s') pl.isList (by omega) (by rw [yAM] <;> omega) (by omega) (by rw [hj]; simpa using ew) ⟨rfl, fin⟩) hs
theorem ZAj : IxR X (rIxT X.K) := by
  intro value slice pins s σ H x y v u Q I rx ry h hs
  obtain ⟨p, xs, i, z, rfl, rfl, hq, he, q⟩ := h
  cases rx
  obtain ⟨t, rfl⟩ := ry
  obtain ⟨its, r, pl, hz⟩ := I.tuple hq
  obtain ⟨j, h1, h2, h3, h4, h5⟩ := atI_get he
  obtain ⟨w, ew, rw'⟩ := r.get h2
  have hl := r.length
  have hn := ZDv
  have fin : EP X pins σ Q w s := ⟨z, H, I, rw', q⟩
  exact subscriptTail_builtinR (x := w) pl.typeIs slot_tuple_getitem.lookup
    (getItem_tuple (j := j) (Q := fun r s' => r = w /\ EP X pins σ Q r s') pl (by omega) (by omega) (by rw [yAM, <- hl]; exact h1) (by simpa using ew) ⟨rfl, fin⟩) hs
theorem mapSeq_set (its : List Value) (n j : Nat) (u : Value) : Obj.mapSeq (·.setIfInBounds j u) { cls := .type "list", data := .seq its.toArray n } = { cls := .type "list", data := .seq (its.set j u).toArray n } := by
  simp [Obj.mapSeq]
theorem Inv.lst {pins : List (Addr × Obj)} {σ : St} {H : Hp} {s : Shared} {p : Addr} {xs : List V} (I : Inv X pins σ H s) (h : H p = some (.lst xs)) :
    ∃ (its : List Value) (n : Nat), Vals xs its /\ s.heap.get? p = some { cls := .type "list", data := .seq its.toArray n } /\ xs.length <= sizeLine := by
  obtain ⟨z, its, n, r, e⟩ := I.hok p _ h
  exact ⟨its, n, r, e, z⟩
theorem Inv.lstUpd {pins : List (Addr × Obj)} {σ : St} {H : Hp} {s : Shared} {p : Addr} {xs ys : List V} {its its' : List Value} {n n' : Nat} {f : Obj -> Obj} (I : Inv X pins σ H s) (h : H p = some (.lst xs))
    (ho : s.heap.get? p = some { cls := .type "list", data := .seq its.toArray n }) (hf : f { cls := .type "list", data := .seq its.toArray n } = { cls := .type "list", data := .seq its'.toArray n' }) (r : Vals ys its') (hz : ys.length <= sizeLine) (t : Nat) :
    Inv X pins σ (upd H p (.lst ys)) { s with heap := s.heap.update p f, toks := t } := by
  have e : (s.heap.update p f).get? p = some { cls := .type "list", data := .seq its'.toArray n' } := by
    rw [Heap.get?_update_self f ho (by rw [hf] <;> rfl), hf]
  refine I.write (x := p) (e := p) (by rw [h]; trivial) (.inl rfl) (fun b u hb q => (Heap.get?_update_other _ _ (Ne.symm hb)).trans q) ⟨_, e⟩ ?_
  exact ⟨hz, its', n', r, e⟩
def rSetL : V -> V -> V -> Hp -> (Hp -> Prop) -> Prop := fun o i v H Q => ∃ p xs k j, o = .ref p /\ i = .int k /\ H p = some (.lst xs) /\ ixN xs.length k = some j /\ Q (upd H p (.lst (xs.set j v)))
theorem set_list : PSet X rSetL := by
  intro pins s σ H o i v ov iv u Q I ro ri rv h
  obtain ⟨p, xs, k, j, rfl, rfl, hp, hj, q⟩ := h
  cases ro
  obtain ⟨t, rfl⟩ := ri
  obtain ⟨its, n, r, ho, hz⟩ := I.lst hp
  obtain ⟨h1, h2, h3, h4⟩ := ixN_seq hj
  have hl := r.length
  have hn := ZDv
  have I' : Inv X pins σ (upd H p (.lst (xs.set j v))) { s with heap := s.heap.update p (Obj.mapSeq (·.setIfInBounds j u)) } :=
    I.lstUpd hp ho (mapSeq_set its n j u) (r.set rv j) (by rw [List.length_set]; exact hz) s.toks
  by_cases h0 : 0 <= k
  . have hk : k.toNat = j := by
      rw [seqIndex_of h0 h4] at h1
      exact Option.some.inj h1
    exact PySem.W.ki_setAt ho h0 (by omega) (by rw [yAM, <- hl]; exact h4) (by rw [hk]; exact ⟨_, I', q⟩)
  . have hk : (k + (its.toArray.size : Int)).toNat = j := by
      rw [seqIndex_neg (by omega) h3] at h1
      rw [yAM, <- hl]
      exact Option.some.inj h1
    exact PySem.W.ki_setBack ho (by omega) (by rw [yAM, <- hl]; exact h3) (by omega) (by rw [hk]; exact ⟨_, I', q⟩)
theorem slice_bounds (lo hi : Option Int) (n : Nat) : (sliceBounds lo hi none n).1 = ((HT.sIx n 0 lo : Nat) : Int) /\ (sliceBounds lo hi none n).2.1 = ((HT.sIx n n hi : Nat) : Int) /\ (sliceBounds lo hi none n).2.2 = 1 := by
  refine ⟨?_, ?_, rfl⟩
  . cases lo with
    | none => simp [sliceBounds, HT.sIx]
    | some i =>
      simp only [sliceBounds, HT.sIx, Option.getD_none, show (1 : Int) > 0 by decide, if_true]
      by_cases h : i < 0
      . simp only [h, if_true] <;> omega
      . simp only [h, if_false] <;> omega
  . cases hi with
    | none => simp [sliceBounds, HT.sIx]
    | some i =>
      simp only [sliceBounds, HT.sIx, Option.getD_none, show (1 : Int) > 0 by decide, if_true]
      by_cases h : i < 0
      . simp only [h, if_true] <;> omega
      . simp only [h, if_false] <;> omega
theorem slicePick_cut (its : List Value) (lo hi : Option Int) : slicePick its.toArray lo hi none = ((its.drop (HT.sIx its.length 0 lo)).take (HT.sIx its.length its.length hi - HT.sIx its.length 0 lo)).toArray := by
  obtain ⟨h1, h2, h3⟩ := slice_bounds lo hi its.toArray.size
  unfold slicePick
  rw [h1, h2, h3]
  simp only [sliceRange_one, pick_run, yAM] <;> rfl
def rSlL (K : W.Frag) : V -> Option Int -> Option Int -> Hp -> VK -> Prop := fun x lo hi H Q => ∃ a xs, x = .ref a /\ SqL K H a xs /\ ∀ p, H p = none -> Q (.ref p) (upd H p (.lst (cutV xs lo hi)))
theorem ZBs : SlR X (rSlL X.K) := by
  intro pins s σ H x v vl vu lo hi sl Q I rx hs pl pu h
  obtain ⟨a, xs, rfl, hx, q⟩ := h
  cases rx
  obtain ⟨its, r, ht, hz⟩ := I.list hx
  have hlen := r.length
  refine ⟨"list", _, slot_list_getitem.lookup, ht.isList.typeIs, ?_⟩
  refine wpAny_getItem_list_slice ht.isList hs pl pu .none (by simp) ?_ (by rw [yAM] <;> omega)
  rw [slicePick_cut, <- hlen]
  refine ⟨.ref s.heap.objs.size, _, I.laid (t' := s.toks) (o := .lst (cutV xs lo hi)) (fun b ob q => Heap.get?_push_of_some _ q) (yAB _) ?_, rfl, q _ (I.hok.fresh (yAB _))⟩
  exact ⟨yAK (cutV_length xs lo hi) hz, _, 0, (r.drop (HT.sIx xs.length 0 lo)).take (HT.sIx xs.length xs.length hi - HT.sIx xs.length 0 lo), Heap.get?_push_size _ rfl⟩
theorem ZAM : ZC5 X (.builtin "len") (fun xs H Q => ∃ p ys, xs = [.ref p] /\ (SqL X.K H p ys ∨ SqT X.K H p ys) /\ Q (.int ys.length) H) := by
  intro pins s σ H xs us Q I r h
  obtain ⟨p, ys, rfl, hq, q⟩ := h
  obtain ⟨u, rfl, rx⟩ := ZD3 r
  cases rx
  have hn := ZDv
  rcases hq with hq | hq
  . obtain ⟨its, r', pl, hz⟩ := I.list hq
    have hlen := r'.length
    exact Calls.call_len_list pl.isList (by simp only [yAM] <;> omega) ⟨.int ys.length, H, I.tok _, ⟨s.toks + 1, by rw [yAM, hlen]⟩, q⟩
  . obtain ⟨its, r', pl, hz⟩ := I.tuple hq
    have hlen := r'.length
    exact len_tuple pl (by simp only [yAM] <;> omega) ⟨.int ys.length, H, I.tok _, ⟨s.toks + 1, by rw [yAM, hlen]⟩, q⟩
theorem ZBb : ZC5 X (.type "list") (fun xs H Q => ∃ p ys, xs = [.ref p] /\ (SqL X.K H p ys ∨ SqT X.K H p ys) /\ ∀ l, H l = none -> Q (.ref l) (upd H l (.lst ys))) := by
  intro pins s σ H xs us Q I r h
  obtain ⟨p, ys, rfl, hq, q⟩ := h
  obtain ⟨u, rfl, rx⟩ := ZD3 r
  cases rx
  have fin : ∀ (its : List Value), Vals ys its -> ys.length <= sizeLine -> ∀ (h' : Heap) (c' : Nat), (∀ b o', s.heap.get? b = some o' -> h'.get? b = some o') ->
      h'.get? s.heap.objs.size = some { cls := .type "list", dict := none, data := .seq its.toArray c', slots := #[] } -> EP X pins σ Q (.ref s.heap.objs.size) { s with heap := h' } := fun its r' hz h' c' kp e =>
    ⟨.ref s.heap.objs.size, _, I.laid (t' := s.toks) kp (yAB _) (show ObjOk X.prog X.w _ h' _ (.lst ys) from ⟨hz, its, c', r', e⟩), rfl, q _ (I.hok.fresh (yAB _))⟩
  rcases hq with hq | hq
  . obtain ⟨its, r', pl, hz⟩ := I.list hq
    have hlen := r'.length
    obtain ⟨o, ho, hc, n, hd⟩ := pl.isList
    exact call_list_seq p (.inl rfl) ho hc hd (fun h' c' kp e => fin its r' hz h' c' kp e) (by simp only [yAM] <;> omega)
  . obtain ⟨its, r', pl, hz⟩ := I.tuple hq
    have hlen := r'.length
    obtain ⟨o, ho, hc, n, hd⟩ := pl
    exact call_list_seq p (.inr rfl) ho hc hd (fun h' c' kp e => fin its r' hz h' c' kp e) (by simp only [yAM] <;> omega)
def tyV (K : W.Frag) (T : String) (x : V) (H : Hp) : Prop := match x with
  | .str _ => T = "str"
  | .int _ => T = "int"
  | .ref p => (T = "list" /\ ∃ xs, SqL K H p xs) ∨ (T = "tuple" /\ ∃ o, K.lookup p = some o /\ o.cls = .type "tuple" /\ o.dict = none) ∨
      (T = "dict" /\ ((∃ kvs, H p = some (.dK kvs)) ∨ ∃ kvs, H p = some (.dT kvs))) ∨ (T = "set" /\ ∃ S n, H p = some (.set S n))
  | _ => False
theorem tyV_is {pins : List (Addr × Obj)} {σ : St} {H : Hp} {s : Shared} {T : String} {x : V} {v : Value} (I : Inv X pins σ H s) (r : RelV x v) (ty : tyV X.K T x H) :
    s.TypeIs v T /\ ∀ a, v = .ref a -> ∃ ob, s.heap.get? a = some ob /\ ob.dict = none := by
  cases x with
  | str z =>
    obtain ⟨t, rfl⟩ := r
    cases (show T = "str" from ty)
    exact ⟨typeIs_str s z t, fun _ e => nomatch e⟩
  | int i =>
    obtain ⟨t, rfl⟩ := r
    cases (show T = "int" from ty)
    exact ⟨typeIs_int s i t, fun _ e => nomatch e⟩
  | ref p =>
    cases r
    rcases ty with ⟨rfl, xs, hq⟩ | ⟨rfl, o, hk, hc, hd⟩ | ⟨rfl, hk⟩ | ⟨rfl, S, n, hk⟩
    . obtain ⟨its, _, pl, _⟩ := I.list hq
      refine ⟨pl.isList.typeIs, fun a e => ?_⟩
      cases e
      obtain ⟨o, n, e, c, hd, _⟩ := pl
      exact ⟨o, e, hd⟩
    . refine ⟨⟨o, I.kIn p o hk, hc⟩, fun a e => ?_⟩
      cases e
      exact ⟨o, I.kIn _ o hk, hd⟩
    . have z : ∃ o, s.heap.get? p = some o /\ o.ExactDict := by
        rcases hk with ⟨kvs, hk⟩ | ⟨kvs, hk⟩
        . obtain ⟨_, _, _, _, o, _, _, e, ex, _⟩ := I.hok p _ hk
          exact ⟨o, e, ex⟩
        . obtain ⟨_, _, _, _, o, _, _, e, ex, _⟩ := I.hok p _ hk
          exact ⟨o, e, ex⟩
      obtain ⟨o, e, ex⟩ := z
      refine ⟨⟨o, e, ex.1⟩, fun a e2 => ?_⟩
      cases e2
      exact ⟨o, e, ex.2.1⟩
    . obtain ⟨o, _, _, _, e, ex, _⟩ := I.hok p _ hk
      refine ⟨⟨o, e, ex.1⟩, fun a e2 => ?_⟩
      cases e2
      exact ⟨o, e, ex.2.1⟩
  | _ => exact False.elim ty
def tBM0 (K : W.Frag) (T : String) (r : V -> List V -> Hp -> VK -> Prop) (to : TE) : TE := fun σ H Q => to σ H fun x H1 => tyV K T x H1 /\ r x [] H1 Q
def tBM (K : W.Frag) (T : String) (r : V -> List V -> Hp -> VK -> Prop) (to : TE) (t : TA) : TE := fun σ H Q => to σ H fun x H1 => tyV K T x H1 /\ t σ H1 fun xs H2 => r x xs H2 Q
variable {o e : Expr} {es : List Expr} {to : TE} {t : TA} {name : Str} {apos cpos : Pos} {T id : String} {r : V -> List V -> Hp -> VK -> Prop}
theorem ZEF (pa : PlainAttrs T) (slot : Slot T name id) (hty : typeOf (.builtin id) = pure (.type "method_descriptor")) (hm : MtR X id r) (ho : PE X o to)
    (hbase : attributeBase o name X.env (eval o X.env) = eval o X.env := by rfl) (hline : (apos.endLine == cpos.line) = true := by rfl) : PE X (.Call (.Attribute o name apos) [] [] cpos) (tBM0 X.K T r to) := by
  intro pins s σ H Q I h
  refine wpAny_Call_method0_late hbase hline (thn (ho pins s σ H _ I h) fun v s1 ⟨x, H1, I1, r1, ty, q1⟩ => ?_)
  obtain ⟨h1, h2⟩ := tyV_is I1 r1 ty
  exact ⟨T, id, pa, slot, hty, h1, h2, Calls.callWith_builtin rfl (PySem.evalArgs_none (hm pins s1 σ H1 x [] v [] Q I1 r1 .nil q1))⟩
theorem ZCP (pa : PlainAttrs T) (slot : Slot T name id) (hty : typeOf (.builtin id) = pure (.type "method_descriptor")) (hm : MtR X id r) (ho : PE X o to) (ha : PA X (e :: es) t)
    (hbase : attributeBase o name X.env (eval o X.env) = eval o X.env := by rfl)
    (hfew : ((backTo cpos (starEach (e :: es) X.env)).all (fun x => !x.1) && (backToKw cpos (keywordEach [] X.env)).all (fun x => x.1.isSome)
      && decide ((e :: es).length + ([] : List Keyword).length + (if ([] : List Keyword).isEmpty then 0 else 1) < 30)) = true := by rfl)
    (hline : (apos.endLine == cpos.line) = true := by rfl) (hs : starEach (e :: es) X.env = (false, eval e X.env) :: starEach es X.env := by rfl) (hplain : (backTo cpos (starEach es X.env)).any (·.1) = false := by rfl) :
    PE X (.Call (.Attribute o name apos) (e :: es) [] cpos) (tBM X.K T r to t) := by
  intro pins s σ H Q I h
  refine wpAny_Call_method_late hbase hfew hline rfl (thn (ho pins s σ H _ I h) fun v s1 ⟨x, H1, I1, r1, ty, q1⟩ => ?_)
  obtain ⟨h1, h2⟩ := tyV_is I1 r1 ty
  refine ⟨T, id, pa, slot, hty, h1, h2, ?_⟩
  have hA := ha cpos pins s1 σ H1 _ I1 q1
  rw [hs] at hA ⊢
  refine Calls.callWith_builtin (by show (false || (backTo cpos (starEach es X.env)).any (·.1)) = false; rw [hplain] <;> rfl) (Calls.evalArgs_plain ?_)
  exact thn hA fun us s2 ⟨vs, H2, I2, r2, q2⟩ => hm pins s2 σ H2 x vs v us Q I2 r1 r2 q2
/- xs.append(e), list.index on a module's tuple .. are MtR facts of 06m -/
end
def MtM (X : Cx) (id : String) (r : V -> List V -> Hp -> VK -> Prop) : Prop :=
  ∀ (pins : List (Addr × Obj)) (s : Shared) (σ : St) (H : Hp) (x : V) (xs : List V) (v : Value) (us : List Value) (Q : VK), Inv X pins σ H s -> RelV x v -> Vals xs us -> r x xs H Q ->
    wpAny (model X.prog X.w) X.A (call (.builtin id) (v :: us)) (EP X pins σ Q) X.xe s
theorem Vals.one : ∀ {x : V} {us : List Value}, Vals [x] us -> ∃ u, us = [u] /\ RelV x u
  | _, _, .cons r .nil => ⟨_, rfl, r⟩
theorem Vals.two : ∀ {x y : V} {us : List Value}, Vals [x, y] us -> ∃ u v, us = [u, v] /\ RelV x u /\ RelV y v
  | _, _, _, .cons r (.cons q .nil) => ⟨_, _, rfl, r, q⟩
theorem Vals.zero : ∀ {us : List Value}, Vals [] us -> us = []
  | _, .nil => rfl
theorem Vals.eraseIdx : ∀ {xs : List V} {us : List Value} (i : Nat), Vals xs us -> Vals (xs.eraseIdx i) (us.eraseIdx i)
  | _, _, _, .nil => .nil
  | _, _, 0, .cons _ t => t
  | _, _, i + 1, .cons r t => .cons r (Vals.eraseIdx i t)
theorem Vals.reverse {xs : List V} {us : List Value} (h : Vals xs us) : Vals xs.reverse us.reverse := by
  induction h with
  | nil => exact .nil
  | cons r t ih => rw [List.reverse_cons, List.reverse_cons]; exact Vals.append ih (.cons r .nil)
theorem len_erase {α : Type} : ∀ (l : List α) (i : Nat), (l.eraseIdx i).length <= l.length
  | [], _ => yAB _
  | _ :: _, 0 => yBE _
  | _ :: r, i + 1 => Nat.succ_le_succ (len_erase r i)
section
variable {X : Cx} {pins : List (Addr × Obj)} {σ : St} {H : Hp} {s : Shared} {l b : Addr} {xs ys zs : List V}
theorem Inv.lset {its its' : List Value} {n : Nat} {f : Array Value -> Array Value} {t' : Nat} (I : Inv X pins σ H s) (hH : H l = some (.lst xs))
    (e : s.heap.get? l = some { cls := .type "list", data := .seq its.toArray n }) (hf : f its.toArray = its'.toArray) (hv : Vals ys its') (hz : ys.length <= sizeLine) :
    Inv X pins σ (upd H l (.lst ys)) { s with heap := s.heap.update l (Obj.mapSeq f), toks := t' } := by
  have q := PySem.IsL.update e f
  rw [hf] at q
  refine I.write (x := l) (e := l) (by rw [hH]; exact trivial) (.inl rfl) (fun b' u hb hu => (Heap.get?_update_other s.heap (Obj.mapSeq f) (Ne.symm hb)).trans hu) ⟨_, q⟩ ?_
  exact ⟨hz, its', _, hv, q⟩
theorem Inv.lnew {its : List Value} {t' : Nat} (I : Inv X pins σ H s) (hv : Vals ys its) (hz : ys.length <= sizeLine) :
    Inv X pins σ (upd H s.heap.objs.size (.lst ys)) { s with heap := s.heap.push { cls := .type "list", data := .seq its.toArray }, toks := t' } :=
  I.laid (fun _ _ q => Heap.get?_push_of_some _ q) (yAB _) ⟨hz, its, 0, hv, Heap.get?_push_size _ rfl⟩
theorem Inv.fresh (I : Inv X pins σ H s) : H s.heap.objs.size = none := I.hok.fresh (yAB _)
theorem Inv.lstM (I : Inv X pins σ H s) (hH : H l = some (.lst xs)) : xs.length <= sizeLine /\ ∃ (its : List Value) (n : Nat), Vals xs its /\ xs.length = its.length /\ s.heap.get? l = some { cls := .type "list", data := .seq its.toArray n } := by
  obtain ⟨z, its, n, r, e⟩ := I.hok l _ hH
  exact ⟨z, its, n, r, r.length, e⟩
theorem notLongL {n : Nat} (h : n <= sizeLine) : Builtin.List.listTooLong n = false := by
  unfold Builtin.List.listTooLong
  exact decide_eq_false (by omega)
end
section
variable {X : Cx}
def rAppend : V -> List V -> Hp -> VK -> Prop := fun x vs H Q => ∃ l xs y, x = .ref l /\ vs = [y] /\ H l = some (.lst xs) /\ xs.length < sizeLine /\ Q .non (upd H l (.lst (xs ++ [y])))
theorem ZBj : MtM X "list.append" rAppend := by
  intro pins s σ H x vs v us Q I rx rv h
  obtain ⟨l, xs, y, rfl, rfl, hH, hz, q⟩ := h
  cases rx
  obtain ⟨u, rfl, ru⟩ := rv.one
  obtain ⟨z, its, n, r, hl, e⟩ := I.lstM hH
  refine call_meets F.slot_list_append ⟨_, e, rfl⟩ F.entry_list_append (F.args_list_append_2 _ _) (PySem.list_append l its.toArray n u (by rw [yAM]; omega)) ⟨e, ?_⟩
  refine ⟨.non, _, I.lset (its' := its ++ [u]) hH e (by simp) (r.append (.cons ru .nil)) ?_, rfl, q⟩
  rw [yAA, yAW]
  omega
def rExtend : V -> List V -> Hp -> VK -> Prop := fun x vs H Q => ∃ l b xs zs, x = .ref l /\ vs = [.ref b] /\ H l = some (.lst xs) /\ H b = some (.lst zs) /\ xs.length + zs.length <= sizeLine /\ Q .non (upd H l (.lst (xs ++ zs)))
theorem mt_extend : MtM X "list.extend" rExtend := by
  intro pins s σ H x vs v us Q I rx rv h
  obtain ⟨l, b, xs, zs, rfl, rfl, hH, hB, hz, q⟩ := h
  cases rx
  obtain ⟨u, rfl, ru⟩ := rv.one
  cases ru
  obtain ⟨z, its, n, r, hl, e⟩ := I.lstM hH
  obtain ⟨z2, its2, n2, r2, hl2, e2⟩ := I.lstM hB
  have hsz : its.toArray.size + its2.toArray.size <= sizeLine := by rw [yAM, yAM]; omega
  have hlong : ¬ (!its.toArray.isEmpty && Builtin.List.listTooLong (its.toArray.size + its2.toArray.size)) = true := by
    rw [notLongL hsz, Bool.and_false]
    exact yBJ
  refine call_meets F.slot_list_extend ⟨_, e, rfl⟩ F.entry_list_extend (F.args_list_extend_2 _ _)
    (AutoSeq1.list_extend_list_list_0 l its.toArray n b its2.toArray n2 hlong (by rw [yAM]; omega) (by omega)) ⟨e, e2, ?_⟩
  refine ⟨.non, _, I.lset (its' := its ++ its2) hH e (by simp) (r.append r2) ?_, rfl, q⟩
  rw [yAA]
  omega
def rPopAt : V -> List V -> Hp -> VK -> Prop := fun x vs H Q => ∃ l xs i k y, x = .ref l /\ vs = [.int i] /\ H l = some (.lst xs) /\ -(2 ^ 63) <= i /\ i < 2 ^ 63 /\ seqIndex? i xs.length = some k /\ xs[k]? = some y /\ Q y (upd H l (.lst (xs.eraseIdx k)))
theorem ZCk : MtM X "list.pop" rPopAt := by
  intro pins s σ H x vs v us Q I rx rv h
  obtain ⟨l, xs, i, k, y, rfl, rfl, hH, h1, h2, hk, hy, q⟩ := h
  cases rx
  obtain ⟨u, rfl, ru⟩ := rv.one
  obtain ⟨t, rfl⟩ := ru
  obtain ⟨z, its, n, r, hl, e⟩ := I.lstM hH
  obtain ⟨w, hw, rw'⟩ := r.get hy
  refine call_meets F.slot_list_pop ⟨_, e, rfl⟩ F.entry_list_pop (F.args_list_pop_2 _ _)
    (MeetsSeq.list_pop_at l its.toArray n i t k w (fitsIndex_both h1 h2) (by rw [yAM, <- hl]; exact hk) (by rw [<- yBD]; exact hw) (by rw [yAM]; omega)) ⟨e, ?_⟩
  refine ⟨y, _, I.lset (its' := its.eraseIdx k) hH e ?_ (r.eraseIdx k) ?_, rw', q⟩
  . show its.toArray.eraseIdxIfInBounds k = (its.eraseIdx k).toArray
    rw [List.eraseIdxIfInBounds_toArray]
  . have := len_erase xs k
    omega
def rReverse : V -> List V -> Hp -> VK -> Prop := fun x vs H Q => ∃ l xs, x = .ref l /\ vs = [] /\ H l = some (.lst xs) /\ Q .non (upd H l (.lst xs.reverse))
theorem mt_reverse : MtM X "list.reverse" rReverse := by
  intro pins s σ H x vs v us Q I rx rv h
  obtain ⟨l, xs, rfl, rfl, hH, q⟩ := h
  cases rx
  have hus := rv.zero
  subst hus
  obtain ⟨z, its, n, r, hl, e⟩ := I.lstM hH
  refine call_meets F.slot_list_reverse ⟨_, e, rfl⟩ F.entry_list_reverse (F.args_list_reverse_1 _) (AutoSeq1.list_reverse_list_0 l its.toArray n (by rw [yAM]; omega)) ⟨e, ?_⟩
  refine ⟨.non, _, I.lset (its' := its.reverse) hH e (by simp) r.reverse ?_, rfl, q⟩
  rw [List.length_reverse]
  omega
def rClear : V -> List V -> Hp -> VK -> Prop := fun x vs H Q => ∃ l xs, x = .ref l /\ vs = [] /\ H l = some (.lst xs) /\ Q .non (upd H l (.lst []))
theorem mt_clear : MtM X "list.clear" rClear := by
  intro pins s σ H x vs v us Q I rx rv h
  obtain ⟨l, xs, rfl, rfl, hH, q⟩ := h
  cases rx
  have hus := rv.zero
  subst hus
  obtain ⟨z, its, n, r, hl, e⟩ := I.lstM hH
  refine call_meets F.slot_list_clear ⟨_, e, rfl⟩ F.entry_list_clear (F.args_list_clear_1 _) (AutoSeq1.list_clear_list_0 l its.toArray n (by rw [yAM]; omega)) ⟨e, ?_⟩
  exact ⟨.non, _, I.lset (its' := []) (ys := []) hH e rfl .nil (yAG _), rfl, q⟩
def rCat : R2 := fun x y H Q => ∃ l b xs zs, x = .ref l /\ y = .ref b /\ H l = some (.lst xs) /\ H b = some (.lst zs) /\ xs.length + zs.length <= sizeLine /\ ∀ p, H p = none -> Q (.ref p) (upd H p (.lst (xs ++ zs)))
theorem ZEG : OpR X (binaryOp .Add) rCat := by
  intro pins s σ H x y v u Q I rx ry h
  obtain ⟨l, b, xs, zs, rfl, rfl, hH, hB, hz, q⟩ := h
  cases rx
  cases ry
  obtain ⟨z, its, n, r, hl, e⟩ := I.lstM hH
  obtain ⟨z2, its2, n2, r2, hl2, e2⟩ := I.lstM hB
  refine PySem.P.add_list e e2 ?_ (by rw [yAM, yAM]; omega)
  have ea : its.toArray ++ its2.toArray = (its ++ its2).toArray := by simp
  rw [ea]
  exact ⟨.ref _, _, I.lnew (t' := s.toks) (r.append r2) (by rw [yAA]; omega), rfl, q _ I.fresh⟩
end
section
variable {prog : Program} {w : World} {A : Around} {E : Value -> Shared -> Prop} {s : Shared}
set_option maxRecDepth 100000 in
end
section
variable {X : Cx}
end
end L2
namespace Att
open PySem PySem.W PySem.Calls PyProof.Rows
theorem ints_of_wellAll {P : Params} {h : Heap} : ∀ (ns : List Int) (vs : List Value), WellAll P h vs (ns.map WData.int) -> IntsAre vs ns := by
  intro ns
  induction ns with
  | nil =>
    intro vs w
    rw [List.map_nil] at w
    cases w
    exact .nil
  | cons n ns ih =>
    intro vs w
    rw [yAZ] at w
    cases w with
    | cons a b =>
      cases a
      exact .cons _ _ (ih _ b)
theorem script_of {l : OpenLaw} {n : Nat} (hn : l.most = some n) {P : Params} {h : Heap} {args : List WData} {vals : List Value}
    (hpre : l.row.toRowW.claim.pre args = true) (hwl : WellAll P h vals args) :
    ∃ a vs ns, vals = [Value.ref a] /\ args = [WData.list (ns.map WData.int)] /\ h.get? a = some { cls := .type "list", data := .seq vs.toArray } /\ IntsAre vs ns /\ ns.length <= n := by
  have hsh : WShape.hasAll [] args [.list .int] = true := (pre_splitW hpre).1
  have hc : l.pre.holds [] { args := args } = true := (pre_splitW hpre).2
  obtain ⟨d, r, rfl, h1, h2⟩ := hasAllW_cons hsh
  obtain rfl := hasAllW_nil h2
  obtain ⟨xs, rfl, h3⟩ := hasW_list h1
  obtain ⟨ns, rfl⟩ := items_int h3
  have hlen : ns.length <= n := by
    unfold OpenLaw.pre at hc
    have h4 : (WTm.not (.lt (.lit (.int (n : Int))) (.len (.arg 0)))).holds [] { args := [.list (ns.map .int)] } = true := by
      have h4 := (holds_andW hc).1
      rw [hn] at h4
      exact h4
    have h5 := condW_of h4 (w_not (w_lt w_lit (w_len_list (w_arg rfl))))
    rw [yAD] at h5
    refine Nat.le_of_not_lt fun q => ?_
    have q' : (n : Int) < ((ns.length : Nat) : Int) := by omega
    first
      | (rw [decide_eq_true q'] at h5; exact absurd h5 (by decide))
      | (simp at h5; omega)
  cases hwl with
  | cons w1 w2 =>
    cases w2
    cases w1 with
    | list ho hall => exact ⟨_, _, ns, rfl, rfl, ho, ints_of_wellAll ns _ hall, hlen⟩
theorem post_true (l : OpenLaw) (args : List WData) : l.row.toRowW.claim.post args (.bool true) args = true :=
  postW_of (r := l.row.toRowW) (X := (true == true))
    (show WShape.has [] (.bool true) .bool = true by first | rfl | decide | simp [WShape.has, WShape.arms, WShape.armsAll])
    (show (WTm.eq .res (.lit (.bool true))).value [] { args := args, res := some (.bool true), after := args } = some (.bool (true == true)) from w_eq_bool (w_res rfl) w_lit) rfl
theorem attach_call {l : OpenLaw} {n : Nat} {q : Program} {loose : List Str} {XP : (Str -> Option Value) -> Heap -> Prop} {YP : World -> Heap -> Prop} {d : DefRec}
    (hn : l.most = some n) (hdf : d.params.defaults = [])
    (call : ∀ (w : World) (s₀ s₁ : Shared) (mg mb : Str -> Option Value) (fa : Addr) (o : Obj) (pm cd doc : Value) (a : Addr) (vs : List Value) (ns : List Int),
      Ground q loose [] XP w s₀ mg mb s₁.heap -> YP w s₁.heap ->
      s₁.heap.get? fa = some o -> o.data = .func (docDef d.name d.params d.body d.scope pm cd doc) -> s₁.heap.CodeRec cd d.name -> mg d.name = some (.ref fa) ->
      s₁.heap.get? a = some { cls := .type "list", data := .seq vs.toArray } -> IntsAre vs ns -> ns.length <= n -> s₁.gens = #[] ->
      codeAny (model l.prog w) callerA (.call (.ref fa) ⟨[.ref a], []⟩) (fun r s' => r = .ok (.ret (.bool true)) /\ OldK s₁.heap s'.heap /\ s'.os = s₁.os /\ AllBare s'.gens) s₁) :
    WalkO q loose XP YP l.row.toRowW d [] (fun f vs => PySem.call f vs) := by
  intro w s₀ s₁ mg mb G Y fa o pm cd doc dV kV ho hd hcd hD hmg hg args vals as hpre hlay hrd hwl hlo
  obtain rfl : dV = .none := Dflts.none hD hdf
  obtain rfl : kV = .none := Dflts.noKw hD
  obtain ⟨a, vs, ns, rfl, rfl, hobj, hints, hlen⟩ := script_of hn hpre hwl
  refine enter_call (codeAny_mono (call w s₀ s₁ mg mb fa o pm cd doc a vs ns G Y ho (fd_plain hd) hcd hmg hobj hints hlen hg) fun r s' hq => ?_)
  obtain ⟨rfl, h2, h3, h4⟩ := hq
  exact ⟨.inl ⟨.bool true, .bool true, [], rfl, fun _ => rfl, .bool true, post_true l _, fun _ => ⟨List.Pairwise.nil, fun _ hm => (nomatch hm)⟩⟩, h2, h3, h4⟩
section
variable {prog : Program} {w : World} {A : Around} {E : Value -> Shared -> Prop} {s : Shared} {K : Frag}
end
end Att
namespace L2
open PySem PySem.Spec PyProof.Rows
theorem ZCo : ∀ {vs : List Value} {ns : List Int}, IntsAre vs ns -> Vals (ns.map V.int) vs
  | _, _, .nil => .nil
  | _, _, .cons n t h => .cons ⟨t, rfl⟩ (ZCo h)
end L2
/- THE LAST THEOREM (shape; LID, My.* are yours):
   My.Adr: a structure of the addresses that your layer names (classes, functions); My.Txt K t: a structure (Prop) of the equations over K;
   My.txt_mk : {K} {implicit addresses ..} (e1 : nsIn K mainGlobals "law" = some (some (.ref f))) (e2 : K.lookup f = some ⟨oc, od, .func (fnOf "law" "law" params body scope dV kV doc pm an cdv ct), sl⟩) (e3 : codeIn K cdv "law" = true) .. : ∃ t, My.Txt K t
set_option maxRecDepth 100000 in
set_option maxHeartbeats 0 in
theorem PySem.Challenge.cw_LID_holds : PySem.Challenge.rw_LID.Holds := by
  w_on; o_law; k_head; (case hw => w_witness2)
  k_fill
  refine L2.walk_of (l := PySem.Challenge.rw_LID) (n := 63) (k := 40) (x := "script") (CX := fun w => ..) (sp := fun _ => My.sp_law) rfl (by decide) rfl ⟨rfl, by decide, by decide⟩ (fun w h Y => PySem.W.kIn_of Y) ?F ?S ?C
  case F =>
    intro w mg fa h KX G hmg
    have T : ∃ t, My.Txt (L2.KOf KX) t := by
      dsimp only [L2.KOf]                          -- K must stand as «<heap const> w.params» for k_is
      refine' My.txt_mk ?e1 ?e2 ?e3 ..
      (case e1 => PySem.W.k_is)                    -- in the order: a name -> its address -> its object -> its parts
      (case e2 => PySem.W.k_is)
      ..
    obtain ⟨t, T⟩ := T
    have e0 := hmg.symm.trans (PySem.W.mg_of KX G T.law)
    cases e0                                       -- fa is the law's own address
    exact ⟨_, fun s u => .of_eq rfl, fun base kb nb => My.law_fn T kb nb⟩     -- if «.of_eq rfl» comes too early: refine' ⟨_, ?b, fun base kb nb => My.law_fn T kb nb⟩; exact fun s u => .of_eq rfl
  case S => exact fun w H a ns hl hO hS => ..
  case C => exact ..
(the tactic k_is has no namespace: write k_is) -/
namespace L2
open PySem PySem.Spec PyProof.Rows
def ZAv (s : Stmt) (j : Nat) : Stmt := match s with
  | .ClassDef _ _ _ body _ _ _ _ _ _ _ => body.getD j (.Pass ⟨0, 0, 0, 0⟩)
  | _ => .Pass ⟨0, 0, 0, 0⟩
def ZAN (s : Stmt) : Arguments := match s with
  | .FunctionDef _ a _ _ _ _ _ _ _ _ => a
  | _ => { posonlyargs := [], args := [], vararg := none, kwonlyargs := [], kw_defaults := [], kwarg := none, defaults := [] }
def ZAL (s : Stmt) : List Stmt := match s with
  | .FunctionDef _ _ b _ _ _ _ _ _ _ => b
  | _ => []
def ZAC (s : Stmt) : Scope := match s with
  | .FunctionDef _ _ _ _ _ _ sc _ _ _ => sc
  | _ => { kind := .function, names := [], isGenerator := false, isCoroutine := false }
abbrev CX0 : CXT := fun _ _ _ _ _ _ => False
abbrev E0 : XK := fun _ _ _ => False
theorem ZAV {X : Cx} : ZBr CX0 X E0 := fun _ _ _ _ _ _ _ h => h.elim
structure Fun (K : W.Frag) (x qual : Str) (st : Stmt) (f : Addr) (fd : FuncData) : Prop where
  ex : ∃ (oc : Value) (od : Option Addr) (kV doc pm : Value) (an : Option Addr) (cdv ct : Value) (osl : Array (Option Value)),
    fd = W.fnOf x qual (ZAN st) (ZAL st) (ZAC st) .none kV doc pm an cdv ct /\ K.lookup f = some ⟨oc, od, .func fd, osl⟩ /\ W.codeIn K cdv qual = true
  kp : W.keepIn K (.ref f) = true
section
variable {P : Program} {w : World} {K : W.Frag} {mg : Str -> Option Value} {base : Heap}
theorem Fun.ok {x qual : Str} {st : Stmt} {f : Addr} {fd : FuncData} {N ps : List Str} {k : Nat} {sp : Sp} (F : Fun K x qual st f fd) (S : FnScope N ps (ZAC st)) (len : ∀ vs H Q E, sp vs H Q E -> vs.length = ps.length)
    (hbody : ∀ (cdv : Value) (A : Around) (outer : List Env) (s : Shared) (H : Hp) (vs : List V) (Q : VK) (E : XK), Room k (A.deeper (envOfC qual (ZAC st) s.heap.objs.size f cdv)) -> sp vs H Q E ->
      ∃ t, PSs (cxOf CX0 P w K mg base N qual (ZAC st) f cdv A outer s H E).nox (ZAL st) t /\ t { nx := fun _ H' => Q .non H', rt := Q } (start N vs) H) : FnOk P w K mg base CX0 (k + 1) f fd ps sp := by
  obtain ⟨oc, od, kV, doc, pm, an, cdv, ct, osl, rfl, lk, hcd⟩ := F.ex
  refine fn_of lk hcd S len fun A outer s H vs Q E hr hsp => ?_
  obtain ⟨t, h, q⟩ := hbody cdv A outer s H vs Q E hr hsp
  exact ⟨t, h.nox, q⟩
theorem Fun.binds {x qual : Str} {st : Stmt} {f : Addr} {fd : FuncData} {ps : List Str} (F : Fun K x qual st f fd)
    (h : ∀ (kV doc pm : Value) (an : Option Addr) (cdv ct : Value) (us : List Value), us.length = ps.length -> bindArgs (W.fnOf x qual (ZAN st) (ZAL st) (ZAC st) .none kV doc pm an cdv ct) ⟨us, []⟩ = pure (ps.zip us)) : Binds K fd ps [] := by
  obtain ⟨oc, od, kV, doc, pm, an, cdv, ct, osl, rfl, lk, hcd⟩ := F.ex
  exact .all (h kV doc pm an cdv ct)
theorem ZAm {x qual : Str} {st : Stmt} {f : Addr} {oc : Value} {od an : Option Addr} {osl : Array (Option Value)} {kV doc pm cdv ct : Value} (l : K.lookup f = some ⟨oc, od, .func (W.fnOf x qual (ZAN st) (ZAL st) (ZAC st) .none kV doc pm an cdv ct), osl⟩)
    (c : W.codeIn K cdv qual = true) (k : W.keepIn K (.ref f) = true) : Fun K x qual st f (W.fnOf x qual (ZAN st) (ZAL st) (ZAC st) .none kV doc pm an cdv ct) := ⟨⟨oc, od, kV, doc, pm, an, cdv, ct, osl, rfl, l, c⟩, k⟩
end
theorem ZBS {n : Nat} (h : n <= 1000) : n < sizeLine := Nat.lt_of_le_of_lt h (by decide)
section
variable {X : Cx}
theorem pv (i : Nat) {x : Str} {pos : Pos} (hN : X.N[i]? = some x := by rfl) (hv : Vis X.env.scope x := by first | exact Or.inl rfl | exact Or.inr (Or.inl rfl) | exact Or.inr (Or.inr rfl)) (hd : (x == ("__debug__" : Str)) = false := by decide)
    (hcd : (x == ("__classdict__" : Str)) = false := by decide) : PE X (.Name x pos) (tVar i) := pe_var hN hv hd hcd
end
def Same (H H' : Hp) : Prop := ∀ b o, H b = some o -> H' b = some o
theorem Same.refl (H : Hp) : Same H H := fun _ _ h => h
theorem Same.trans {H H1 H2 : Hp} (a : Same H H1) (b : Same H1 H2) : Same H H2 := fun c o h => b c o (a c o h)
theorem Same.free {H H' : Hp} (e : Same H H') {l : Addr} (h : H' l = Option.none) : H l = Option.none := by
  cases q : H l with
  | none => rfl
  | some o =>
    rw [e l o q] at h
    cases h
theorem Same.seq {K : W.Frag} {H H' : Hp} {a : Addr} {xs : List V} (e : Same H H') (h : SqL K H a xs) : SqL K H' a xs := by
  rcases h with (h | ⟨o, h⟩) | h
  . exact .inl (.inl (e _ _ h))
  . exact .inl (.inr ⟨o, e _ _ h⟩)
  . exact .inr h
end L2
set_option maxHeartbeats 4000000
namespace L2
open PySem PySem.Spec PyProof.Rows
theorem natlt {a b : Addr} (h : a < b) : @LT.lt Nat _ a b := h
theorem ZC3 {a b : Addr} {n : Nat} (h : a < n) (k : n <= b) : a ≠ b := yAP (yAS h k)
theorem ZA3 : ∀ (names : List (Str × NameKind)) (n : Nat) (acc : List (Str × Addr)), cellsFrom n names acc = cellsFrom n names [] ++ acc
  | [], _, _ => rfl
  | (x, k) :: r, n, acc => by
    unfold cellsFrom
    split
    . rw [ZA3 r (n + 1) ((x, n) :: acc), ZA3 r (n + 1) [(x, n)], yAJ]; rfl
    . exact ZA3 r n acc
theorem ZBq : ∀ (names : List (Str × NameKind)) (n : Nat) (acc : List (Str × Addr)) (y : Str) (c : Addr), (y, c) ∈ cellsFrom n names acc -> (y, c) ∈ acc ∨ ((y, NameKind.cell) ∈ names /\ n <= c)
  | [], _, _, _, _, h => .inl h
  | (x, k) :: r, n, acc, y, c, h => by
    unfold cellsFrom at h
    split at h
    . rename_i hk
      have hk' : k = .cell := by simpa using hk
      rcases ZBq r (n + 1) _ y c h with h | ⟨h, l⟩
      . rcases yAE.mp h with e | h
        . cases e; subst hk'; exact .inr ⟨yAF, yAB _⟩
        . exact .inl h
      . exact .inr ⟨yAC _ h, Nat.le_of_succ_le l⟩
    . rcases ZBq r n _ y c h with h | ⟨h, l⟩
      . exact .inl h
      . exact .inr ⟨yAC _ h, l⟩
def closFrom (cells : List (Str × Addr)) : List (Str × NameKind) -> List (Str × Addr) -> List (Str × Addr)
  | [], acc => acc
  | (x, k) :: r, acc => if k == .free then closFrom cells r ((x, (cells.lookup x).getD 0) :: acc) else closFrom cells r acc
theorem ZBZ {cells : List (Str × Addr)} : ∀ (names : List (Str × NameKind)) (acc : List (Str × Addr)) (y : Str) (c : Addr), (y, c) ∈ closFrom cells names acc -> (y, c) ∈ acc ∨ ((y, NameKind.free) ∈ names /\ c = (cells.lookup y).getD 0)
  | [], _, _, _, h => .inl h
  | (x, k) :: r, acc, y, c, h => by
    unfold closFrom at h
    split at h
    . rename_i hk
      have hk' : k = .free := by simpa using hk
      rcases ZBZ r _ y c h with h | ⟨h, l⟩
      . rcases yAE.mp h with e | h
        . cases e; subst hk'; exact .inr ⟨yAF, rfl⟩
        . exact .inl h
      . exact .inr ⟨yAC _ h, l⟩
    . rcases ZBZ r _ y c h with h | ⟨h, l⟩
      . exact .inl h
      . exact .inr ⟨yAC _ h, l⟩
theorem ZBx {cells : List (Str × Addr)} : ∀ (names : List (Str × NameKind)) (acc : List (Str × Addr)) (p : Str × Addr), p ∈ acc -> p ∈ closFrom cells names acc
  | [], _, _, h => h
  | (x, k) :: r, acc, p, h => by
    unfold closFrom
    split
    . exact ZBx r _ p (yAC _ h)
    . exact ZBx r _ p h
theorem ZBa {cells : List (Str × Addr)} : ∀ (names : List (Str × NameKind)) (acc : List (Str × Addr)) (y : Str), (y, NameKind.free) ∈ names -> (y, (cells.lookup y).getD 0) ∈ closFrom cells names acc
  | [], _, _, h => nomatch h
  | (x, k) :: r, acc, y, h => by
    unfold closFrom
    rcases yAE.mp h with e | h
    . cases e
      rw [if_pos (by rfl)]
      exact ZBx r _ _ yAF
    . split
      . exact ZBa r _ y h
      . exact ZBa r _ y h
theorem ZBP {α : Type} : ∀ {l : List (Str × α)} {y : Str} {c : α}, (y, c) ∈ l -> ∃ c', l.lookup y = some c'
  | (k, v) :: r, y, c, h => by
    rw [yBS]
    cases hb : y == k with
    | true => exact ⟨v, rfl⟩
    | false =>
      rcases yAE.mp h with e | h
      . cases e; rw [beq_self_eq_true] at hb; cases hb
      . exact ZBP h
theorem ZBp {env : Env} (f : Str × NameKind -> List (Str × Addr) -> Sem (ForInStep (List (Str × Addr))))
    (hf : ∀ name kind cs, f (name, kind) cs = if kind == .free then (do let a <- cellOf env name; pure (.yield ((name, a) :: cs))) else pure (.yield cs)) :
    ∀ (names : List (Str × NameKind)) (acc : List (Str × Addr)), (∀ x, (x, NameKind.free) ∈ names -> ∃ c, env.cells.lookup x = some c) -> forIn names acc f = (pure (closFrom env.cells names acc) : Sem (List (Str × Addr)))
  | [], acc, _ => by rw [List.forIn_nil]; rfl
  | (x, k) :: r, acc, h => by
    have hr : ∀ x, (x, NameKind.free) ∈ r -> ∃ c, env.cells.lookup x = some c := fun y hy => h y (yAC _ hy)
    rw [List.forIn_cons, hf]
    unfold closFrom
    split
    . rename_i hk
      have hk' : k = .free := by simpa using hk
      subst hk'
      obtain ⟨c, hc⟩ := h x yAF
      have e : cellOf env x = (pure c : Sem Addr) := by unfold cellOf; rw [hc]
      rw [e, hc]
      exact ZBp f hf r ((x, c) :: acc) hr
    . exact ZBp f hf r acc hr
theorem closureFor_eq {scope : Scope} {env : Env} (h : ∀ x, (x, NameKind.free) ∈ scope.names -> ∃ c, env.cells.lookup x = some c) : closureFor scope env = pure (closFrom env.cells scope.names []) := by
  simp only [closureFor]
  rw [ZBp _ (fun name kind cs => by cases hk : kind == NameKind.free <;> simp [hk]) scope.names [] h]
  rfl
section
variable {M : Model} {A : Around} {E : Value -> Shared -> Prop} {s : Shared}
theorem newEnv_comp {scope : Scope} {globals : Addr} {cl : List (Str × Addr)} {qual : Str} {env : Env} {Q : Env -> Shared -> Prop}
    (hQ : Q { scope := scope, locals := s.heap.objs.size, globals := globals, cells := cellsFrom (s.heap.objs.size + 1) scope.names cl, qual := qual, func := none, code := env.code, frame := env.frame, builtins := env.builtins }
      { s with heap := pushCells (s.heap.push { cls := .type "dict", data := .dict #[] }) scope.names }) :
    wpAny M A (newFunctionEnv scope globals cl [] qual none .none (some env)) Q E s := by
  simp only [newFunctionEnv, Option.isSome_some, if_true]
  refine wpAny_bind (wpAny_alloc ?_)
  refine wpAny_bind (wpAny_layCells _ (fun name kind cells => by cases hkc : kind == NameKind.cell <;> simp [hkc]) _ _ _ _ ?_)
  rw [show ({ s with heap := s.heap.push { cls := .type "dict", data := .dict #[] } } : Shared).heap.objs.size = s.heap.objs.size + 1 from Heap.size_push ..]
  rw [List.forIn_nil]
  exact wpAny_bind (wpAny_pure (wpAny_pure hQ))
end
theorem relabel_lookup {scope : Scope} {env : Env} (x : Str) : (relabel scope env).names.lookup x = (scope.names.lookup x).map fun k => if (k == .free && env.scope.kind == .function && env.kindOf x == some .cell) = true then NameKind.cell else k := by
  unfold relabel
  dsimp only
  generalize scope.names = names
  induction names with
  | nil => rfl
  | cons p r ih =>
    obtain ⟨n, k⟩ := p
    rw [yAZ, yBS (as := r)]
    cases hx : x == n with
    | true =>
      have e : x = n := beq_iff_eq.mp hx
      subst e
      by_cases hc : (k == NameKind.free && env.scope.kind == .function && env.kindOf x == some .cell) = true
      . simp only [hc, if_true, yBS, hx, Option.map_some]
      . simp only [hc, Bool.false_eq_true, if_false, yBS, hx, Option.map_some]
    | false =>
      by_cases hc : (k == NameKind.free && env.scope.kind == .function && env.kindOf n == some .cell) = true
      . simp only [hc, if_true, yBS, hx]; exact ih
      . simp only [hc, Bool.false_eq_true, if_false, yBS, hx]; exact ih
def ZDQ (N : List Str) (osc : Scope) (k : Nat) (js : List Nat) (N' : List Str) (sc : Scope) : Bool :=
  decide (sc.kind = .function) && decide (N'.length = k + js.length) && decide N'.Nodup &&
  sc.names.all (fun p => decide (sc.names.lookup p.1 = some p.2) && (decide (p.2 ≠ .free) || decide (osc.names.lookup p.1 = some .cell) || decide (osc.names.lookup p.1 = some .free))) &&
  (List.range js.length).all (fun i => decide (js[i]?.bind (fun j => N[j]?) = N'[k + i]?) && decide ((N'[k + i]?).bind (fun y => sc.names.lookup y) = some .free))
structure CmpOk (N : List Str) (osc : Scope) (k : Nat) (js : List Nat) (N' : List Str) (sc : Scope) : Prop where
  kind : sc.kind = .function
  len : N'.length = k + js.length
  nd : N'.Nodup
  look : ∀ p ∈ sc.names, sc.names.lookup p.1 = some p.2
  fr : ∀ y, (y, NameKind.free) ∈ sc.names -> osc.names.lookup y = some .cell ∨ osc.names.lookup y = some .free
  js : ∀ i j, js[i]? = some j -> ∃ y, N'[k + i]? = some y /\ N[j]? = some y /\ sc.names.lookup y = some .free
theorem cmpOk {N : List Str} {osc : Scope} {k : Nat} {js : List Nat} {N' : List Str} {sc : Scope} (h : ZDQ N osc k js N' sc = true) : CmpOk N osc k js N' sc := by
  unfold ZDQ at h
  simp only [Bool.and_eq_true, decide_eq_true_eq, List.all_eq_true, Bool.or_eq_true, List.mem_range] at h
  obtain ⟨⟨⟨⟨h1, h2⟩, h3⟩, h4⟩, h5⟩ := h
  refine ⟨h1, h2, h3, fun p hp => (h4 p hp).1, fun y hy => ?_, fun i j hj => ?_⟩
  . rcases (h4 _ hy).2 with (z | z) | z
    . exact absurd rfl z
    . exact .inl z
    . exact .inr z
  . have hi : i < js.length := (yAH.mp hj).1
    obtain ⟨a, b⟩ := h5 i hi
    rw [hj] at a
    cases e : N'[k + i]? with
    | none => rw [e] at b; cases b
    | some y =>
      rw [e] at a b
      exact ⟨y, rfl, a, b⟩
def ZDP (scope : Scope) (cl : List (Str × Addr)) (C : Addr) (env : Env) : Env :=
  { scope := relabel scope env, locals := C, globals := env.globals, cells := cellsFrom (C + 1) scope.names cl, qual := env.qual, func := none, code := env.code, frame := env.frame, builtins := env.builtins }
def ZCD (X : Cx) (N' : List Str) (scope : Scope) (C : Addr) (fp : List Addr) (s2 : Shared) (H2 : Hp) : Cx where
  prog := X.prog
  w := X.w
  K := X.K
  mg := X.mg
  base := X.base
  A := X.A
  N := N'
  s₀ := s2
  H₀ := H2
  env := ZDP scope (closFrom X.env.cells scope.names []) C X.env
  outer := X.stack
  stack := X.stack
  ex := fp
  fn := fun x => decide (scope.names.lookup x = some .cell)
  calm := X.calm
  pn := []
  xe := fun _ _ => False
def up (k : Nat) (js : List Nat) (σ : St) : St := List.replicate k none ++ js.map fun j => (σ[j]?).getD none
section
variable {X : Cx} {pins : List (Addr × Obj)} {σ : St} {H : Hp} {s2 : Shared} {k : Nat} {js : List Nat} {N' : List Str} {scope : Scope} {fp : List Addr}
theorem comp_inv (hc : CmpOk X.N X.env.scope k js N' scope) (I : Inv X pins σ H s2) (hfp : ∀ b ∈ fp, FpOk X pins H b) (hlt : ∀ b ∈ fp, b < s2.heap.objs.size) {h3 : Heap} (hz : h3.objs.size = s2.heap.objs.size + 1) (hk3 : ∀ b o, s2.heap.get? b = some o -> h3.get? b = some o) :
    Inv (ZCD X N' scope (s2.heap.objs.size + 1) fp s2 H) [] (up k js σ) H { s2 with heap := pushCells (h3.push { cls := .type "dict", data := .dict #[] }) scope.names } := by
  have frLook : ∀ y, (y, NameKind.free) ∈ scope.names -> ∃ c, X.env.cells.lookup y = some c := fun y hy => I.ok.has y (hc.fr y hy)
  have ok0 := cellsFrom_ok scope.names (h3.push { cls := .type "dict", data := .dict #[] }) (s2.heap.objs.size + 2) [] ⟨fun _ _ hm => (nomatch hm), List.Pairwise.nil⟩ (by rw [Heap.size_push, hz]; exact yAB _)
  rw [Heap.size_push, hz] at ok0
  -- the cells of the block
  have parts : ∀ y c, (ZDP scope (closFrom X.env.cells scope.names []) (s2.heap.objs.size + 1) X.env).cells.lookup y = some c ->
      ((y, c) ∈ cellsFrom (s2.heap.objs.size + 2) scope.names [] /\ (y, NameKind.cell) ∈ scope.names /\ s2.heap.objs.size + 2 <= c) ∨ ((y, NameKind.free) ∈ scope.names /\ X.env.cells.lookup y = some c) := fun y c e => by
    have m := PySem.mem_of_lookup e
    change (y, c) ∈ cellsFrom (s2.heap.objs.size + 1 + 1) scope.names _ at m
    rw [ZA3] at m
    rcases yBC.mp m with m | m
    . rcases ZBq _ _ _ _ _ m with z | ⟨z, l⟩
      . cases z
      . exact .inl ⟨m, z, l⟩
    . rcases ZBZ _ _ _ _ m with z | ⟨z, l⟩
      . cases z
      . obtain ⟨c', e'⟩ := frLook y z
        rw [e'] at l
        exact .inr ⟨z, by rw [e']; exact congrArg some l.symm⟩
  have old : ∀ y c, X.env.cells.lookup y = some c -> c < s2.heap.objs.size := fun y c e => by
    obtain ⟨v, q⟩ := I.cell y c e
    exact q.lt
  have freeAt : ∀ y, (y, NameKind.free) ∈ scope.names -> ∀ c, X.env.cells.lookup y = some c -> (ZDP scope (closFrom X.env.cells scope.names []) (s2.heap.objs.size + 1) X.env).cells.lookup y = some c := fun y hy c e => by
    have m : (y, c) ∈ cellsFrom (s2.heap.objs.size + 1 + 1) scope.names (closFrom X.env.cells scope.names []) := by
      rw [ZA3]
      have q := ZBa (cells := X.env.cells) scope.names [] y hy
      rw [e] at q
      exact yAX _ q
    obtain ⟨c', q⟩ := ZBP m
    rcases parts y c' q with ⟨_, z, _⟩ | ⟨_, z⟩
    . have z1 := hc.look _ z
      have z2 := hc.look _ hy
      rw [z1] at z2
      cases z2
    . rw [e] at z
      cases z
      exact q
  have keepAll : ∀ b o, s2.heap.get? b = some o -> (pushCells (h3.push { cls := .type "dict", data := .dict #[] }) scope.names).get? b = some o := fun b o e => pushCells_keeps _ _ b o (Heap.get?_push_of_some _ (hk3 b o e))
  refine ⟨⟨I.ok.mod, hc.kind, I.ok.glob, I.ok.blt, yBE _, fun y z c h1 h2 => ?_, fun y hy => ?_, fun y c h1 h2 => ?_, I.ok.hd, I.ok.frames, .inl rfl, fun b hb => ⟨?_, fun y c e => ?_⟩, I.bs, yAK I.ok.bsz I.sz, fun b o e hb => ?_, fun b hb hs => ?_, I.stack, I.stkFree⟩,
    rfl, I.bare, Un.kept keepAll, ⟨fun _ => none, ?_, fun i y v e1 e2 e3 => ?_⟩, fun y c e => ?_, I.hok.fresh (yBE _), fun y c e => ?_, fun p hp => absurd (show p ∈ ([] : List (Addr × Obj)) from hp) (by simp), I.hok.kept keepAll, ?_⟩
  . -- inj
    rcases parts y c h1 with ⟨a, _, l⟩ | ⟨_, a⟩ <;> rcases parts z c h2 with ⟨b, _, l'⟩ | ⟨_, b⟩
    . exact name_of_addr ok0.apart a b
    . have := natlt (old z c b); omega
    . have := natlt (old y c a); omega
    . exact I.ok.inj y z c a b
  . -- has
    have hy' : (relabel scope X.env).names.lookup y = some .cell ∨ (relabel scope X.env).names.lookup y = some .free := hy
    rw [relabel_lookup] at hy'
    have q : scope.names.lookup y = some .cell ∨ scope.names.lookup y = some .free := by
      cases e : scope.names.lookup y with
      | none => rw [e] at hy'; rcases hy' with z | z <;> cases z
      | some kk =>
        rw [e] at hy'
        cases kk <;> first | exact .inl rfl | exact .inr rfl | (rcases hy' with z | z <;> simp at z)
    rcases q with q | q
    . obtain ⟨c, e⟩ := ZCn (n := s2.heap.objs.size + 1 + 1) q
      have m : (y, c) ∈ cellsFrom (s2.heap.objs.size + 1 + 1) scope.names (closFrom X.env.cells scope.names []) := by
        rw [ZA3]
        exact yBO _ (PySem.mem_of_lookup e)
      exact ZBP m
    . have m := PySem.mem_of_lookup q
      obtain ⟨c, e⟩ := frLook y m
      exact ⟨c, freeAt y m c e⟩
  . -- cab
    have h1' : scope.names.lookup y = some .cell := of_decide_eq_true h1
    rcases parts y c h2 with ⟨_, _, l⟩ | ⟨z, _⟩
    . show s2.heap.objs.size <= c
      omega
    . have := hc.look _ z
      rw [h1'] at this
      cases this
  . -- an iterator is not the frame
    exact ZC3 (hlt b hb) (yBE _)
  . rcases parts y c e with ⟨_, _, l⟩ | ⟨_, z⟩
    . exact (ZC3 (hlt b hb) (yAK (Nat.le_add_right _ 2) l)).symm
    . exact (hfp b hb).2.2.2.2.1 y c z
  . -- noex
    rcases (hfp b hb).2.2.2.1 with z | z
    . exact I.ok.noex b o e z
    . exact absurd (yAS (Heap.lt_size e) (yAK I.ok.bsz z)) (yBQ _)
  . -- exfs
    rcases yAE.mp (I.stkSub b hs) with z | z
    . exact (hfp b hb).2.1 z
    . exact (hfp b hb).2.2.1 z
  . -- the frame's map
    have q := (Heap.Ns.new h3 (.type "dict")).keeps (pushCells_keeps scope.names _)
    rw [hz] at q
    exact q
  . -- what is captured
    unfold up at e2
    have hik : k <= i := by
      by_cases hi : i < k
      . rw [yBB (by simpa using hi), List.getElem?_replicate] at e2
        rw [if_pos hi] at e2
        cases e2
      . omega
    rw [yBA (by simpa using hik), yCC, yAY] at e2
    cases ej : js[i - k]? with
    | none => rw [ej] at e2; cases e2
    | some j =>
      rw [ej] at e2
      have e2' : (σ[j]?).getD none = some v := Option.some.inj e2
      have e4 : σ[j]? = some (some v) := by
        cases q : σ[j]? with
        | none => rw [q] at e2'; cases e2'
        | some z => rw [q] at e2'; exact congrArg some e2'
      obtain ⟨y', n1, n2, n3⟩ := hc.js _ _ ej
      rw [Nat.add_sub_cancel' hik] at n1
      have n0 : N'[i]? = some y := e1
      rw [n1] at n0
      cases n0
      have hm := PySem.mem_of_lookup n3
      have hvis : Vis X.env.scope y := .inr (hc.fr y hm)
      obtain ⟨m, hn, hl⟩ := I.loc
      obtain ⟨u, r, l⟩ := hl j y v n2 e4 hvis
      refine ⟨u, r, ?_⟩
      rcases l with ⟨kk, _⟩ | ⟨kk, c, ec, ic⟩
      . have kk' : X.env.scope.names.lookup y = some .local := kk
        rcases hc.fr y hm with z | z <;> (rw [kk'] at z; cases z)
      . refine .inr ⟨?_, c, freeAt y hm c ec, ic.keeps keepAll⟩
        show (relabel scope X.env).names.lookup y = some .cell ∨ (relabel scope X.env).names.lookup y = some .free
        rw [relabel_lookup, n3]
        simp only [Option.map_some]
        split
        . exact .inl rfl
        . exact .inr rfl
  . -- cells are there
    rcases parts y c e with ⟨a, _, _⟩ | ⟨_, a⟩
    . exact ⟨none, (ok0.empty y c a).1⟩
    . obtain ⟨v, q⟩ := I.cell y c a
      exact ⟨v, q.keeps keepAll⟩
  . rcases parts y c e with ⟨_, _, l⟩ | ⟨_, a⟩
    . exact I.hok.fresh (by omega)
    . exact I.freeC y c a
  . unfold up
    show _ = N'.length
    rw [yAA, yCC, yAD, hc.len]
theorem comp_end {σ' : St} {H' : Hp} {s' : Shared} {C D : Addr} {its : List Value} {n : Nat} {ys : List V} (I : Inv X pins σ H s2) (hfp : ∀ b ∈ fp, FpOk X pins H b) (hC : s2.heap.objs.size <= C) (hD : s2.heap.objs.size <= D) (hDC : D ≠ C)
    (I' : Inv (ZCD X N' scope C fp s2 H) [(D, { cls := .type "list", data := .seq its.toArray n })] σ' H' s') (hv : Vals ys its) (hz : ys.length <= sizeLine) :
    H' D = none /\ ∀ h', Heap.SameBut C s'.heap h' -> Inv X pins σ (upd H' D (.lst ys)) { s' with heap := h' } := by
  obtain ⟨eD, nD, _, _, _⟩ := I'.pin (D, { cls := .type "list", data := .seq its.toArray n }) (yAX _ yAF)
  dsimp only at eD nD
  have nC : H' C = none := I'.free
  refine ⟨nD, fun h' hs => ?_⟩
  have neC : ∀ b o, s2.heap.get? b = some o -> b ≠ C := fun b o e => ZC3 (Heap.lt_size e) hC
  have neD : ∀ b o, s2.heap.get? b = some o -> b ≠ D := fun b o e => ZC3 (Heap.lt_size e) hD
  have tr : ∀ b u, H' b = some u -> b ≠ D := fun b u e z => by rw [z, nD] at e; cases e
  have trC : ∀ b u, H' b = some u -> b ≠ C := fun b u e z => by rw [z, nC] at e; cases e
  have B := I'.base
  refine I.call' (s' := { s' with heap := h' }) (ch := fp) I'.os ⟨fun b o e nn hb hx => ?_, fun b o e nn hb hx => ?_, fun b o e nn hx => ?_, fun b o e hx => ?_, fun b xs e => ?_, fun b o u e => ?_, fun b ps e => ?_⟩ (fun b u e => ?_) I'.bare fun b hb => ?_
  . exact (hs.2 b (neC b o e)).trans (B.keep b o e nn hb hx)
  . obtain ⟨sl, q⟩ := B.slot b o e nn hb hx
    exact ⟨sl, (hs.2 b (neC b o e)).trans q⟩
  . rw [ZAH (neD b o e)]
    exact B.free b o e nn hx
  . obtain ⟨o', q⟩ := B.there b o e hx
    exact ⟨o', (hs.2 b (neC b o e)).trans q⟩
  . have q := B.tups b xs e
    rw [ZAH (tr b _ q)]
    exact q
  . have q := B.frzs b o u e
    rw [ZAH (tr b _ q)]
    exact q
  . obtain ⟨more, q⟩ := B.tbls b ps e
    exact ⟨more, by rw [ZAH (tr b _ q)]; exact q⟩
  . by_cases hb : b = D
    . subst hb
      rw [ZAG] at e
      cases e
      exact ⟨hz, its, n, hv, (hs.2 b hDC).trans eD⟩
    . rw [ZAH hb] at e
      refine (I'.hok b u e).stay (fun c v hcc q => (hs.2 c ?_).trans q) (fun c q => by rw [ZAH (tr c _ q)]; exact q) fun c xs q => by rw [ZAH (tr c _ q)]; exact q
      rcases hcc with rfl | hcc
      . exact trC c _ e
      . exact trC c _ hcc
  . obtain ⟨_, f1, _, f3, f4, f5⟩ := hfp b hb
    exact ⟨f3, f1, f4, f5⟩
end
section
variable {prog : Program} {w : World} {A : Around} {R : Result -> Shared -> Prop} {s : Shared}
theorem codeAny_compLoop_any {elt target iter : Expr} {ifs : List Expr} {scope : Scope} {pos : Pos} {it acc : Value} {env : Env} (I : Nat -> Shared -> Prop)
    (turn : ∀ n s, I n s -> wpAny (model prog w) A (pyNext it) (fun r s₁ => match r with
      | none => R (.ok .next) s₁
      | some v => wpAny (model prog w) A (letOwnedTupleGo target it v) (fun _ s₁' => wpAny (model prog w) A (assign target env v) (fun _ s₂ =>
          wpAny (model prog w) A (forIn ifs true fun c r => if r = true then do let ok <- isTrue c env (eval c env); pure (ForInStep.yield ok) else pure (ForInStep.yield r)) (fun ok s₃ =>
            if ok = true then wpAny (model prog w) A (eval elt env) (fun x s₄ =>
              wpAny (model prog w) A (call (.builtin "list.append") [acc, x]) (fun _ s₅ => ∃ m, m < n /\ I m s₅) (notedBy (model prog w) A env fun e s' => R (.error e) s') s₄) (notedBy (model prog w) A env fun e s' => R (.error e) s') s₃
            else ∃ m, m < n /\ I m s₃) (notedBy (model prog w) A env fun e s' => R (.error e) s') s₂) (notedBy (model prog w) A env fun e s' => R (.error e) s') s₁') (notedBy (model prog w) A env fun e s' => R (.error e) s') s₁) (notedBy (model prog w) A env fun e s' => R (.error e) s') s)
    (n : Nat) (h : I n s) :
    codeAny (model prog w) A (.compLoop (.ListComp elt [⟨target, iter, ifs, 0⟩] scope pos) 0 it acc env) R s := by
  refine codeAny_loop rfl I (fun n s hI => ?_) n h
  show wpAny _ A ((compTurn (.ListComp elt [⟨target, iter, ifs, 0⟩] scope pos) 0 it acc env).onRaise (fun x => do noteFrame x env; theTreesLotGoes x)) _ _ s
  refine wpAny_noted ?_
  rw [compTurn_list]
  refine wpAny_bind (wpAny_standAt (wpAny_bind (wpAny_mono (turn n s hI) (fun r s₁ h₁ => ?_) fun _ _ h' => h')))
  cases r with
  | none => exact wpAny_pure h₁
  | some v =>
    refine wpAny_bind (wpAny_mono h₁ (fun _ s₁' h₁' => ?_) fun _ _ h' => h')
    refine wpAny_bind (wpAny_mono h₁' (fun _ s₂ h₂ => wpAny_bind (wpAny_mono h₂ (fun ok s₃ h₃ => ?_) fun _ _ h' => h')) fun _ _ h' => h')
    cases ok with
    | false => exact wpAny_pure ⟨rfl, h₃⟩
    | true => exact wpAny_bind (wpAny_bind (wpAny_mono h₃ (fun x s₄ h₄ => wpAny_bind (wpAny_mono h₄ (fun _ s₅ h₅ => wpAny_pure (wpAny_pure ⟨rfl, h₅⟩)) fun _ _ h' => h')) fun _ _ h' => h'))
end
def PIfs (X : Cx) (ifs : List Expr) (t : TT) : Prop :=
  ∀ (pins : List (Addr × Obj)) (s : Shared) (σ : St) (H : Hp) (Q : Bool -> Hp -> Prop), Inv X pins σ H s -> t σ H Q ->
    wpAny (model X.prog X.w) X.A (forIn ifs true fun c r => if r = true then do let ok <- isTrue c X.env (eval c X.env); pure (ForInStep.yield ok) else pure (ForInStep.yield r)) (TP X pins σ Q) X.xe s
def tYes : TT := fun _ H Q => Q true H
theorem pifs_nil {X : Cx} : PIfs X [] tYes := fun _ _ _ H _ I h => wpAny_tests_nil ⟨H, I, h⟩
def ZDc (k : Nat) (js : List Nat) (wi : TI) (g : TG) (tt : TT) (te : TE) : TE := fun σ H Q => wi σ H fun J H1 => ∃ W : Nat -> Nat -> List V -> St -> Hp -> Prop, (∃ m, W 0 m [] (up k js σ) H1) /\ ∀ i m ys σ H, W i m ys σ H ->
  (J.stop i H /\ ys.length <= sizeLine /\ ∀ p, H p = none -> Q (.ref p) (upd H p (.lst ys))) ∨
  (J.go i H /\ ys.length < sizeLine /\ ∀ x H', J.yld i H x H' -> g x σ H' fun σ2 H2 => tt σ2 H2 fun b H3 => if b = true then te σ2 H3 fun y H4 => ∃ m', m' < m /\ W (i + 1) m' (ys ++ [y]) σ2 H4 else ∃ m', m' < m /\ W (i + 1) m' ys σ2 H3)
section
variable {X : Cx} {k : Nat} {js : List Nat} {N' : List Str} {scope : Scope} {tg iter elt : Expr} {ifs : List Expr} {wi : TI} {g : TG} {tt : TT} {te : TE} {pos : Pos}
theorem comp_core {use : Option (Value -> Sem Unit)} {Q' : Value -> Shared -> Prop} (hcalm : X.calm = true) (hc : CmpOk X.N X.env.scope k js N' scope) (hi : PI X tg iter wi)
    (hg : ∀ C fp s2 H2, PG (ZCD X N' scope C fp s2 H2) tg g) (ht : ∀ C fp s2 H2, PIfs (ZCD X N' scope C fp s2 H2) ifs tt) (he : ∀ C fp s2 H2, PE (ZCD X N' scope C fp s2 H2) elt te)
    {pins : List (Addr × Obj)} {s : Shared} {σ : St} {H : Hp} {Q : VK} (I : Inv X pins σ H s) (h : ZDc k js wi g tt te σ H Q)
    (fin : ∀ (C D : Addr) (s' : Shared) (m : Str -> Option Value) (H' : Hp) (ys : List V), s'.heap.Ns C m -> C ≠ X.env.locals -> C ∉ X.fs -> D ≠ C -> H' C = none -> X.s₀.heap.objs.size <= C -> (∀ x c, X.env.cells.lookup x = some c -> c ≠ C) -> (∀ p ∈ X.pn ++ pins, p.1 ≠ C) -> (∀ h', Heap.SameBut C s'.heap h' -> Inv X pins σ (upd H' D (.lst ys)) { s' with heap := h' }) -> Q (.ref D) (upd H' D (.lst ys)) ->
      compPost (model X.prog X.w) X.A X.xe use Q' (.ref D) C (.ok .next) s')
    (hs : ∀ x, foldedSetIterable iter X.env x = pure x) (p' : Pos) :
    wpAny (model X.prog X.w) X.A (comprehension (.ListComp elt [⟨tg, iter, ifs, 0⟩] scope pos) scope X.env p' (newList []) false (eval iter X.env) use) Q' X.xe s := by
  have hclos : closureFor scope X.env = pure (closFrom X.env.cells scope.names []) := closureFor_eq fun y hy => I.ok.has y (hc.fr y hy)
  refine wpAny_comprehension_free (g := ⟨tg, iter, ifs, 0⟩) (gs := []) rfl hs hclos hc.kind (fun x hx hl => by rw [hc.look x hx, hl]) ?_
  refine thn (hi pins s σ H _ I h) fun v s1 h1 => thn h1 fun itv s2 h2 => ?_
  obtain ⟨it, fp, tn, J, H2, e, I2, T, st2, f2, W, ⟨m0, w0⟩, turn⟩ := h2
  subst e
  have hlt : ∀ b ∈ fp, b < s2.heap.objs.size := fun b hb => by
    obtain ⟨o, e, _⟩ := T.obj _ _ st2 b hb
    exact Heap.lt_size e
  refine wpAny_newObj_type (newEnv_comp ?_)
  have hz3 : (s2.heap.push { cls := .type "list", dict := none, data := .seq ([] : List Value).toArray }).objs.size = s2.heap.objs.size + 1 := Heap.size_push ..
  have I3 := comp_inv (h3 := s2.heap.push { cls := .type "list", dict := none, data := .seq ([] : List Value).toArray }) hc I2 f2 hlt hz3 (fun b o e => Heap.get?_push_of_some _ e)
  dsimp only
  rw [hz3]
  generalize hS4 : ({ s2 with heap := pushCells ((s2.heap.push { cls := .type "list", dict := none, data := .seq ([] : List Value).toArray }).push { cls := .type "dict", data := .dict #[] }) scope.names } : Shared) = s4 at I3 ⊢
  have keep4 : ∀ b o, s2.heap.get? b = some o -> s4.heap.get? b = some o := fun b o e => by
    rw [<- hS4]
    exact pushCells_keeps _ _ b o (Heap.get?_push_of_some _ (Heap.get?_push_of_some _ e))
  have eD4 : s4.heap.get? s2.heap.objs.size = some { cls := .type "list", data := .seq ([] : List Value).toArray 0 } := by
    rw [<- hS4]
    exact pushCells_keeps _ _ _ _ (Heap.get?_push_of_some _ (Heap.get?_push_size _ rfl))
  generalize hX' : ZCD X N' scope (s2.heap.objs.size + 1) fp s2 H2 = X' at I3
  have hC' : X'.env.locals = s2.heap.objs.size + 1 := by rw [<- hX']; rfl
  have hfs' : X'.fs = frs X.stack := by rw [<- hX']; rfl
  -- D is nobody's
  have nofsD : ∀ a, s2.heap.objs.size <= a -> a ∉ frs X.stack := fun a ha hb => by
    rcases yAE.mp (I2.stkSub a hb) with z | z
    . exact absurd z.symm (ZC3 I2.lt ha)
    . exact I2.nofs ha z
  have cellD : ∀ x c, X'.env.cells.lookup x = some c -> c ≠ s2.heap.objs.size := fun x c e z => by
    obtain ⟨v, o, ho, hd⟩ := I3.cell x c e
    rw [z, eD4] at ho
    cases ho
    cases hd
  have pinD : ∀ {σ' : St} {H' : Hp} {s' : Shared} {its : List Value} {n : Nat}, Inv X' [] σ' H' s' -> s'.heap.get? s2.heap.objs.size = some { cls := .type "list", data := .seq its.toArray n } -> H' s2.heap.objs.size = none ->
      Inv X' [(s2.heap.objs.size, { cls := .type "list", data := .seq its.toArray n })] σ' H' s' := fun {σ' H' s' its n} J e nn => J.pins_of fun p hp => by
    have e' : p = (s2.heap.objs.size, { cls := .type "list", data := .seq its.toArray n }) := by simpa using hp
    subst e'
    refine ⟨e, nn, ?_, ?_, fun v z => nomatch z⟩
    . rw [hC']; exact yAP (yBU _)
    . rw [hfs']; exact nofsD _ (yAB _)
  have I4 := pinD I3 eD4 (I2.hok.fresh (yAB _))
  -- what stays true of the iterator's objects
  have stat : ∀ {H' : Hp} {o : Obj}, (∀ b ∈ fp, H' b = none) -> ∀ b ∈ fp, FpOk X' [(s2.heap.objs.size, o)] H' b := fun {H' o} hn b hb => by
    have hb' := hlt b hb
    refine ⟨hn b hb, ?_, ?_, .inl (by rw [<- hX']; exact hb), fun x c e z => ?_, fun p hp z => ?_⟩
    . rw [hC']; exact ZC3 hb' (yBE _)
    . rw [hfs']
      intro z
      rcases yAE.mp (I2.stkSub b z) with q | q
      . exact (f2 b hb).2.1 q
      . exact (f2 b hb).2.2.1 q
    . have q := I3.ok.exf b (by rw [<- hX']; exact hb)
      exact q.2 x c e z
    . rw [show X'.pn = [] by rw [<- hX']; rfl] at hp
      have e' : p = (s2.heap.objs.size, o) := by simpa using hp
      subst e'
      exact absurd hb' (by rw [<- z]; exact yBQ _)
  have hfin : ∀ {σ' : St} {H' : Hp} {s' : Shared} {its : List Value} {n : Nat} {ys : List V}, Inv X' [(s2.heap.objs.size, { cls := .type "list", data := .seq its.toArray n })] σ' H' s' -> Vals ys its -> ys.length <= sizeLine -> (∀ p, H' p = none -> Q (.ref p) (upd H' p (.lst ys))) ->
      compPost (model X.prog X.w) X.A X.xe use Q' (.ref s2.heap.objs.size) (s2.heap.objs.size + 1) (.ok .next) s' := fun {σ' H' s' its n ys} J hv hz hq => by
    obtain ⟨m, hn, _⟩ := id J.loc
    rw [hC'] at hn
    have nC : H' (s2.heap.objs.size + 1) = none := by rw [<- hC']; exact J.free
    have J' : Inv (ZCD X N' scope (s2.heap.objs.size + 1) fp s2 H2) [(s2.heap.objs.size, { cls := .type "list", data := .seq its.toArray n })] σ' H' s' := by rw [hX']; exact J
    obtain ⟨nD, E⟩ := comp_end I2 f2 (yBE _) (yAB _) (yAP (yBU _)) J' hv hz
    refine fin _ _ s' m H' ys hn ?_ (I2.nofs (yBE _)) (yAP (yBU _)) nC (yAK I2.sz (yBE _)) (fun x c e z => ?_) (fun p hp z => ?_) E (hq _ nD)
    . exact (ZC3 I2.lt (yBE _)).symm
    . obtain ⟨v, q⟩ := I2.cell x c e
      exact absurd z (ZC3 q.lt (yBE _))
    . exact absurd z (ZC3 (Heap.lt_size (I2.pin p hp).1) (yBE _))
  have hprog : X'.prog = X.prog := by rw [<- hX']; rfl
  have hw : X'.w = X.w := by rw [<- hX']; rfl
  have hK : X'.K = X.K := by rw [<- hX']; rfl
  have hcalm' : X'.calm = true := by rw [<- hX']; exact hcalm
  have hA : X'.A = X.A := by rw [<- hX']; rfl
  have henv : ZDP scope (closFrom X.env.cells scope.names []) (s2.heap.objs.size + 1) X.env = X'.env := by rw [<- hX']; rfl
  have hgX := hg (s2.heap.objs.size + 1) fp s2 H2
  have htX := ht (s2.heap.objs.size + 1) fp s2 H2
  have heX := he (s2.heap.objs.size + 1) fp s2 H2
  rw [hX'] at hgX htX heX
  have hxe : ∀ e s', X'.xe e s' -> False := fun e s' z => by rw [<- hX'] at z; exact z
  have hXA : X'.pn = [] := by rw [<- hX']; rfl
  have hs0 : X'.s₀.heap.objs.size = s2.heap.objs.size := by rw [<- hX']; rfl
  have loop : codeAny (model X.prog X.w) X.A (.compLoop (.ListComp elt [⟨tg, iter, ifs, 0⟩] scope pos) 0 (.ref it) (.ref s2.heap.objs.size) X'.env) (compPost (model X.prog X.w) X.A X.xe use Q' (.ref s2.heap.objs.size) (s2.heap.objs.size + 1)) s4 := by
    refine codeAny_compLoop_any (fun n s' => ∃ i σ' H' its nn ys, Inv X' [(s2.heap.objs.size, { cls := .type "list", data := .seq its.toArray nn })] σ' H' s' /\ tn i s'.heap /\ (∀ b ∈ fp, H' b = none) /\ Vals ys its /\ W i n ys σ' H') ?_ m0
      ⟨0, _, H2, [], 0, [], I4, T.keep _ _ _ st2 (fun b _ o e => keep4 b o e), fun b hb => (f2 b hb).1, .nil, w0⟩
    rintro n s5 ⟨i, σ5, H5, its, nn, ys, I5, st5, fr5, hv, w5⟩
    rcases turn i n ys σ5 H5 w5 with ⟨stop, hz, hq⟩ | ⟨go, hz, step⟩
    . have d := T.done X' hprog hw hK hcalm' i _ s5 σ5 H5 (fun _ _ => False) I5 (stat fr5) st5 stop
      rw [hA] at d
      refine wpAny_mono d (fun r s6 ⟨hr, I6⟩ => ?_) fun _ _ z => z.elim
      subst hr
      exact hfin I6 hv hz hq
    . have d := T.item X' hprog hw hK hcalm' i _ s5 σ5 H5 (fun _ _ => False) I5 (stat fr5) st5 go
      rw [hA] at d
      refine wpAny_mono d (fun r s6 ⟨u, hr, h6⟩ => ?_) fun _ _ z => z.elim
      subst hr
      refine wpAny_mono h6 (fun _ s7 ⟨x, H7, I7, r7, y7, st7, fr7⟩ => ?_) fun _ _ z => z.elim
      have I7' := I7.pinned (stat fr7) (T.obj _ _ st7)
      have a1 := hgX _ s7 σ5 H7 x u _ I7' r7 (step x H7 y7)
      rw [hprog, hw, hA] at a1
      refine wpAny_mono a1 (fun _ s8 ⟨σ8, H8, I8, q8⟩ => ?_) fun _ _ z => (hxe _ _ z).elim
      have a2 := htX _ s8 σ8 H8 _ I8 q8
      rw [hprog, hw, hA] at a2
      refine wpAny_mono a2 (fun ok s9 ⟨H9, I9, q9⟩ => ?_) fun _ _ z => (hxe _ _ z).elim
      have back : ∀ {σ' : St} {H' : Hp} {s' : Shared}, Inv X' ([(s2.heap.objs.size, ({ cls := .type "list", data := .seq its.toArray nn } : Obj))] ++ ZDW fp s7.heap) σ' H' s' -> tn (i + 1) s'.heap /\ (∀ b ∈ fp, H' b = none) := fun {σ' H' s'} J => by
        refine ⟨T.keep _ _ _ st7 fun b hb o e => (J.pin (b, o) (yAX _ (yAX _ (ZB6 hb e)))).1, fun b hb => ?_⟩
        obtain ⟨o, e, d⟩ := T.obj _ _ st7 b hb
        exact (J.pin (b, o) (yAX _ (yAX _ (ZB6 hb e)))).2.1
      cases ok with
      | false =>
        rw [if_neg yBJ] at q9 ⊢
        obtain ⟨m', hm, w9⟩ := q9
        obtain ⟨t9, f9⟩ := back I9
        exact ⟨m', hm, i + 1, σ8, H9, its, nn, ys, I9.unpinned, t9, f9, hv, w9⟩
      | true =>
        rw [if_pos rfl] at q9 ⊢
        have a3 := heX _ s9 σ8 H9 _ I9 q9
        rw [hprog, hw, hA] at a3
        refine wpAny_mono a3 (fun uy s10 ⟨y, H10, I10, r10, m', hm, w10⟩ => ?_) fun _ _ z => (hxe _ _ z).elim
        obtain ⟨t10, f10⟩ := back I10
        have I11 := I10.unpinned
        obtain ⟨eD, nD, _, _, _⟩ := I11.pin (s2.heap.objs.size, { cls := .type "list", data := .seq its.toArray nn }) (yAX _ yAF)
        dsimp only at eD nD
        have hsz : its.length < sizeLine := by rw [<- hv.length]; exact hz
        refine wpAny_list_append_plain ⟨nn, eD⟩ (fun h' hpl hsb => ?_) (by rw [yAM]; omega)
        obtain ⟨n', e'⟩ := hpl
        have e'' : h'.get? s2.heap.objs.size = some { cls := .type "list", data := .seq (its ++ [uy]).toArray n' } := by rw [e']; simp
        have I12 : Inv X' [] σ8 H10 s10 := I11.pins_of fun p hp => absurd hp (by simp)
        have I13 := I12.turned (h' := h') (t' := s10.toks) (it := s2.heap.objs.size) (fun b o hb e => (hsb.2 b hb).trans e) nD (by rw [hC']; exact yAP (yBU _)) (.inr (by rw [hs0]; exact yAB _)) cellD (fun p hp => absurd hp (by rw [hXA]; simp))
        refine ⟨m', hm, i + 1, σ8, H10, its ++ [uy], n', ys ++ [y], pinD I13 e'' nD, T.keep _ _ _ t10 fun b hb o e => ?_, f10, hv.append (.cons r10 .nil), w10⟩
        exact (hsb.2 b (ZC3 (hlt b hb) (yAB _))).trans e
  have hst : codeAny (model X.prog X.w) X.A (.compStart (.ListComp elt [⟨tg, iter, ifs, 0⟩] scope pos) 0 (.ref it) (.ref s2.heap.objs.size) X'.env) (compPost (model X.prog X.w) X.A X.xe use Q' (.ref s2.heap.objs.size) (s2.heap.objs.size + 1)) s4 :=
    codeAny_compStart_list loop (T.self X.A 0 s4 _ _ (T.keep _ _ _ st2 (fun b _ o e => keep4 b o e)) loop)
  rw [<- henv] at hst
  exact hst
theorem pe_comp (hcalm : X.calm = true) (hc : ZDQ X.N X.env.scope k js N' scope = true) (hi : PI X tg iter wi)
    (hg : ∀ C fp s2 H2, PG (ZCD X N' scope C fp s2 H2) tg g) (ht : ∀ C fp s2 H2, PIfs (ZCD X N' scope C fp s2 H2) ifs tt) (he : ∀ C fp s2 H2, PE (ZCD X N' scope C fp s2 H2) elt te)
    (hs : ∀ x, foldedSetIterable iter X.env x = pure x := by intro _; rfl) : PE X (.ListComp elt [⟨tg, iter, ifs, 0⟩] scope pos) (ZDc k js wi g tt te) := by
  intro pins s σ H Q I h
  rw [eval_ListComp]
  refine comp_core (use := none) hcalm (cmpOk hc) hi hg ht he I h (fun C D s' m H' ys hn _ _ _ _ _ _ _ E q => ?_) hs _
  exact ⟨m, hn, fun h' hsb => ⟨.ref D, _, E h' hsb, rfl, q⟩⟩
end
mutual
def Dp (K : W.Frag) (H : Hp) : PyData -> V -> Prop
  | .none, v => v = .non
  | .bool b, v => v = .bl b
  | .int i, v => v = .int i
  | .str x, v => v = .str x
  | .list ds, v => ∃ a xs, v = .ref a /\ SqL K H a xs /\ DpAll K H ds xs
  | .tuple ds, v => ∃ a xs, v = .ref a /\ SqT K H a xs /\ DpAll K H ds xs
  | .dict _, _ => False
def DpAll (K : W.Frag) (H : Hp) : List PyData -> List V -> Prop
  | [], vs => vs = []
  | d :: ds, vs => ∃ v r, vs = v :: r /\ Dp K H d v /\ DpAll K H ds r
end
theorem DpAll.nil {K : W.Frag} {H : Hp} : DpAll K H [] [] := by unfold DpAll; rfl
theorem DpAll.cons {K : W.Frag} {H : Hp} {d : PyData} {ds : List PyData} {v : V} {vs : List V} (a : Dp K H d v) (t : DpAll K H ds vs) : DpAll K H (d :: ds) (v :: vs) := by unfold DpAll; exact ⟨v, vs, rfl, a, t⟩
theorem DpAll.two {K : W.Frag} {H : Hp} {d e : PyData} {v u : V} (a : Dp K H d v) (b : Dp K H e u) : DpAll K H [d, e] [v, u] := .cons a (.cons b .nil)
theorem DpAll.ints {K : W.Frag} {H : Hp} : ∀ (ns : List Int), DpAll K H (ns.map PyData.int) (ns.map V.int)
  | [] => .nil
  | n :: r => .cons (by unfold Dp; rfl) (DpAll.ints r)
theorem dp_int {K : W.Frag} {H : Hp} (i : Int) : Dp K H (.int i) (.int i) := by unfold Dp; rfl
theorem ZEM {K : W.Frag} {H : Hp} {a : Addr} {xs : List V} {ds : List PyData} (h : SqL K H a xs) (t : DpAll K H ds xs) : Dp K H (.list ds) (.ref a) := by unfold Dp; exact ⟨a, xs, rfl, h, t⟩
theorem dp_tup {K : W.Frag} {H : Hp} {a : Addr} {xs : List V} {ds : List PyData} (h : SqT K H a xs) (t : DpAll K H ds xs) : Dp K H (.tuple ds) (.ref a) := by unfold Dp; exact ⟨a, xs, rfl, h, t⟩
section
variable {X : Cx} {pins : List (Addr × Obj)} {σ : St} {H : Hp} {s : Shared}
mutual
theorem Inv.reads (I : Inv X pins σ H s) : ∀ {d : PyData} {v : V} {u : Value}, Dp X.K H d v -> RelV v u -> ∃ as, Reads s.heap u d as
  | .none, _, _, h, r => by unfold Dp at h; subst h; cases (show _ = Value.none from r); exact ⟨_, .none⟩
  | .bool b, _, _, h, r => by unfold Dp at h; subst h; cases (show _ = Value.bool b from r); exact ⟨_, .bool b⟩
  | .int i, _, _, h, r => by unfold Dp at h; subst h; obtain ⟨t, q⟩ := (show ∃ t, _ = Value.int i t from r); subst q; exact ⟨_, .int i t⟩
  | .str x, _, _, h, r => by unfold Dp at h; subst h; obtain ⟨t, q⟩ := (show ∃ t, _ = Value.str x t from r); subst q; exact ⟨_, .str x t⟩
  | .list ds, _, _, h, r => by
    unfold Dp at h
    obtain ⟨a, xs, q, sq, t⟩ := h
    subst q
    cases (show _ = Value.ref a from r)
    obtain ⟨its, rv, pl, _⟩ := I.list sq
    obtain ⟨as, ra⟩ := Inv.readsAll I t rv
    obtain ⟨o, n, e1, e2, _, e3⟩ := pl
    exact ⟨_, .list e1 e2 e3 (by simpa using ra)⟩
  | .tuple ds, _, _, h, r => by
    unfold Dp at h
    obtain ⟨a, xs, q, sq, t⟩ := h
    subst q
    cases (show _ = Value.ref a from r)
    obtain ⟨its, rv, pl, _⟩ := I.tuple sq
    obtain ⟨as, ra⟩ := Inv.readsAll I t rv
    obtain ⟨o, e1, e2, n, e3⟩ := pl
    exact ⟨_, .tuple e1 e2 e3 (by simpa using ra)⟩
  | .dict _, _, _, h, _ => by unfold Dp at h; exact h.elim
theorem Inv.readsAll (I : Inv X pins σ H s) : ∀ {ds : List PyData} {vs : List V} {us : List Value}, DpAll X.K H ds vs -> Vals vs us -> ∃ as, ReadsAll s.heap us ds as
  | [], _, _, h, r => by unfold DpAll at h; subst h; cases r; exact ⟨_, .nil⟩
  | _ :: _, _, _, h, r => by
    unfold DpAll at h
    obtain ⟨v, q, e, a, t⟩ := h
    subst e
    cases r with
    | cons r1 r2 =>
      obtain ⟨as, h1⟩ := Inv.reads I a r1
      obtain ⟨bs, h2⟩ := Inv.readsAll I t r2
      exact ⟨_, .cons h1 h2⟩
end
def rEqD (K : W.Frag) : R2 := fun x y H Q => ∃ d e, Dp K H d x /\ Dp K H e y /\ d.canLay0 = true /\ e.canLay0 = true /\ d.depth <= 64 /\ Q (.bl (PyData.eqv d e)) H
def rNeD (K : W.Frag) : R2 := fun x y H Q => ∃ d e, Dp K H d x /\ Dp K H e y /\ d.canLay0 = true /\ e.canLay0 = true /\ d.depth <= 64 /\ Q (.bl (!PyData.eqv d e)) H
theorem op_eqD (hu : X.A.units + 64 < cLine) : OpR X (compareOp .Eq) (rEqD X.K) := by
  intro pins s σ H x y v u Q I rx ry h
  obtain ⟨d, e, h1, h2, c1, c2, dp, q⟩ := h
  obtain ⟨as, ra⟩ := I.reads h1 rx
  obtain ⟨bs, rb⟩ := I.reads h2 ry
  exact SeqAt.compareEq_reads ra rb c1 c2 (by omega) ⟨.bl _, H, I, rfl, q⟩
theorem ZDt (hu : X.A.units + 64 < cLine) : OpR X (compareOp .NotEq) (rNeD X.K) := by
  intro pins s σ H x y v u Q I rx ry h
  obtain ⟨d, e, h1, h2, c1, c2, dp, q⟩ := h
  obtain ⟨as, ra⟩ := I.reads h1 rx
  obtain ⟨bs, rb⟩ := I.reads h2 ry
  exact SeqAt.compareNe_reads ra rb c1 c2 (by omega) ⟨.bl _, H, I, rfl, q⟩
end
section
variable {X : Cx} {x : Str} {pos : Pos}
theorem ZBG {y : Int} (hg : Gl X x) (h : ∃ t, X.mg x = some (.int y t)) (hd : (x == ("__debug__" : Str)) = false := by decide) : PE X (.Name x pos) (tC (.int y)) := by
  obtain ⟨t, e⟩ := h
  exact pe_glob hg e ⟨t, rfl⟩ hd
end
structure Fn (P : Program) (w : World) (K : W.Frag) (mg : Str -> Option Value) (base : Heap) (CX : CXT) (x : Str) (k : Nat) (ps : List Str) (sp : Sp) : Prop where
  ex : ∃ f fd, FnOk P w K mg base CX k f fd ps sp /\ Binds K fd ps [] /\ W.keepIn K (.ref f) = true /\ mg x = some (.ref f)
structure Mt (P : Program) (w : World) (K : W.Frag) (mg : Str -> Option Value) (base : Heap) (CX : CXT) (C : Addr) (m : Str) (k : Nat) (ps : List Str) (sp : Sp) : Prop where
  cl : Cls K C
  ex : ∃ f fd, FnOk P w K mg base CX k f fd ps sp /\ Binds K fd ps [] /\ Meth K C m f
structure Kl (P : Program) (w : World) (K : W.Frag) (mg : Str -> Option Value) (base : Heap) (CX : CXT) (x : Str) (C : Addr) (k : Nat) (ps : List Str) (sp : Sp) : Prop where
  mgC : mg x = some (.ref C)
  ex : ∃ f fd, FnOk P w K mg base CX k f fd ps sp /\ Binds K fd ps [] /\ Mk K C f
section
variable {X : Cx} {CX : CXT} {k : Nat} {ps : List Str} {sp : Sp} {E : XK} {x m : Str} {C : Addr} {p pos apos : Pos} {e o : Expr} {es : List Expr} {ta : TE} {t : TA}
theorem ZBH (F : Fn X.prog X.w X.K X.mg X.base CX x k ps sp) (hr : Room k X.A) (hg : Gl X x) (hx : ZBr CX X E) (ha : PA X (e :: es) t) (hdb : (x == ("__debug__" : Str)) = false := by decide) (he : starEach (e :: es) X.env = (false, eval e X.env) :: starEach es X.env := by rfl) (hpl : (backTo pos (starEach es X.env)).any (·.1) = false := by rfl) :
    PE X (.Call (.Name x p) (e :: es) [] pos) (ZEP sp [] E t) := by
  obtain ⟨f, fd, h1, h2, h3, h4⟩ := F.ex
  exact pe_call h1 hr hg h4 h3 h2 .nil hx ha hdb he hpl
theorem ZBN {pl : Sem Bool} (F : Mt X.prog X.w X.K X.mg X.base CX C m k ps sp) (hr : Room k X.A) (hx : ZBr CX X E) (he : PE X o ta) (ha : PA X (e :: es) t)
    (hst : starEach (e :: es) X.env = (false, eval e X.env) :: starEach es X.env := by rfl) (hpl : (backTo pos (starEach es X.env)).any (·.1) = false := by rfl)
    (ht : eval (.Call (.Attribute o m apos) (e :: es) [] pos) X.env = (do
      let ov <- eval o X.env
      standAt apos.atName
      let (f, first) <- holding [ov] (getMethod ov m pl)
      callWith pos f first (backTo pos (starEach (e :: es) X.env)) (backToKw pos (keywordEach [] X.env))) := by rfl) :
    PE X (.Call (.Attribute o m apos) (e :: es) [] pos) (ZD0 C m sp [] E ta t) := by
  obtain ⟨f, fd, h1, h2, h3⟩ := F.ex
  exact pe_meth he F.cl h3 h1 hr h2 .nil hx ha hst hpl ht
theorem ZCB {pl : Sem Bool} (F : Mt X.prog X.w X.K X.mg X.base CX C m k ps sp) (hr : Room k X.A) (hx : ZBr CX X E) (he : PE X o ta)
    (ht : eval (.Call (.Attribute o m apos) [] [] pos) X.env = (do
      let ov <- eval o X.env
      standAt apos.atName
      let (f, first) <- holding [ov] (getMethod ov m pl)
      callWith pos f first (backTo pos (starEach [] X.env)) (backToKw pos (keywordEach [] X.env))) := by rfl) :
    PE X (.Call (.Attribute o m apos) [] [] pos) (ZD0 C m sp [] E ta tNil) := by
  obtain ⟨f, fd, h1, h2, h3⟩ := F.ex
  exact pe_meth0 he F.cl h3 h1 hr h2 .nil hx ht
theorem ZET (F : Kl X.prog X.w X.K X.mg X.base CX x C k ps sp) (hr : Room (k + 1) X.A) (hg : Gl X x) (hx : ZBr CX X E) (ha : PA X (e :: es) t) (hdb : (x == ("__debug__" : Str)) = false := by decide) (he : starEach (e :: es) X.env = (false, eval e X.env) :: starEach es X.env := by rfl) (hpl : (backTo pos (starEach es X.env)).any (·.1) = false := by rfl) :
    PE X (.Call (.Name x p) (e :: es) [] pos) (ZD6 C sp [] E t) := by
  obtain ⟨f, fd, h1, h2, h3⟩ := F.ex
  exact pe_make h3 h1 hr hg F.mgC h2 .nil hx ha hdb he hpl
end
section
variable {X : Cx}
end
theorem ZAh {v : V} {σ : St} {H : Hp} {Q : VK} : tVar 0 (some v :: σ) H Q = Q v H := by
  apply propext; unfold tVar; simp
theorem ZAn {i : Nat} {a : Option V} {σ : St} {H : Hp} {Q : VK} : tVar (i + 1) (a :: σ) H Q = tVar i σ H Q := by
  apply propext; unfold tVar; simp
theorem rI0_int {g : Int -> Int -> V} {i j : Int} {H : Hp} {Q : VK} : rI0 g (.int i) (.int j) H Q = Q (g i j) H := by
  apply propext; unfold rI0; simp
theorem rI_int {C : Int -> Int -> Prop} {g : Int -> Int -> V} {i j : Int} {H : Hp} {Q : VK} : rI C g (.int i) (.int j) H Q = (C i j /\ Q (g i j) H) := by
  apply propext; unfold rI; simp
theorem rU_int {g : Int -> V} {i : Int} {H : Hp} {Q : VK} : rU g (.int i) H Q = Q (g i) H := by
  apply propext; unfold rU; simp
theorem rEq_int {i j : Int} {H : Hp} {Q : VK} : rEq (.int i) (.int j) H Q = Q (.bl (decide (i = j))) H := by
  apply propext; unfold rEq; simp [scal]
theorem rNe_int {i j : Int} {H : Hp} {Q : VK} : rNe (.int i) (.int j) H Q = Q (.bl (!decide (i = j))) H := by
  apply propext; unfold rNe; simp [scal]
theorem rEq_bl {i j : Bool} {H : Hp} {Q : VK} : rEq (.bl i) (.bl j) H Q = Q (.bl (decide (i = j))) H := by
  apply propext; unfold rEq; simp [scal]
theorem rNe_bl {i j : Bool} {H : Hp} {Q : VK} : rNe (.bl i) (.bl j) H Q = Q (.bl (!decide (i = j))) H := by
  apply propext; unfold rNe; simp [scal]
theorem rEq_str {i j : Str} {H : Hp} {Q : VK} : rEq (.str i) (.str j) H Q = Q (.bl (decide (i = j))) H := by
  apply propext; unfold rEq; simp [scal]
theorem rNe_str {i j : Str} {H : Hp} {Q : VK} : rNe (.str i) (.str j) H Q = Q (.bl (!decide (i = j))) H := by
  apply propext; unfold rNe; simp [scal]
theorem ex_bl {c : Bool} {Q : Bool -> Prop} : (∃ k, V.bl c = V.bl k /\ Q k) = Q c := by
  apply propext; simp
theorem ex_int {c : Int} {Q : Int -> Prop} : (∃ k, V.int c = V.int k /\ Q k) = Q c := by
  apply propext; simp
theorem ZAe {n : Nat} (h : n <= 1000) : n <= sizeLine := yBI (ZBS h)
theorem ZAS {H : Hp} {p : Addr} (h : H p = none) (o : HO) : Same H (upd H p o) := fun b u q => by rw [ZAH (ZAD q h)]; exact q
def getF (K : W.Frag) (f : Str) (x : V) (H : Hp) (Q : VK) : Prop := ∃ a C dx fs v, x = .ref a /\ H a = some (.ins C dx fs) /\ Cls K C /\ NoAttr K C f /\ fs.lookup f = some v /\ Q v H
theorem tFld_eq {K : W.Frag} {ta : TE} {f : Str} {σ : St} {H : Hp} {Q : VK} : tFld K ta f σ H Q = ta σ H (fun x H1 => getF K f x H1 Q) := rfl
theorem getF_of {K : W.Frag} {f : Str} {a C dx : Addr} {fs : List (Str × V)} {v : V} {H : Hp} {Q : VK} (h : H a = some (.ins C dx fs)) (cl : Cls K C) (n : NoAttr K C f) (l : fs.lookup f = some v) (q : Q v H) : getF K f (.ref a) H Q := ⟨a, C, dx, fs, v, rfl, h, cl, n, l, q⟩
def setF (K : W.Frag) (f : Str) (x y : V) (H : Hp) (Q : Hp -> Prop) : Prop := ∃ a C dx fs, x = .ref a /\ H a = some (.ins C dx fs) /\ Cls K C /\ NoAttr K C f /\ fs.length < 1000 /\ Q (upd H a (.ins C dx (putF f y fs)))
theorem sFld_eq {K : W.Frag} {ta tv : TE} {f : Str} {D : Ends} {σ : St} {H : Hp} : sFld K ta tv f D σ H = tv σ H (fun y H1 => ta σ H1 fun x H2 => setF K f x y H2 (D.nx σ)) := rfl
theorem setF_of {K : W.Frag} {f : Str} {a C dx : Addr} {fs : List (Str × V)} {y : V} {H : Hp} {Q : Hp -> Prop} (h : H a = some (.ins C dx fs)) (cl : Cls K C) (n : NoAttr K C f) (l : fs.length < 1000) (q : Q (upd H a (.ins C dx (putF f y fs)))) : setF K f (.ref a) y H Q := ⟨a, C, dx, fs, rfl, h, cl, n, l, q⟩
theorem ZA0 {K : W.Frag} {p : Addr} {xs : List V} {i : Int} {v : V} {H : Hp} {Q : VK} (h : SqL K H p xs) (e : atI xs i = some v) (q : Q v H) : rIxL K (.ref p) (.int i) H Q := ⟨p, xs, i, v, rfl, rfl, h, e, q⟩
theorem ZAk {K : W.Frag} {p : Addr} {xs : List V} {i : Int} {v : V} {H : Hp} {Q : VK} (h : SqT K H p xs) (e : atI xs i = some v) (q : Q v H) : rIxT K (.ref p) (.int i) H Q := ⟨p, xs, i, v, rfl, rfl, h, e, q⟩
theorem ZAW {α : Type} {xs : List α} {i : Int} {v : α} (h0 : 0 <= i) (h : xs[i.toNat]? = some v) : atI xs i = some v := by
  have q := atI_nat h
  rwa [Int.toNat_of_nonneg h0] at q
theorem atI_ints {xs : List Int} {i : Int} {v : Int} (h0 : 0 <= i) (h : xs[i.toNat]? = some v) : atI (xs.map V.int) i = some (.int v) := ZAW h0 (by rw [yAY, h]; rfl)
def Nxt (P : Nat -> List V -> St -> Hp -> Prop) (n i : Nat) (ys : List V) (σ : St) (H : Hp) : Prop := ∃ m', m' < n - i /\ m' = n - (i + 1) /\ i + 1 <= n /\ P (i + 1) ys σ H
theorem Nxt.of {P : Nat -> List V -> St -> Hp -> Prop} {n i : Nat} {ys : List V} {σ : St} {H : Hp} (h : i < n) (p : P (i + 1) ys σ H) : Nxt P n i ys σ H := ⟨n - (i + 1), by omega, rfl, h, p⟩
theorem comp_list {K : W.Frag} {a : Addr} {xs : List V} {g : TG} {tt : TT} {te : TE} {Q : VK} {σ0 : St} {H : Hp} (P : Nat -> List V -> St -> Hp -> Prop) (h0 : P 0 [] σ0 H) (hl : ∀ i ys σ H, i <= xs.length -> P i ys σ H -> SqL K H a xs /\ ys.length <= i) (hz : xs.length <= sizeLine)
    (hs : ∀ i ys x σ H, i < xs.length -> xs[i]? = some x -> P i ys σ H -> g x σ H fun σ2 H2 => tt σ2 H2 fun b H3 => if b = true then te σ2 H3 fun y H4 => Nxt P xs.length i (ys ++ [y]) σ2 H4 else Nxt P xs.length i ys σ2 H3)
    (hd : ∀ ys σ H, P xs.length ys σ H -> ∀ p, H p = none -> Q (.ref p) (upd H p (.lst ys))) :
    ∃ W : Nat -> Nat -> List V -> St -> Hp -> Prop, (∃ m, W 0 m [] σ0 H) /\ ∀ i m ys σ H, W i m ys σ H ->
      ((Itl K a).stop i H /\ ys.length <= sizeLine /\ ∀ p, H p = none -> Q (.ref p) (upd H p (.lst ys))) ∨
      ((Itl K a).go i H /\ ys.length < sizeLine /\ ∀ x H', (Itl K a).yld i H x H' -> g x σ H' fun σ2 H2 => tt σ2 H2 fun b H3 => if b = true then te σ2 H3 fun y H4 => ∃ m', m' < m /\ W (i + 1) m' (ys ++ [y]) σ2 H4 else ∃ m', m' < m /\ W (i + 1) m' ys σ2 H3) := by
  refine ⟨fun i m ys σ H => m = xs.length - i /\ i <= xs.length /\ P i ys σ H, ⟨xs.length, by simp, yAG _, h0⟩, ?_⟩
  rintro i m ys σ H ⟨rfl, hi, p⟩
  obtain ⟨q, ly⟩ := hl i ys σ H hi p
  by_cases hlt : i < xs.length
  . refine .inr ⟨⟨xs, xs[i], q, by simp [hlt]⟩, by omega, fun x H' y => ?_⟩
    obtain ⟨e, y⟩ := y
    subst e
    exact hs i ys x σ _ hlt (y xs q) p
  . have e : i = xs.length := by omega
    subst e
    exact .inl ⟨⟨xs, q, yAB _⟩, by omega, hd ys σ H p⟩
theorem comp_range {lo : Int} {n : Nat} {g : TG} {tt : TT} {te : TE} {Q : VK} {σ0 : St} {H : Hp} (P : Nat -> List V -> St -> Hp -> Prop) (h0 : P 0 [] σ0 H) (hl : ∀ i ys σ H, P i ys σ H -> ys.length <= i) (hz : n <= sizeLine)
    (hs : ∀ i ys σ H, i < n -> P i ys σ H -> g (.int (lo + i)) σ H fun σ2 H2 => tt σ2 H2 fun b H3 => if b = true then te σ2 H3 fun y H4 => Nxt P n i (ys ++ [y]) σ2 H4 else Nxt P n i ys σ2 H3)
    (hd : ∀ ys σ H, P n ys σ H -> ∀ p, H p = none -> Q (.ref p) (upd H p (.lst ys))) :
    ∃ W : Nat -> Nat -> List V -> St -> Hp -> Prop, (∃ m, W 0 m [] σ0 H) /\ ∀ i m ys σ H, W i m ys σ H ->
      ((Itr lo n).stop i H /\ ys.length <= sizeLine /\ ∀ p, H p = none -> Q (.ref p) (upd H p (.lst ys))) ∨
      ((Itr lo n).go i H /\ ys.length < sizeLine /\ ∀ x H', (Itr lo n).yld i H x H' -> g x σ H' fun σ2 H2 => tt σ2 H2 fun b H3 => if b = true then te σ2 H3 fun y H4 => ∃ m', m' < m /\ W (i + 1) m' (ys ++ [y]) σ2 H4 else ∃ m', m' < m /\ W (i + 1) m' ys σ2 H3) := by
  refine ⟨fun i m ys σ H => m = n - i /\ i <= n /\ P i ys σ H, ⟨n, by simp, yAG _, h0⟩, ?_⟩
  rintro i m ys σ H ⟨rfl, hi, p⟩
  have ly := hl i ys σ H p
  by_cases hlt : i < n
  . refine .inr ⟨hlt, by omega, fun x H' y => ?_⟩
    obtain ⟨e, y⟩ := y
    subst e y
    exact hs i ys σ _ hlt p
  . have e : i = n := by omega
    subst e
    exact .inl ⟨yAB _, by omega, hd ys σ H p⟩
theorem Same.upd {H H' : Hp} {p : Addr} {o : HO} (e : Same H H') (h : H p = none) : Same H (upd H' p o) := fun b u q => by rw [ZAH (ZAD q h)]; exact e b u q
theorem Same.new {H H' : Hp} {p : Addr} {o : HO} (e : Same H H') (h : H' p = none) : Same H (L2.upd H' p o) := e.upd (e.free h)
theorem ZCV (ns : List Int) (lo hi : Option Int) : cutV (ns.map V.int) lo hi = (((ns.drop (HT.sIx ns.length 0 lo)).take (HT.sIx ns.length ns.length hi - HT.sIx ns.length 0 lo)).map V.int) := by
  unfold cutV
  rw [yAD, yCD, yCE]
theorem get_ints {ns : List Int} {i : Nat} {x : V} (h : (ns.map V.int)[i]? = some x) : ∃ n, ns[i]? = some n /\ x = .int n := by
  rw [yAY] at h
  cases e : ns[i]? with
  | none => rw [e] at h; cases h
  | some n => rw [e] at h; exact ⟨n, rfl, (Option.some.inj h).symm⟩
theorem ixN_of {n : Nat} {i : Int} (h0 : 0 <= i) (h : i < n) : ixN n i = some i.toNat := by unfold ixN; rw [if_pos h0, if_pos h]
theorem ZCe {K : W.Frag} {a : Addr} {xs : List V} {lo hi : Option Int} {H : Hp} {Q : VK} (h : SqL K H a xs) (q : ∀ p, H p = none -> Q (.ref p) (upd H p (.lst (cutV xs lo hi)))) : rSlL K (.ref a) lo hi H Q := ⟨a, xs, rfl, h, q⟩
def forL (K : W.Frag) (g : TG) (tb : TS) (D : Ends) (σ : St) (x : V) (H1 : Hp) : Prop := ∃ a, x = .ref a /\ (∃ xs, SqL K H1 a xs) /\ ∃ W : Nat -> Nat -> St -> Hp -> Prop, (∃ m, W 0 m σ H1) /\ ∀ i m σ H, W i m σ H ->
  ((Itl K a).stop i H /\ D.nx σ H) ∨ ((Itl K a).go i H /\ ∃ N : St -> Hp -> Prop, (∀ σ' H', N σ' H' -> ∃ m', m' < m /\ W (i + 1) m' σ' H') /\ ∀ x H', (Itl K a).yld i H x H' -> g x σ H' fun σ2 H2 => tb { D with nx := N, ct := N, bk := D.nx } σ2 H2)
theorem tForL_eq {K : W.Frag} {tl : TE} {g : TG} {tb : TS} {D : Ends} {σ : St} {H : Hp} : tFor (ZEo K tl) g tb D σ H = tl σ H (fun x H1 => forL K g tb D σ x H1) := rfl
theorem forL_of {K : W.Frag} {g : TG} {tb : TS} {D : Ends} {σ : St} {H : Hp} {a : Addr} {xs : List V} (h : SqL K H a xs) (Pv : Nat -> St -> Hp -> Prop) (h0 : Pv 0 σ H) (hl : ∀ i σ H, i <= xs.length -> Pv i σ H -> SqL K H a xs)
    (hs : ∀ i x σ H, xs[i]? = some x -> Pv i σ H -> g x σ H fun σ2 H2 => tb { D with nx := Pv (i + 1), ct := Pv (i + 1), bk := D.nx } σ2 H2) (hd : ∀ σ H, Pv xs.length σ H -> D.nx σ H) : forL K g tb D σ (.ref a) H :=
  ⟨a, rfl, ⟨xs, h⟩, for_list Pv h0 hl hs hd⟩
def forR (lo : Int) (g : TG) (tb : TS) (D : Ends) (σ : St) (n : Nat) (H1 : Hp) : Prop := ∃ W : Nat -> Nat -> St -> Hp -> Prop, (∃ m, W 0 m σ H1) /\ ∀ i m σ H, W i m σ H ->
  ((Itr lo n).stop i H /\ D.nx σ H) ∨ ((Itr lo n).go i H /\ ∃ N : St -> Hp -> Prop, (∀ σ' H', N σ' H' -> ∃ m', m' < m /\ W (i + 1) m' σ' H') /\ ∀ x H', (Itr lo n).yld i H x H' -> g x σ H' fun σ2 H2 => tb { D with nx := N, ct := N, bk := D.nx } σ2 H2)
def forR1 (g : TG) (tb : TS) (D : Ends) (σ : St) (x : V) (H1 : Hp) : Prop := ∃ j : Int, [x] = [.int j] /\ -(2 ^ 62) <= j /\ j < 2 ^ 62 /\ forR 0 g tb D σ j.toNat H1
def forR2 (g : TG) (tb : TS) (D : Ends) (σ : St) (x y : V) (H1 : Hp) : Prop := ∃ i j : Int, [x, y] = [.int i, .int j] /\ (-(2 ^ 62) <= i /\ i < 2 ^ 62 /\ -(2 ^ 62) <= j /\ j < 2 ^ 62) /\ forR i g tb D σ (j - i).toNat H1
theorem tForR1_eq {t : TE} {g : TG} {tb : TS} {D : Ends} {σ : St} {H : Hp} : tFor (ZEn (ZB8 t tNil)) g tb D σ H = t σ H (fun x H1 => forR1 g tb D σ x H1) := rfl
theorem tForR2_eq {t u : TE} {g : TG} {tb : TS} {D : Ends} {σ : St} {H : Hp} : tFor (ZEm (ZB8 t (ZB8 u tNil))) g tb D σ H = t σ H (fun x H1 => u σ H1 fun y H2 => forR2 g tb D σ x y H2) := rfl
theorem forR_of {lo : Int} {n : Nat} {g : TG} {tb : TS} {D : Ends} {σ : St} {H : Hp} (Pv : Nat -> St -> Hp -> Prop) (h0 : Pv 0 σ H)
    (hs : ∀ i σ H, i < n -> Pv i σ H -> g (.int (lo + i)) σ H fun σ2 H2 => tb { D with nx := Pv (i + 1), ct := Pv (i + 1), bk := D.nx } σ2 H2) (hd : ∀ σ H, Pv n σ H -> D.nx σ H) : forR lo g tb D σ n H := for_range Pv h0 hs hd
theorem forR1_of {j : Int} {g : TG} {tb : TS} {D : Ends} {σ : St} {H : Hp} (h : -1000 <= j /\ j <= 1000) (q : forR 0 g tb D σ j.toNat H) : forR1 g tb D σ (.int j) H := ⟨j, rfl, by omega, by omega, q⟩
theorem forR2_of {i j : Int} {g : TG} {tb : TS} {D : Ends} {σ : St} {H : Hp} (h : -1000 <= i /\ i <= 1000 /\ -1000 <= j /\ j <= 1000) (q : forR i g tb D σ (j - i).toNat H) : forR2 g tb D σ (.int i) (.int j) H := ⟨i, j, rfl, by omega, q⟩
def compL (K : W.Frag) (g : TG) (tt : TT) (te : TE) (σ0 : St) (Q : VK) (x : V) (H1 : Hp) : Prop := ∃ a, x = .ref a /\ (∃ xs, SqL K H1 a xs) /\ ∃ W : Nat -> Nat -> List V -> St -> Hp -> Prop, (∃ m, W 0 m [] σ0 H1) /\ ∀ i m ys σ H, W i m ys σ H ->
  ((Itl K a).stop i H /\ ys.length <= sizeLine /\ ∀ p, H p = none -> Q (.ref p) (upd H p (.lst ys))) ∨
  ((Itl K a).go i H /\ ys.length < sizeLine /\ ∀ x H', (Itl K a).yld i H x H' -> g x σ H' fun σ2 H2 => tt σ2 H2 fun b H3 => if b = true then te σ2 H3 fun y H4 => ∃ m', m' < m /\ W (i + 1) m' (ys ++ [y]) σ2 H4 else ∃ m', m' < m /\ W (i + 1) m' ys σ2 H3)
theorem tCompL_eq {k : Nat} {js : List Nat} {K : W.Frag} {tl : TE} {g : TG} {tt : TT} {te : TE} {σ : St} {H : Hp} {Q : VK} : ZDc k js (ZEo K tl) g tt te σ H Q = tl σ H (fun x H1 => compL K g tt te (up k js σ) Q x H1) := rfl
theorem compL_of {K : W.Frag} {a : Addr} {xs : List V} {g : TG} {tt : TT} {te : TE} {Q : VK} {σ0 : St} {H : Hp} (h : SqL K H a xs) (hz : xs.length <= 1000) (P : Nat -> List V -> St -> Hp -> Prop) (h0 : P 0 [] σ0 H) (hl : ∀ i ys σ H, i <= xs.length -> P i ys σ H -> SqL K H a xs /\ ys.length <= i)
    (hs : ∀ i ys x σ H, i < xs.length -> xs[i]? = some x -> P i ys σ H -> g x σ H fun σ2 H2 => tt σ2 H2 fun b H3 => if b = true then te σ2 H3 fun y H4 => Nxt P xs.length i (ys ++ [y]) σ2 H4 else Nxt P xs.length i ys σ2 H3)
    (hd : ∀ ys σ H, P xs.length ys σ H -> ∀ p, H p = none -> Q (.ref p) (upd H p (.lst ys))) : compL K g tt te σ0 Q (.ref a) H := ⟨a, rfl, ⟨xs, h⟩, comp_list P h0 hl (ZAe hz) hs hd⟩
def compR (lo : Int) (g : TG) (tt : TT) (te : TE) (σ0 : St) (Q : VK) (n : Nat) (H1 : Hp) : Prop := ∃ W : Nat -> Nat -> List V -> St -> Hp -> Prop, (∃ m, W 0 m [] σ0 H1) /\ ∀ i m ys σ H, W i m ys σ H ->
  ((Itr lo n).stop i H /\ ys.length <= sizeLine /\ ∀ p, H p = none -> Q (.ref p) (upd H p (.lst ys))) ∨
  ((Itr lo n).go i H /\ ys.length < sizeLine /\ ∀ x H', (Itr lo n).yld i H x H' -> g x σ H' fun σ2 H2 => tt σ2 H2 fun b H3 => if b = true then te σ2 H3 fun y H4 => ∃ m', m' < m /\ W (i + 1) m' (ys ++ [y]) σ2 H4 else ∃ m', m' < m /\ W (i + 1) m' ys σ2 H3)
def compR1 (g : TG) (tt : TT) (te : TE) (σ0 : St) (Q : VK) (x : V) (H1 : Hp) : Prop := ∃ j : Int, [x] = [.int j] /\ -(2 ^ 62) <= j /\ j < 2 ^ 62 /\ compR 0 g tt te σ0 Q j.toNat H1
theorem tCompR1_eq {k : Nat} {js : List Nat} {t : TE} {g : TG} {tt : TT} {te : TE} {σ : St} {H : Hp} {Q : VK} : ZDc k js (ZEn (ZB8 t tNil)) g tt te σ H Q = t σ H (fun x H1 => compR1 g tt te (up k js σ) Q x H1) := rfl
theorem compR1_of {j : Int} {g : TG} {tt : TT} {te : TE} {Q : VK} {σ0 : St} {H : Hp} (h : -1000 <= j /\ j <= 1000) (P : Nat -> List V -> St -> Hp -> Prop) (h0 : P 0 [] σ0 H) (hl : ∀ i ys σ H, P i ys σ H -> ys.length <= i)
    (hs : ∀ i ys σ H, i < j.toNat -> P i ys σ H -> g (.int (0 + i)) σ H fun σ2 H2 => tt σ2 H2 fun b H3 => if b = true then te σ2 H3 fun y H4 => Nxt P j.toNat i (ys ++ [y]) σ2 H4 else Nxt P j.toNat i ys σ2 H3)
    (hd : ∀ ys σ H, P j.toNat ys σ H -> ∀ p, H p = none -> Q (.ref p) (upd H p (.lst ys))) : compR1 g tt te σ0 Q (.int j) H := ⟨j, rfl, by omega, by omega, comp_range P h0 hl (ZAe (by omega)) hs hd⟩
def CDivB (i j : Int) : Prop := 0 < j /\ j < 2 ^ 250
section
variable {X : Cx}
theorem ZCj : OpR X (binaryOp .FloorDiv) (rI CDivB fun i j => .int (i / j)) := opI fun i j _ _ _ _ _ hc q => by
  have h1 : (0 : Int) < j := hc.1
  have h2 : j < 2 ^ 250 := hc.2
  have h3 : j.natAbs < 2 ^ 250 := by
    have e : (j.natAbs : Int) = j := Int.natAbs_of_nonneg (by omega)
    have e2 : ((2 ^ 250 : Nat) : Int) = 2 ^ 250 := by rfl
    omega
  have h4 : j.natAbs.log2 < 250 := (Nat.log2_lt (by omega)).mpr h3
  exact floordiv_int (by omega) (by rw [Int.fdiv_eq_ediv_of_nonneg i (by omega)]; exact q) (.inl (PyProof.noPylong_of_log2 (by omega)))
end
theorem gCons_eq {t : TG} {u : TGs} {v : V} {r : List V} {σ : St} {H : Hp} {Q : St -> Hp -> Prop} : gCons t u (v :: r) σ H Q = t v σ H (fun σ' H' => u r σ' H' Q) := by
  apply propext; unfold gCons; constructor
  . rintro ⟨v', r', e, q⟩; cases e; exact q
  . exact fun q => ⟨v, r, rfl, q⟩
theorem gNil_eq {σ : St} {H : Hp} {Q : St -> Hp -> Prop} : gNil [] σ H Q = Q σ H := by
  apply propext; unfold gNil; simp
section
variable {X : Cx} {tg l e o : Expr} {es : List Expr} {tl te to : TE} {t : TA} {pos apos cpos : Pos} {f : Str}
theorem ix_listK (K : W.Frag) (h : X.K = K := by rfl) : IxR X (rIxL K) := h ▸ ZAg
end
section
variable {X : Cx}
theorem tAug_eq {i : Nat} {te : TE} {ti : TIp} {D : Ends} {σ : St} {H : Hp} : tAug i te ti D σ H = tVar i σ H (fun x H0 => te σ H0 fun y H1 => ti x y H1 fun z H2 => D.nx (σ.set i (some z)) H2) := rfl
theorem ipI_int {f : Int -> Int -> Int} {i j : Int} {H : Hp} {Q : VK} : ipI f (.int i) (.int j) H Q = Q (.int (f i j)) H := by
  refine propext ⟨?_, fun q => ⟨i, j, rfl, rfl, q⟩⟩
  rintro ⟨a, b, e1, e2, q⟩
  cases e1; cases e2; exact q
theorem cx_K {CX : CXT} {P : Program} {w : World} {K : W.Frag} {mg : Str -> Option Value} {base : Heap} {N : List Str} {qual : Str} {scope : Scope} {f : Addr} {cd : Value} {A : Around} {outer : List Env} {s : Shared} {H : Hp} {E : XK} : (cxOf CX P w K mg base N qual scope f cd A outer s H E).K = K := rfl
def wBody (W : Nat -> St -> Hp -> Prop) (m : Nat) (tb : TS) (D : Ends) (σ : St) (H1 : Hp) : Prop := ∃ N : St -> Hp -> Prop, (∀ σ' H', N σ' H' -> ∃ m', m' < m /\ W m' σ' H') /\ tb { D with nx := N, ct := N, bk := D.nx } σ H1
theorem ZBV {W : Nat -> St -> Hp -> Prop} {m : Nat} {tb : TS} {D : Ends} {σ : St} {H1 : Hp} (h : tb { D with nx := fun σ' H' => ∃ m', m' < m /\ W m' σ' H', ct := fun σ' H' => ∃ m', m' < m /\ W m' σ' H', bk := D.nx } σ H1) : wBody W m tb D σ H1 := ⟨_, fun _ _ q => q, h⟩
theorem ZBU {c : TT} {tb : TS} {D : Ends} {σ : St} {H : Hp} (W : Nat -> St -> Hp -> Prop) (h0 : ∃ m, W m σ H) (hs : ∀ m σ H, W m σ H -> c σ H fun b H1 => if b = true then wBody W m tb D σ H1 else D.nx σ H1) : tWhile c tb D σ H := ⟨W, h0, hs⟩
def insV (xs : List V) (i : Int) (y : V) : List V := let k := if i < 0 then (i + (xs.length : Int)).toNat else min i.toNat xs.length; xs.take k ++ y :: xs.drop k
def rInsert : V -> List V -> Hp -> VK -> Prop := fun x vs H Q => ∃ l xs i y, x = .ref l /\ vs = [.int i, y] /\ H l = some (.lst xs) /\ xs.length < sizeLine /\ (-(2 ^ 62) <= i /\ i < 2 ^ 62) /\ Q .non (upd H l (.lst (insV xs i y)))
theorem ins_arr (its : List Value) (k : Nat) (u : Value) (hk : k <= its.length) : (its.toArray.extract 0 k).push u ++ its.toArray.extract k = (its.take k ++ u :: its.drop k).toArray := by
  apply Array.ext'
  simp
  exact yCF (by rw [yAU]; exact yAB _)
theorem insV_length (xs : List V) (i : Int) (y : V) : (insV xs i y).length = xs.length + 1 := by
  unfold insV
  dsimp only
  rw [yAA, yAI, yAL, yAU]
  omega
theorem Vals.ins {xs : List V} {us : List Value} {y : V} {u : Value} (r : Vals xs us) (q : RelV y u) (k : Nat) : Vals (xs.take k ++ y :: xs.drop k) (us.take k ++ u :: us.drop k) := (r.take k).append (.cons q (r.drop k))
theorem mt_insert : MtM X "list.insert" rInsert := by
  intro pins s σ H x vs v us Q I rx rv h
  obtain ⟨l, xs, i, y, rfl, rfl, hH, hz, hi, q⟩ := h
  cases rx
  obtain ⟨u, u2, rfl, ru, ru2⟩ := rv.two
  obtain ⟨t, rfl⟩ := ru
  obtain ⟨z, its, n, r, hl, e⟩ := I.lstM hH
  have hc0 : ¬(!Builtin.List.listFitsIndex i) = true := by
    unfold Builtin.List.listFitsIndex
    have : (decide (-(2 ^ 63 : Int) <= i) && decide (i < 2 ^ 63)) = true := by
      rw [Bool.and_eq_true]; exact ⟨decide_eq_true (by omega), decide_eq_true (by omega)⟩
    simpa using this
  refine call_meets F.slot_list_insert ⟨_, e, rfl⟩ F.entry_list_insert (F.args_list_insert_3 _ _ _) (PySem.AutoListH.list_insert_list_int_val_1 l its.toArray n i t u2 hc0 (by rw [yAM]; omega)) ⟨e, ?_⟩
  have hk : (if i < 0 then (i + (its.length : Int)).toNat else min i.toNat its.length) <= its.length := by split <;> omega
  refine ⟨.non, _, I.lset (its' := its.take (if i < 0 then (i + (its.length : Int)).toNat else min i.toNat its.length) ++ u2 :: its.drop (if i < 0 then (i + (its.length : Int)).toNat else min i.toNat its.length)) hH e ?_ (ys := insV xs i y) ?_ ?_, rfl, q⟩
  . show (its.toArray.extract 0 _).push u2 ++ its.toArray.extract _ = _
    rw [yAM]
    exact ins_arr its _ u2 hk
  . unfold insV
    rw [hl]
    exact r.ins ru2 _
  . rw [insV_length]; omega
end
structure Enc {α : Type} [DecidableEq α] (e : α -> PyData) (n : Nat) : Prop where
  eq : ∀ a b, PyData.eqv (e a) (e b) = decide (a = b)
  lay : ∀ a, (e a).canLay0 = true
  dep : ∀ a, (e a).depth <= n
theorem Enc.int : Enc PyData.int 0 := ⟨fun a b => by unfold PyData.eqv; rw [Bool.eq_iff_iff]; simp, fun a => by unfold PyData.canLay0; rfl, fun a => by unfold PyData.depth; exact yAB _⟩
section
variable {α β γ : Type} [DecidableEq α] [DecidableEq β] [DecidableEq γ] {e : α -> PyData} {f : β -> PyData} {g : γ -> PyData} {n m k : Nat}
theorem Enc.all (h : Enc e n) : ∀ xs ys : List α, PyData.eqvAll (xs.map e) (ys.map e) = decide (xs = ys)
  | [], [] => by simp [PyData.eqvAll]
  | x :: xs, [] => by simp [PyData.eqvAll]
  | [], y :: ys => by simp [PyData.eqvAll]
  | x :: xs, y :: ys => by
    rw [yAZ, yAZ]
    unfold PyData.eqvAll
    rw [h.eq, h.all xs ys, <- Bool.decide_and]
    exact decide_eq_decide.mpr (by rw [List.cons.injEq])
theorem Enc.layAll (h : Enc e n) : ∀ xs : List α, PyData.canLayAll0 (xs.map e) = true
  | [] => by simp [PyData.canLayAll0]
  | x :: xs => by rw [yAZ]; unfold PyData.canLayAll0; rw [h.lay, h.layAll xs]; rfl
theorem Enc.depAll (h : Enc e n) : ∀ xs : List α, PyData.depthAll (xs.map e) <= n
  | [] => by simp [PyData.depthAll]
  | x :: xs => by
    rw [yAZ]; unfold PyData.depthAll
    have a := h.dep x
    have b := h.depAll xs
    omega
theorem Enc.list (h : Enc e n) : Enc (fun xs : List α => PyData.list (xs.map e)) (n + 1) :=
  ⟨fun a b => by unfold PyData.eqv; exact h.all a b, fun a => by unfold PyData.canLay0; exact h.layAll a, fun a => by unfold PyData.depth; have := h.depAll a; omega⟩
theorem eqD_of {K : W.Frag} {H : Hp} {x y : V} {a b : α} {Q : VK} (h : Enc e n) (hn : n <= 64) (dx : Dp K H (e a) x) (dy : Dp K H (e b) y) (q : Q (.bl (decide (a = b))) H) : rEqD K x y H Q :=
  ⟨_, _, dx, dy, h.lay a, h.lay b, yAK (h.dep a) hn, by rw [h.eq]; exact q⟩
theorem ZEI {K : W.Frag} {H : Hp} {x y : V} {a b : α} {Q : VK} (h : Enc e n) (hn : n <= 64) (dx : Dp K H (e a) x) (dy : Dp K H (e b) y) (q : Q (.bl (!decide (a = b))) H) : rNeD K x y H Q :=
  ⟨_, _, dx, dy, h.lay a, h.lay b, yAK (h.dep a) hn, by rw [h.eq]; exact q⟩
end
theorem ZBw {K : W.Frag} {H : Hp} {a : Addr} {xs : List Int} (h : SqL K H a (xs.map V.int)) : Dp K H (.list (xs.map PyData.int)) (.ref a) := ZEM h (DpAll.ints xs)
section
variable {K : W.Frag} {H : Hp} {R : Bool -> Prop}
end
structure FunD (K : W.Frag) (x qual : Str) (st : Stmt) (f : Addr) (fd : FuncData) (dv : List Value) : Prop where
  ex : ∃ (oc : Value) (od : Option Addr) (T : Addr) (kV doc pm : Value) (an : Option Addr) (cdv ct : Value) (osl : Array (Option Value)),
    fd = W.fnOf x qual (ZAN st) (ZAL st) (ZAC st) (.ref T) kV doc pm an cdv ct /\ K.lookup f = some ⟨oc, od, .func fd, osl⟩ /\ W.codeIn K cdv qual = true /\ ∃ o n, K.lookup T = some o /\ o.data = .seq dv.toArray n
  kp : W.keepIn K (.ref f) = true
section
variable {P : Program} {w : World} {K : W.Frag} {mg : Str -> Option Value} {base : Heap}
theorem FunD.ok {x qual : Str} {st : Stmt} {f : Addr} {fd : FuncData} {dv : List Value} {N ps : List Str} {k : Nat} {sp : Sp} (F : FunD K x qual st f fd dv) (S : FnScope N ps (ZAC st)) (len : ∀ vs H Q E, sp vs H Q E -> vs.length = ps.length)
    (hbody : ∀ (cdv : Value) (A : Around) (outer : List Env) (s : Shared) (H : Hp) (vs : List V) (Q : VK) (E : XK), Room k (A.deeper (envOfC qual (ZAC st) s.heap.objs.size f cdv)) -> sp vs H Q E ->
      ∃ t, PSs (cxOf CX0 P w K mg base N qual (ZAC st) f cdv A outer s H E).nox (ZAL st) t /\ t { nx := fun _ H' => Q .non H', rt := Q } (start N vs) H) : FnOk P w K mg base CX0 (k + 1) f fd ps sp := by
  obtain ⟨oc, od, T, kV, doc, pm, an, cdv, ct, osl, rfl, lk, hcd, _⟩ := F.ex
  refine fn_of lk hcd S len fun A outer s H vs Q E hr hsp => ?_
  obtain ⟨t, h, q⟩ := hbody cdv A outer s H vs Q E hr hsp
  exact ⟨t, h.nox, q⟩
theorem FunD.binds {x qual : Str} {st : Stmt} {f : Addr} {fd : FuncData} {dv ds : List Value} {ps : List Str} (F : FunD K x qual st f fd dv)
    (h : ∀ (T : Addr) (kV doc pm : Value) (an : Option Addr) (cdv ct : Value) (us : List Value), (us ++ ds).length = ps.length -> ∃ k, bindArgs (W.fnOf x qual (ZAN st) (ZAL st) (ZAC st) (.ref T) kV doc pm an cdv ct) ⟨us, []⟩ = seqItems? (.ref T) >>= k /\ k (some dv.toArray) = pure (ps.zip (us ++ ds))) : Binds K fd ps ds := by
  obtain ⟨oc, od, T, kV, doc, pm, an, cdv, ct, osl, rfl, lk, hcd, o, n, hT, ho⟩ := F.ex
  intro s us KX hl
  obtain ⟨k, h1, h2⟩ := h T kV doc pm an cdv ct us hl
  exact PySem.W.binds_K KX rfl hT ho h1 h2
theorem ZDN {x qual : Str} {st : Stmt} {f T : Addr} {oc : Value} {od an : Option Addr} {osl : Array (Option Value)} {kV doc pm cdv ct : Value} {dv : List Value} {ocT : Value} {odT : Option Addr} {nT : Nat} {slT : Array (Option Value)} (l : K.lookup f = some ⟨oc, od, .func (W.fnOf x qual (ZAN st) (ZAL st) (ZAC st) (.ref T) kV doc pm an cdv ct), osl⟩)
    (c : W.codeIn K cdv qual = true) (k : W.keepIn K (.ref f) = true) (t : K.lookup T = some ⟨ocT, odT, .seq dv.toArray nT, slT⟩) : FunD K x qual st f (W.fnOf x qual (ZAN st) (ZAL st) (ZAC st) (.ref T) kV doc pm an cdv ct) dv := ⟨⟨oc, od, T, kV, doc, pm, an, cdv, ct, osl, rfl, l, c, _, nT, t, rfl⟩, k⟩
end
structure KlD (P : Program) (w : World) (K : W.Frag) (mg : Str -> Option Value) (base : Heap) (CX : CXT) (x : Str) (C : Addr) (k : Nat) (ps : List Str) (sp : Sp) (dvs : List V) : Prop where
  mgC : mg x = some (.ref C)
  ex : ∃ f fd ds, FnOk P w K mg base CX k f fd ps sp /\ Binds K fd ps ds /\ Vals dvs ds /\ Mk K C f
section
variable {X : Cx} {CX : CXT} {k : Nat} {ps : List Str} {sp : Sp} {dvs : List V} {E : XK} {x m : Str} {C : Addr} {p pos apos : Pos} {e o : Expr} {es : List Expr} {ta : TE} {t : TA}
theorem pe_mkD (F : KlD X.prog X.w X.K X.mg X.base CX x C k ps sp dvs) (hr : Room (k + 1) X.A) (hg : Gl X x) (hx : ZBr CX X E) (ha : PA X (e :: es) t) (hdb : (x == ("__debug__" : Str)) = false := by decide) (he : starEach (e :: es) X.env = (false, eval e X.env) :: starEach es X.env := by rfl) (hpl : (backTo pos (starEach es X.env)).any (·.1) = false := by rfl) :
    PE X (.Call (.Name x p) (e :: es) [] pos) (ZD6 C sp dvs E t) := by
  obtain ⟨f, fd, ds, h1, h2, hv, h3⟩ := F.ex
  exact pe_make h3 h1 hr hg F.mgC h2 hv hx ha hdb he hpl
end
section
variable {X : Cx}
theorem rng_ok {P : Program} {w : World} {H : Hp} {h : Heap} {a : Addr} {lo hi : Int} {t u v : Tok} (e : h.get? a = some { cls := .type "range", data := .fields #[.int lo t, .int hi u, .int 1 v] }) : ObjOk P w H h a (.rng lo hi) := ⟨t, u, v, e⟩
theorem call_rng2 : ZC5 X (.type "range") (fun xs H Q => ∃ m n : Int, xs = [.int m, .int n] /\ ∀ p, H p = none -> Q (.ref p) (upd H p (.rng m n))) := by
  intro pins s σ H xs us Q I r h
  obtain ⟨m, n, rfl, q⟩ := h
  obtain ⟨u, w', rfl, rx, ry⟩ := ZEY r
  obtain ⟨t, rfl⟩ := rx
  obtain ⟨t', rfl⟩ := ry
  exact call_range_2 ⟨.ref s.heap.objs.size, _, I.laid (fun b o e => Heap.get?_push_of_some _ e) (yAB _) (rng_ok (Heap.get?_push_size _ rfl)), rfl, q _ (I.hok.fresh (yAB _))⟩
def ZC1 (lo hi : Int) : List Int := (List.range (hi - lo).toNat).map fun i : Nat => lo + (i : Int)
theorem ZBt (lo hi : Int) : (ZC1 lo hi).length = (hi - lo).toNat := by unfold ZC1; rw [yAD, List.length_range]
theorem rints_get {lo hi : Int} {i : Nat} (h : i < (hi - lo).toNat) : (ZC1 lo hi)[i]? = some (lo + i) := by unfold ZC1; rw [yAY, List.getElem?_range h]; rfl
theorem call_list_rng (hc : X.calm = true) : ZC5 X (.type "list") (fun xs H Q => ∃ (p : Addr) (lo hi : Int), xs = [.ref p] /\ H p = some (.rng lo hi) /\ (-1000 <= lo /\ lo <= 1000 /\ -1000 <= hi /\ hi <= 1000) /\ ∀ l, H l = none -> Q (.ref l) (upd H l (.lst ((ZC1 lo hi).map V.int)))) := by
  intro pins s σ H xs us Q I r h
  obtain ⟨p, lo, hi, rfl, hp, hb, q⟩ := h
  obtain ⟨u, rfl, rx⟩ := ZD3 r
  cases rx
  obtain ⟨t, u, v, e⟩ := I.hok p _ hp
  have hh : X.A.handled = none := I.ok.hd hc
  refine call_list_range (n := (hi - lo).toNat) hh e (small_one (by omega) (by omega) (by omega) (by omega)) (by rw [rangeSize_one]; split <;> omega) (by omega) fun h' tk acc' c' hk hS hacc => ?_
  have hz : (ZC1 lo hi).length <= 1000 * 2 := by rw [ZBt]; omega
  refine ⟨.ref s.heap.objs.size, _, I.laid (t' := tk) hk (yAB _) (o := .lst ((ZC1 lo hi).map V.int)) ⟨?_, acc'.toList, c', ?_, by simpa using hS⟩, rfl, q _ (I.hok.fresh (yAB _))⟩
  . rw [yAD]
    exact yAK hz (by decide)
  . have hsz : acc'.size = (hi - lo).toNat := hacc.1
    have gen : ∀ (vs : List Value) (k : Nat) (zs : List Int), vs.length = zs.length -> (∀ (j : Nat) v z, vs[j]? = some v -> zs[j]? = some z -> ∃ t, v = Value.int z t) -> Vals (zs.map V.int) vs := by
      intro vs
      induction vs with
      | nil => intro k zs h1 _; cases zs with
        | nil => exact .nil
        | cons _ _ => cases h1
      | cons v r ih => intro k zs h1 h2; cases zs with
        | nil => cases h1
        | cons z zr => exact .cons (h2 0 v z rfl rfl) (ih 0 zr (by simpa using h1) fun j v' z' a b => h2 (j + 1) v' z' (by simpa using a) (by simpa using b))
    refine gen acc'.toList 0 (ZC1 lo hi) (by rw [ZBt, yAN, hsz]) fun j v z a b => ?_
    have a' : acc'[j]? = some v := by simpa using a
    obtain ⟨t, rfl⟩ := hacc.2 j v a'
    have hj : j < (hi - lo).toNat := by have := (yBP.mp a').1; omega
    rw [rints_get hj] at b
    cases b
    exact ⟨t, by rw [Int.mul_one]⟩
end
theorem Same.get {H H' : Hp} {b : Addr} {o : HO} (s : Same H H') (h : H b = some o) : H' b = some o := s b o h
theorem newH {H : Hp} {p : Addr} (h : H p = none) (o : HO) : ∃ H', upd H p o = H' /\ Same H H' /\ H' p = some o := ⟨_, rfl, ZAS h o, ZAG⟩
section
variable {K : W.Frag} {a : Addr} {xs : List V} {te : TE} {Q : VK} {σ0 rest : St} {H : Hp}
end
section
variable {X : Cx} {pins : List (Addr × Obj)} {σ : St} {H : Hp} {s : Shared}
end
def Ite (K : W.Frag) (a : Addr) : It :=
  ⟨fun i H => ∃ xs x, SqL K H a xs /\ xs[i]? = some x, fun i H v H' => ∃ p x, H p = none /\ (∀ xs, SqL K H a xs -> xs[i]? = some x) /\ H' = upd H p (.tup [.int i, x]) /\ v = .ref p, fun i H => ∃ xs, SqL K H a xs /\ xs.length <= i⟩
section
variable {X : Cx}
def iEnum (K : W.Frag) (ta : TA) : TI := fun σ H R => ta σ H fun vs H1 => ∃ a, vs = [.ref a] /\ (∃ xs, SqL K H1 a xs) /\ R (Ite K a) H1
end
section
variable {K : W.Frag} {a : Addr} {xs : List V} {g : TG} {tb : TS} {D : Ends} {σ : St} {H : Hp}
def forE (K : W.Frag) (g : TG) (tb : TS) (D : Ends) (σ : St) (x : V) (H1 : Hp) : Prop := ∃ a, [x] = [.ref a] /\ (∃ xs, SqL K H1 a xs) /\ ∃ W : Nat -> Nat -> St -> Hp -> Prop, (∃ m, W 0 m σ H1) /\ ∀ i m σ H, W i m σ H ->
  ((Ite K a).stop i H /\ D.nx σ H) ∨ ((Ite K a).go i H /\ ∃ N : St -> Hp -> Prop, (∀ σ' H', N σ' H' -> ∃ m', m' < m /\ W (i + 1) m' σ' H') /\ ∀ x H', (Ite K a).yld i H x H' -> g x σ H' fun σ2 H2 => tb { D with nx := N, ct := N, bk := D.nx } σ2 H2)
theorem tForE_eq {t : TE} : tFor (iEnum K (ZB8 t tNil)) g tb D σ H = t σ H (fun x H1 => forE K g tb D σ x H1) := rfl
variable {tt : TT} {te : TE} {Q : VK} {σ0 : St}
def compE (K : W.Frag) (g : TG) (tt : TT) (te : TE) (σ0 : St) (Q : VK) (x : V) (H1 : Hp) : Prop := ∃ a, [x] = [.ref a] /\ (∃ xs, SqL K H1 a xs) /\ ∃ W : Nat -> Nat -> List V -> St -> Hp -> Prop, (∃ m, W 0 m [] σ0 H1) /\ ∀ i m ys σ H, W i m ys σ H ->
  ((Ite K a).stop i H /\ ys.length <= sizeLine /\ ∀ p, H p = none -> Q (.ref p) (upd H p (.lst ys))) ∨
  ((Ite K a).go i H /\ ys.length < sizeLine /\ ∀ x H', (Ite K a).yld i H x H' -> g x σ H' fun σ2 H2 => tt σ2 H2 fun b H3 => if b = true then te σ2 H3 fun y H4 => ∃ m', m' < m /\ W (i + 1) m' (ys ++ [y]) σ2 H4 else ∃ m', m' < m /\ W (i + 1) m' ys σ2 H3)
theorem tCompE_eq {k : Nat} {js : List Nat} {t : TE} : ZDc k js (iEnum K (ZB8 t tNil)) g tt te σ H Q = t σ H (fun x H1 => compE K g tt te (up k js σ) Q x H1) := rfl
end
abbrev FZ (o : Obj) : HO := .frz o (.ext fun _ => True)
theorem ZEL {P : Program} {w : World} {H : Hp} {h : Heap} {a : Addr} {o : Obj} (e : h.get? a = some o) : ObjOk P w H h a (FZ o) := ⟨e, trivial, ⟨o, e⟩, fun _ _ _ _ => trivial⟩
theorem ZC9 {P : Program} {w : World} {H : Hp} {h : Heap} {a : Addr} {o : Obj} (x : HOk P w H h) (e : H a = some (FZ o)) : h.get? a = some o := (x a _ e).1
def CodeAt (H : Hp) (c : Addr) (qual : Str) : Prop := ∃ oc vs t, H c = some (FZ oc) /\ oc.data = .fields vs /\ vs[1]? = some (.str qual t)
theorem CodeAt.rec {P : Program} {w : World} {H : Hp} {h : Heap} {c : Addr} {qual : Str} (x : HOk P w H h) (k : CodeAt H c qual) : h.CodeRec (.ref c) qual :=
  let ⟨oc, vs, t, e, d, v⟩ := k; ⟨c, oc, vs, t, rfl, ZC9 x e, d, v⟩
structure CloL (H : Hp) (g : Addr) (iname iq : Str) (ip : Arguments) (ib : List Stmt) (isc : Scope) (fr : List Str) (cs : List V) (cl : List (Str × Addr)) : Prop where
  obj : ∃ (doc pm ctv : Value) (c' : Addr), H g = some (FZ (PySem.W.fnMade iname iq ip ib isc cl doc pm c' ctv)) /\ CodeAt H c' iq
  keys : ∀ x c, cl.lookup x = some c -> x ∈ fr
  inj : ∀ x y c, cl.lookup x = some c -> cl.lookup y = some c -> x = y
  cell : ∀ (i : Nat) (x : Str), fr[i]? = some x -> ∃ v c u o, cs[i]? = some v /\ cl.lookup x = some c /\ RelV v u /\ H c = some (FZ o) /\ o.data = .cell (some u)
  len : cs.length = fr.length
def Clo (H : Hp) (g : Addr) (iname iq : Str) (ip : Arguments) (ib : List Stmt) (isc : Scope) (fr : List Str) (cs : List V) : Prop := ∃ cl, CloL H g iname iq ip ib isc fr cs cl
def ZDz (H H' : Hp) : Prop := ∀ b o, H b = some (FZ o) -> H' b = some (FZ o)
theorem CodeAt.mono {H H' : Hp} {c : Addr} {q : Str} (e : ZDz H H') (k : CodeAt H c q) : CodeAt H' c q := let ⟨oc, vs, t, a, d, v⟩ := k; ⟨oc, vs, t, e _ _ a, d, v⟩
theorem CloL.mono {H H' : Hp} {g : Addr} {iname iq : Str} {ip : Arguments} {ib : List Stmt} {isc : Scope} {fr : List Str} {cs : List V} {cl : List (Str × Addr)} (e : ZDz H H') (k : CloL H g iname iq ip ib isc fr cs cl) : CloL H' g iname iq ip ib isc fr cs cl where
  obj := let ⟨doc, pm, ctv, c', a, b⟩ := k.obj; ⟨doc, pm, ctv, c', e _ _ a, b.mono e⟩
  keys := k.keys
  inj := k.inj
  cell := fun i x h => let ⟨v, c, u, o, a1, a2, a3, a4, a5⟩ := k.cell i x h; ⟨v, c, u, o, a1, a2, a3, e _ _ a4, a5⟩
  len := k.len
theorem Clo.mono {H H' : Hp} {g : Addr} {iname iq : Str} {ip : Arguments} {ib : List Stmt} {isc : Scope} {fr : List Str} {cs : List V} (e : ZDz H H') (k : Clo H g iname iq ip ib isc fr cs) : Clo H' g iname iq ip ib isc fr cs := let ⟨cl, x⟩ := k; ⟨cl, x.mono e⟩
theorem CloL.inj' {H : Hp} {g : Addr} {iname iq : Str} {ip : Arguments} {ib : List Stmt} {isc : Scope} {fr : List Str} {cs cs' : List V} {cl cl' : List (Str × Addr)} (k : CloL H g iname iq ip ib isc fr cs cl) (k' : CloL H g iname iq ip ib isc fr cs' cl') : cs = cs' := by
  obtain ⟨d1, p1, t1, c1, e1, _⟩ := k.obj
  obtain ⟨d2, p2, t2, c2, e2, _⟩ := k'.obj
  rw [e1] at e2
  have ecl : cl = cl' := by
    have := Option.some.inj e2
    injection this with h1 h2
    injection h1 with h3 h4 h5
    injection h5 with h6
    injection h6
  subst ecl
  refine List.ext_getElem? fun i => ?_
  by_cases hi : i < fr.length
  . obtain ⟨v, c, u, o, a1, a2, a3, a4, a5⟩ := k.cell i _ (yAQ hi)
    obtain ⟨v', c', u', o', b1, b2, b3, b4, b5⟩ := k'.cell i _ (yAQ hi)
    rw [a2] at b2
    cases b2
    rw [a4] at b4
    have eo : o = o' := by
      have := Option.some.inj b4
      injection this
    subst eo
    rw [a5] at b5
    have eu : u = u' := by injection b5 with h; injection h
    subst eu
    rw [a1, b1, a3.inj b3]
  . rw [yCG (by rw [k.len]; omega), yCG (by rw [k'.len]; omega)]
open Classical in
noncomputable def hid (cl : List (Str × Addr)) (H : Hp) : Hp := fun b => if ∃ x, cl.lookup x = some b then none else H b
open Classical in
noncomputable def back (cl : List (Str × Addr)) (H H1 : Hp) : Hp := fun b => if ∃ x, cl.lookup x = some b then H b else H1 b
theorem ZDn {cl : List (Str × Addr)} {H : Hp} {x : Str} {b : Addr} (h : cl.lookup x = some b) : hid cl H b = none := by unfold hid; rw [if_pos ⟨x, h⟩]
theorem ZCy {cl : List (Str × Addr)} {H : Hp} {b : Addr} (h : ¬ ∃ x, cl.lookup x = some b) : hid cl H b = H b := by unfold hid; rw [if_neg h]
theorem ZDA {cl : List (Str × Addr)} {H H1 : Hp} {x : Str} {b : Addr} (h : cl.lookup x = some b) : back cl H H1 b = H b := by unfold back; rw [if_pos ⟨x, h⟩]
theorem ZCE {cl : List (Str × Addr)} {H H1 : Hp} {b : Addr} (h : ¬ ∃ x, cl.lookup x = some b) : back cl H H1 b = H1 b := by unfold back; rw [if_neg h]
theorem hid_le {cl : List (Str × Addr)} {H : Hp} {b : Addr} {o : HO} (h : hid cl H b = some o) : H b = some o := by
  by_cases q : ∃ x, cl.lookup x = some b
  . obtain ⟨x, q⟩ := q; rw [ZDn q] at h; cases h
  . rw [ZCy q] at h; exact h
def ZEq (cl : List (Str × Addr)) (H : Hp) : Prop := ∀ x c, cl.lookup x = some c -> ∃ u o, H c = some (FZ o) /\ o.data = .cell u
theorem CloL.cells {H : Hp} {g : Addr} {iname iq : Str} {ip : Arguments} {ib : List Stmt} {isc : Scope} {fr : List Str} {cs : List V} {cl : List (Str × Addr)} (k : CloL H g iname iq ip ib isc fr cs cl) : ZEq cl H := fun x c h => by
  obtain ⟨i, hi⟩ := yBF (k.keys x c h)
  obtain ⟨v, c2, u, o, _, h2, _, h4, h5⟩ := k.cell i x hi
  rw [h] at h2
  cases h2
  exact ⟨_, o, h4, h5⟩
theorem ZBo {cl : List (Str × Addr)} {H : Hp} {b : Addr} {o : HO} (C : ZEq cl H) (h : H b = some o) (n : ∀ ob, o ≠ FZ ob) : hid cl H b = some o := by
  rw [ZCy, h]
  rintro ⟨x, q⟩
  obtain ⟨u, ob, e, _⟩ := C x b q
  rw [h] at e
  exact n ob (Option.some.inj e)
theorem hid_none {cl : List (Str × Addr)} {H : Hp} {b : Addr} (C : ZEq cl H) (h : hid cl H b = none) (n : ¬ ∃ x, cl.lookup x = some b) : H b = none := by rw [ZCy n] at h; exact h
theorem back_upd {cl : List (Str × Addr)} {H H1 : Hp} {l : Addr} {o : HO} (n : ¬ ∃ x, cl.lookup x = some l) : back cl H (upd H1 l o) = upd (back cl H H1) l o := by
  funext b
  by_cases q : ∃ x, cl.lookup x = some b
  . have : b ≠ l := fun e => n (e ▸ q)
    obtain ⟨x, q⟩ := q
    rw [ZDA q, ZAH this, ZDA q]
  . rw [ZCE q]
    by_cases e : b = l
    . subst e; rw [ZAG, ZAG]
    . rw [ZAH e, ZAH e, ZCE q]
theorem back_hid {cl : List (Str × Addr)} {H : Hp} : back cl H (hid cl H) = H := by
  funext b
  by_cases q : ∃ x, cl.lookup x = some b
  . obtain ⟨x, q⟩ := q; rw [ZDA q]
  . rw [ZCE q, ZCy q]
def NoC (cl : List (Str × Addr)) (H : Hp) : Prop := ∀ x c, cl.lookup x = some c -> H c = none
structure CloScope (N ps fr : List Str) (sc : Scope) : Prop where
  kind : sc.kind = .function
  co : sc.isCoroutine = false
  gen : sc.isGenerator = false
  nd : N.Nodup
  pre : N.take ps.length = ps
  suf : N.drop (N.length - fr.length) = fr
  two : ps.length + fr.length <= N.length
  par : ∀ x ∈ ps, sc.names.lookup x = some .local
  nocell : ∀ y ∈ sc.names, y.2 ≠ .cell
  free : ∀ x ∈ fr, sc.names.lookup x = some .free
  only : ∀ x, sc.names.lookup x = some .free -> x ∈ fr
def ZCL (N : List Str) (vs cs : List V) : St := vs.map some ++ (List.replicate (N.length - vs.length - cs.length) none ++ cs.map some)
def ZD2 (P : Program) (w : World) (K : W.Frag) (mg : Str -> Option Value) (base : Heap) (N : List Str) (qual : Str) (scope : Scope) (f : Addr) (cd : Value) (cl : List (Str × Addr)) (A : Around) (outer : List Env) (s : Shared) (H : Hp) : Cx where
  prog := P
  w := w
  K := K
  mg := mg
  base := base
  A := A.deeper (PySem.W.envX qual scope s.heap.objs.size f cd cl)
  N := N
  s₀ := s
  H₀ := H
  env := PySem.W.envX qual scope s.heap.objs.size f cd cl
  outer := outer
  stack := PySem.W.envX qual scope s.heap.objs.size f cd cl :: outer
  ex := []
  calm := true
  fn := fun _ => false
  pn := []
  xe := fun _ _ => False
theorem startC_get {N : List Str} {vs cs : List V} {i : Nat} {v : V} (hl : vs.length + cs.length <= N.length) (h : (ZCL N vs cs)[i]? = some (some v)) :
    vs[i]? = some v ∨ (N.length - cs.length <= i /\ cs[i - (N.length - cs.length)]? = some v) := by
  unfold ZCL at h
  by_cases h1 : i < vs.length
  . rw [yBB (by simpa using h1), yAY] at h
    cases e : vs[i]? with
    | none => rw [e] at h; cases h
    | some a => rw [e] at h; cases h; exact .inl rfl
  . rw [yBA (by simpa using Nat.le_of_not_lt h1), yAD] at h
    by_cases h2 : i - vs.length < N.length - vs.length - cs.length
    . rw [yBB (by simpa using h2), List.getElem?_replicate, if_pos h2] at h
      cases h
    . rw [yBA (by simpa using Nat.le_of_not_lt h2), yCC, yAY] at h
      right
      refine ⟨by omega, ?_⟩
      rw [show i - (N.length - cs.length) = i - vs.length - (N.length - vs.length - cs.length) by omega]
      cases e : cs[i - vs.length - (N.length - vs.length - cs.length)]? with
      | none => rw [e] at h; cases h
      | some a => rw [e] at h; cases h; rfl
theorem zip_fst_sub : ∀ (ps : List Str) (us : List Value), ((ps.zip us).map (·.1)).Sublist ps
  | [], _ => by simp
  | p :: ps, [] => by simp
  | p :: ps, u :: us => by rw [List.zip_cons_cons, yAZ]; exact (zip_fst_sub ps us).cons₂ p
theorem lookup_nodup {α : Type} : ∀ {cs : List (Str × α)} {n : Str} {c : α}, (cs.map (·.1)).Nodup -> (n, c) ∈ cs -> cs.lookup n = some c
  | (m, d) :: r, n, c, hn, h => by
    rw [yAZ] at hn
    have hn' := List.nodup_cons.mp hn
    rw [yBS]
    rcases yAE.mp h with e | h
    . cases e; simp
    . have : n ≠ m := fun z => hn'.1 (z ▸ List.mem_map_of_mem (f := (·.1)) h)
      have : (n == m) = false := by simpa using this
      rw [this]
      exact lookup_nodup hn'.2 h
theorem zip_lookup {ps : List Str} {us : List Value} (nd : ps.Nodup) {i : Nat} {x : Str} {u : Value} (h1 : ps[i]? = some x) (h2 : us[i]? = some u) : ((ps.zip us).reverse).lookup x = some u := by
  have hm : (x, u) ∈ (ps.zip us).reverse := by
    rw [List.mem_reverse]
    refine yAV (i := i) ?_
    rw [List.getElem?_zip_eq_some]
    exact ⟨h1, h2⟩
  have hnd : ((ps.zip us).reverse.map (·.1)).Nodup := by
    rw [List.map_reverse]
    exact List.pairwise_reverse.mpr (List.Pairwise.imp (fun h => Ne.symm h) (nd.sublist (zip_fst_sub ps us)))
  exact lookup_nodup hnd hm
section
variable {P : Program} {w : World} {K : W.Frag} {mg : Str -> Option Value} {base : Heap} {A : Around} {outer : List Env} {s : Shared} {H : Hp} {g : Addr} {iname iq : Str} {ip : Arguments} {ib : List Stmt} {isc : Scope} {N ps fr : List Str} {cs vs : List V} {us : List Value} {cl : List (Str × Addr)} {k : Nat}
theorem clo_call {Q : VK} (C : CloL H g iname iq ip ib isc fr cs cl) (S : CloScope N ps fr isc) (hr : Room (k + 1) A) (e0 : Env0 P w K mg base A outer s H) (hl : vs.length = ps.length) (r : Vals vs us)
    (hbind : ∀ (doc pm ctv : Value) (c' : Addr), bindArgs (PySem.W.fnX iname iq ip ib isc cl .none .none doc pm none (.ref c') ctv) ⟨us, []⟩ = pure (ps.zip us))
    (hbody : ∀ (cd : Value) (A' : Around), Room k A' -> ∃ t, PSs (ZD2 P w K mg base N iq isc g cd cl A outer s (hid cl H)) ib t /\ t { nx := fun _ H' => NoC cl H' -> Q .non (back cl H H'), rt := fun v H' => NoC cl H' -> Q v (back cl H H') } (ZCL N vs cs) (hid cl H)) :
    codeAny (model P w) A (.call (.ref g) ⟨us, []⟩) (fun r s' => match r with | .ok (.ret u) => CE outer P w H s Q u s' | _ => False) s := by
  obtain ⟨doc, pm, ctv, c', hg, hc⟩ := C.obj
  have hget := ZC9 e0.hok hg
  have lim : s.heap.NoLimit := e0.mod.nolimit.keeps fun b o e => (e0.bs b o e).1
  have hnd : ps.Nodup := by rw [<- S.pre]; exact S.nd.sublist (List.take_sublist _ _)
  refine codeAny_call_def (o := PySem.W.fnMade iname iq ip ib isc cl doc pm c' ctv) (fd := PySem.W.fnX iname iq ip ib isc cl .none .none doc pm none (.ref c') ctv) (body := ib) (binds := ps.zip us) hr.depth hget rfl lim (hc.rec e0.hok) rfl (.of_eq (hbind doc pm ctv c')) S.nocell (fun y hy => S.par _ (List.of_mem_zip hy).1) (fun h₁ hns hk₁ => ?_) S.co S.gen S.kind
  obtain ⟨t, ht, hq⟩ := hbody (.ref c') _ (hr.deeper (PySem.W.envX iq isc s.heap.objs.size g (.ref c') cl))
  have cellAt : ∀ x c, cl.lookup x = some c -> ∃ o u, H c = some (FZ o) /\ s.heap.get? c = some o /\ o.data = .cell u := fun x c h => by
    obtain ⟨u, o, e, d⟩ := C.cells x c h
    exact ⟨o, u, e, ZC9 e0.hok e, d⟩
  have cfs : ∀ x c, cl.lookup x = some c -> c ∉ frs outer := fun x c h hb => by
    obtain ⟨o, u, e, _⟩ := cellAt x c h
    rw [e0.frf c hb] at e; cases e
  have hpl : ps.length <= N.length := by have := S.two; omega
  have I : Inv (ZD2 P w K mg base N iq isc g (.ref c') cl A outer s (hid cl H)) [] (ZCL N vs cs) (hid cl H) { s with heap := h₁, toks := s.toks + (ps.zip us).length } := by
    refine ⟨⟨e0.mod, S.kind, rfl, rfl, yAB _, C.inj, fun x hx => ?_, fun y c h => absurd h (by simp [ZD2]), fun _ => hr.hd, Around.frames_deeper e0.frames, .inr ⟨rfl, rfl⟩, fun b z => absurd (show b ∈ ([] : List Addr) from z) (by simp), fun b o e => ?_, e0.bsz, fun b _ _ z => absurd (show b ∈ ([] : List Addr) from z) (by simp), fun b z => absurd (show b ∈ ([] : List Addr) from z) (by simp), e0.funs, fun b hb => ?_⟩,
      rfl, e0.bare, Un.kept hk₁, ⟨_, hns, fun i x v h1 h2 h3 => ?_⟩, fun x c h => ?_, ?_, fun x c h => ZDn h, fun p hp => absurd (show p ∈ ([] : List (Addr × Obj)) from hp) (by simp), ?_, ?_⟩
    . have hx : isc.names.lookup x = some .cell ∨ isc.names.lookup x = some .free := hx
      rcases hx with hx | hx
      . exact absurd rfl (S.nocell _ (PySem.mem_of_lookup hx))
      . obtain ⟨i, hi⟩ := yBF (S.only x hx)
        obtain ⟨v, c, u, o, _, h2, _⟩ := C.cell i x hi
        exact ⟨c, h2⟩
    . refine ⟨(e0.bs b o e).1, ?_⟩
      show hid cl H b = none
      by_cases q : ∃ x, cl.lookup x = some b
      . obtain ⟨x, q⟩ := q; exact ZDn q
      . rw [ZCy q]; exact (e0.bs b o e).2
    . show hid cl H b = none
      rw [ZCy]
      . exact e0.frf b hb
      . rintro ⟨x, q⟩; exact cfs x b q hb
    . have h1 : N[i]? = some x := h1
      have hcl := C.len
      rcases startC_get (by rw [hl, hcl]; exact S.two) h2 with h4 | ⟨h4, h5⟩
      . obtain ⟨u, hu, rv⟩ := r.get h4
        have hi : i < vs.length := (yAH.mp h4).1
        have hp : ps[i]? = some x := by rw [<- S.pre, yBR (by omega)]; exact h1
        exact ⟨u, rv, .inl ⟨S.par x (yAV hp), zip_lookup hnd hp hu⟩⟩
      . have hf : fr[i - (N.length - cs.length)]? = some x := by
          rw [<- S.suf, yBT, <- hcl, show N.length - cs.length + (i - (N.length - cs.length)) = i by omega]
          exact h1
        obtain ⟨v', c, u, o, a1, a2, a3, a4, a5⟩ := C.cell _ x hf
        rw [h5] at a1
        cases a1
        refine ⟨u, a3, .inr ⟨.inr (S.free x (yAV hf)), c, a2, o, hk₁ _ _ (ZC9 e0.hok a4), a5⟩⟩
    . obtain ⟨o, u, e, e2, d⟩ := cellAt x c h
      exact ⟨u, o, hk₁ _ _ e2, d⟩
    . show hid cl H s.heap.objs.size = none
      have hn := e0.hok.fresh (yAB _)
      rw [ZCy]
      . exact hn
      . rintro ⟨x, q⟩
        obtain ⟨o, u, e, _⟩ := cellAt x _ q
        rw [hn] at e; cases e
    . intro b o e
      have e' := hid_le e
      refine (e0.hok b o e').stay (fun c v _ q => hk₁ c v q) (fun c q => ?_) fun c xs q => ?_
      . exact ZBo C.cells q (fun ob z => by cases z)
      . exact ZBo C.cells q (fun ob z => by cases z)
    . unfold ZCL
      show _ = N.length
      have := S.two
      have := C.len
      simp only [yAA, yAD, yCC]
      omega
  refine wpAny_mono (ht [] _ (ZCL N vs cs) (hid cl H) _ I hq) (fun fl s' hs => ?_) fun e s' hs => False.elim hs
  have fin : ∀ {σ' : St} {H' : Hp} {v : V} {u : Value}, Inv (ZD2 P w K mg base N iq isc g (.ref c') cl A outer s (hid cl H)) [] σ' H' s' -> RelV v u -> (NoC cl H' -> Q v (back cl H H')) -> CE outer P w H s Q u s' :=
    fun {σ' H' v u} J rv q => by
      have un : Un (frs outer) [] (hid cl H) H' s.heap s'.heap := J.base
      have nex : ∀ b : Addr, b ∉ ([] : List Addr) := fun b => by simp
      have keepC : ∀ x c o, cl.lookup x = some c -> s.heap.get? c = some o -> s'.heap.get? c = some o := fun x c o h e => un.keep c o e (ZDn h) (cfs x c h) (nex c)
      have freeC : ∀ x c, cl.lookup x = some c -> H' c = none := fun x c h => by
        obtain ⟨o, u, e, e2, d⟩ := cellAt x c h
        exact un.free c o e2 (ZDn h) (nex c)
      refine ⟨v, back cl H H', J.os, J.bare, ⟨fun b o e n hb hx => ?_, fun b o e n hb hx => ?_, fun b o e n hx => ?_, un.there, fun b xs e => ?_, fun b o u' e => ?_, fun b ps' e => ?_⟩, fun b o e => ?_, rv, q freeC⟩
      . refine un.keep b o e ?_ hb hx
        by_cases q : ∃ x, cl.lookup x = some b
        . obtain ⟨x, q⟩ := q; exact ZDn q
        . rw [ZCy q]; exact n
      . refine un.slot b o e ?_ hb hx
        by_cases q : ∃ x, cl.lookup x = some b
        . obtain ⟨x, q⟩ := q; exact ZDn q
        . rw [ZCy q]; exact n
      . have nc : ¬ ∃ x, cl.lookup x = some b := by
          rintro ⟨x, q⟩
          obtain ⟨o, u, e, _⟩ := cellAt x b q
          rw [n] at e; cases e
        rw [ZCE nc]
        exact un.free b o e (by rw [ZCy nc]; exact n) hx
      . have e2 := un.tups b xs (ZBo C.cells e (fun ob z => by cases z))
        rw [ZCE]
        . exact e2
        . rintro ⟨x, q⟩; rw [freeC x b q] at e2; cases e2
      . by_cases q : ∃ x, cl.lookup x = some b
        . obtain ⟨x, q⟩ := q; rw [ZDA q]; exact e
        . rw [ZCE q]; exact un.frzs b o u' (by rw [ZCy q]; exact e)
      . obtain ⟨more, e2⟩ := un.tbls b ps' (ZBo C.cells e (fun ob z => by cases z))
        refine ⟨more, ?_⟩
        rw [ZCE]
        . exact e2
        . rintro ⟨x, q⟩; rw [freeC x b q] at e2; cases e2
      . have up : ∀ c oc, H' c = some oc -> back cl H H' c = some oc := fun c oc q => by
          rw [ZCE]
          . exact q
          . rintro ⟨x, z⟩; rw [freeC x c z] at q; cases q
        by_cases q : ∃ x, cl.lookup x = some b
        . obtain ⟨x, q⟩ := q
          rw [ZDA q] at e
          obtain ⟨o2, u2, e2, e3, d⟩ := cellAt x b q
          rw [e] at e2
          cases e2
          exact ZEL (keepC x b _ q e3)
        . rw [ZCE q] at e
          exact (J.hok b o e).stay (fun c v _ q => q) (fun c q => up c _ q) fun c xs q => up c _ q
  cases fl with
  | ret u =>
    obtain ⟨v, σ', H', J, rv, q⟩ := hs
    exact fin J rv q
  | next =>
    obtain ⟨σ', H', J, q⟩ := hs
    exact fin (v := V.non) (u := Value.none) J rfl q
  | brk =>
    obtain ⟨_, _, _, q⟩ := hs
    exact False.elim q
  | cont =>
    obtain ⟨_, _, _, q⟩ := hs
    exact False.elim q
end
def ZD7 (r : V -> List V -> Hp -> VK -> Prop) (ta : TE) (t : TA) : TE := fun σ H Q => ta σ H fun f H1 => (∃ g o, f = .ref g /\ H1 g = some (FZ o) /\ ∃ fd, o.data = .func fd) /\ t σ H1 fun vs H2 => r f vs H2 Q
def CloR (X : Cx) (r : V -> List V -> Hp -> VK -> Prop) : Prop :=
  ∀ (pins : List (Addr × Obj)) (s : Shared) (σ : St) (H : Hp) (f : Addr) (vs : List V) (us : List Value) (Q : VK), Inv X pins σ H s -> Vals vs us -> r (.ref f) vs H Q ->
    PySem.W.FnAt f s.heap /\ wpAny (model X.prog X.w) X.A (call (.ref f) us) (EP X pins σ Q) X.xe s
theorem fnAt_of {h : Heap} {g : Addr} {o : Obj} {fd : FuncData} (e : h.get? g = some o) (d : o.data = .func fd) : PySem.W.FnAt g h := by
  obtain ⟨oc, od, dt, sl⟩ := o
  have d' : dt = .func fd := d
  subst d'
  exact ⟨oc, od, fd, sl, e⟩
theorem pe_callV {X : Cx} {x : Str} {p pos : Pos} {e : Expr} {es : List Expr} {ta : TE} {t : TA} {r : V -> List V -> Hp -> VK -> Prop} (hc : CloR X r) (hx : PE X (.Name x p) ta) (ha : PA X (e :: es) t)
    (he : starEach (e :: es) X.env = (false, eval e X.env) :: starEach es X.env := by rfl) (hpl : (backTo pos (starEach es X.env)).any (·.1) = false := by rfl) : PE X (.Call (.Name x p) (e :: es) [] pos) (ZD7 r ta t) := by
  intro pins s σ H Q I h
  refine wpAny_Call_Name_kw (thn (hx pins s σ H _ I h) fun v s1 ⟨f, H1, I1, rf, ⟨g, o, eg, hg, fd, hd⟩, q⟩ => ?_)
  subst eg
  cases rf
  refine PySem.W.callWith_F (fnAt_of (ZC9 I1.hok hg) hd) (thn (ha pos pins s1 σ H1 _ I1 q) fun us s2 ⟨vs, H2, I2, r2, q2⟩ => ?_) he hpl
  exact hc pins s2 σ H2 g vs us Q I2 r2 q2
structure CloOk (P : Program) (w : World) (K : W.Frag) (mg : Str -> Option Value) (base : Heap) (k : Nat) (r : V -> List V -> Hp -> VK -> Prop) : Prop where
  run : ∀ (A : Around) (outer : List Env) (s : Shared) (H : Hp) (f : Addr) (vs : List V) (us : List Value) (Q : VK), Room k A -> Env0 P w K mg base A outer s H -> Vals vs us -> r (.ref f) vs H Q ->
    PySem.W.FnAt f s.heap /\ codeAny (model P w) A (.call (.ref f) ⟨us, []⟩) (fun r s' => match r with | .ok (.ret u) => CE outer P w H s Q u s' | _ => False) s
theorem CloOk.at {X : Cx} {k : Nat} {r : V -> List V -> Hp -> VK -> Prop} (C : CloOk X.prog X.w X.K X.mg X.base k r) (hr : Room k X.A) : CloR X r := by
  intro pins s σ H f vs us Q I rv h
  obtain ⟨h1, h2⟩ := C.run X.A X.stack s H f vs us Q hr I.env0 rv h
  refine ⟨h1, wpAny_call (codeAny_mono h2 fun r s' hq => ?_)⟩
  cases r with
  | error e => exact False.elim hq
  | ok fl =>
    cases fl with
    | ret u => exact I.after hq
    | next => exact False.elim hq
    | brk => exact False.elim hq
    | cont => exact False.elim hq
theorem Clo.fnAt {P : Program} {w : World} {H : Hp} {h : Heap} {g : Addr} {iname iq : Str} {ip : Arguments} {ib : List Stmt} {isc : Scope} {fr : List Str} {cs : List V} {cl : List (Str × Addr)} (x : HOk P w H h) (C : CloL H g iname iq ip ib isc fr cs cl) : PySem.W.FnAt g h := by
  obtain ⟨doc, pm, ctv, c', e, _⟩ := C.obj
  exact fnAt_of (ZC9 x e) rfl
theorem clo_of {P : Program} {w : World} {K : W.Frag} {mg : Str -> Option Value} {base : Heap} {iname iq : Str} {ip : Arguments} {ib : List Stmt} {isc : Scope} {N ps fr : List Str} {k : Nat} {r : V -> List V -> Hp -> VK -> Prop} (S : CloScope N ps fr isc)
    (hcl : ∀ f vs H Q, r f vs H Q -> ∃ g cs, f = .ref g /\ Clo H g iname iq ip ib isc fr cs) (len : ∀ f vs H Q, r f vs H Q -> vs.length = ps.length)
    (hbind : ∀ (cl : List (Str × Addr)) (doc pm ctv : Value) (c' : Addr) (us : List Value), us.length = ps.length -> bindArgs (PySem.W.fnX iname iq ip ib isc cl .none .none doc pm none (.ref c') ctv) ⟨us, []⟩ = pure (ps.zip us))
    (hbody : ∀ (g : Addr) (cs : List V) (cl : List (Str × Addr)) (cd : Value) (A : Around) (outer : List Env) (s : Shared) (H : Hp) (vs : List V) (Q : VK), Room k (A.deeper (PySem.W.envX iq isc s.heap.objs.size g cd cl)) -> CloL H g iname iq ip ib isc fr cs cl -> r (.ref g) vs H Q ->
      ∃ t, PSs (ZD2 P w K mg base N iq isc g cd cl A outer s (hid cl H)) ib t /\ t { nx := fun _ H' => NoC cl H' -> Q .non (back cl H H'), rt := fun v H' => NoC cl H' -> Q v (back cl H H') } (ZCL N vs cs) (hid cl H)) : CloOk P w K mg base (k + 1) r := by
  refine ⟨fun A outer s H f vs us Q hr e0 rv h => ?_⟩
  obtain ⟨g, cs, eg, cl, C⟩ := hcl _ _ _ _ h
  cases eg
  have hl := len _ _ _ _ h
  refine ⟨Clo.fnAt e0.hok C, clo_call (k := k) C S hr e0 hl rv (fun doc pm ctv c' => hbind cl doc pm ctv c' us (by rw [<- rv.length]; exact hl)) fun cd A' hr' => ?_⟩
  exact hbody f cs cl cd A outer s H vs Q (hr.deeper _) C h
theorem NoC.ne {cl : List (Str × Addr)} {H : Hp} {b : Addr} {o : HO} (n : NoC cl H) (h : H b = some o) : ¬ ∃ x, cl.lookup x = some b := fun ⟨x, e⟩ => by rw [n x b e] at h; cases h
def TabSt (H : Hp) (Pt : Addr) (pos : Pos) (iq : Str) : Prop := H Pt = some (.tbl #[]) ∨ ∃ c', H Pt = some (.tbl #[rawInt pos.line, rawInt pos.col, .ref c']) /\ CodeAt H c' iq
theorem TabSt.mono {H H' : Hp} {Pt : Addr} {pos : Pos} {iq : Str} (e : H' Pt = H Pt) (f : ZDz H H') (k : TabSt H Pt pos iq) : TabSt H' Pt pos iq := by
  rcases k with k | ⟨c', k, q⟩
  . exact .inl (e.trans k)
  . exact .inr ⟨c', e.trans k, q.mono f⟩
def ZDZ (mg : Str -> Option Value) (h : Heap) : Prop := ∃ bm ob, mg "__builtins__" = some (.ref bm) /\ bm ≠ builtinsNs /\ h.get? bm = some ob /\ ob.cls = .type "module" /\ ob.dict = some builtinsNs /\ ob.data = .plain
structure MadeDef (H H' : Hp) (Pt : Addr) (pos : Pos) (g : Addr) (iname iq : Str) (ip : Arguments) (ib : List Stmt) (isc : Scope) (fr : List Str) (cs : List V) : Prop where
  same : ∀ b o, b ≠ Pt -> H b = some o -> H' b = some o
  tab : TabSt H' Pt pos iq
  clo : Clo H' g iname iq ip ib isc fr cs
  fresh : H g = none
section
variable {X : Cx} {pins : List (Addr × Obj)} {σ : St} {H : Hp} {s : Shared}
structure MadeMid (H H' : Hp) (Pt : Addr) (pos : Pos) (g : Addr) (iname iq : Str) (ip : Arguments) (ib : List Stmt) (isc : Scope) (cl : List (Str × Addr)) : Prop where
  same : ∀ b o, b ≠ Pt -> H b = some o -> H' b = some o
  tab : TabSt H' Pt pos iq
  obj : ∃ (doc pm ctv : Value) (c' : Addr), H' g = some (FZ (PySem.W.fnMade iname iq ip ib isc cl doc pm c' ctv)) /\ CodeAt H' c' iq
  fresh : H g = none
theorem Inv.made3 (I : Inv X pins σ H s) {Pt c' : Addr} {ps more : Array Value} {h' : Heap} {oc fo : Obj} {tk : Nat} (hP : H Pt = some (.tbl ps)) (hx : Heap.ExtBut Pt s.heap h') (hge : s.heap.objs.size <= c') (hlt : c' < h'.objs.size) (hoc : h'.get? c' = some oc)
    (hPt : h'.get? Pt = some (PySem.W.tabObj (ps ++ more))) (hfo : fo.isFreed = false) : Inv X pins σ (upd (upd (upd H Pt (.tbl (ps ++ more))) c' (FZ oc)) h'.objs.size (FZ fo)) { s with heap := h'.push fo, toks := tk } := by
  have gn : ∀ b o, s.heap.get? b = some o -> b ≠ h'.objs.size /\ b ≠ c' := fun b o e => by
    have l := Heap.lt_size e
    exact ⟨yAP (Nat.lt_trans (yAS l hge) hlt), yAP (yAS l hge)⟩
  have gt : ∀ b o, H b = some o -> b ≠ h'.objs.size /\ b ≠ c' := fun b o e => by
    have l := I.hok.lt e
    exact ⟨yAP (Nat.lt_trans (yAS l hge) hlt), yAP (yAS l hge)⟩
  have np : ∀ b, H b = none -> b ≠ Pt := fun b n z => by rw [z, hP] at n; cases n
  have cg : c' ≠ h'.objs.size := yAP hlt
  have old : ∀ b o, b ≠ Pt -> H b = some o -> upd (upd (upd H Pt (.tbl (ps ++ more))) c' (FZ oc)) h'.objs.size (FZ fo) b = some o := fun b o n e => by
    rw [ZAH (gt b o e).1, ZAH (gt b o e).2, ZAH n]; exact e
  have atP : upd (upd (upd H Pt (.tbl (ps ++ more))) c' (FZ oc)) h'.objs.size (FZ fo) Pt = some (.tbl (ps ++ more)) := by
    rw [ZAH (gt Pt _ hP).1, ZAH (gt Pt _ hP).2, ZAG]
  refine I.un (h' := h'.push fo) (t' := tk) ⟨fun b o e n _ _ => ?_, fun b o e n _ _ => ?_, fun b o e n _ => ?_, fun b o e _ => ?_, fun b xs e => ?_, fun b o u e => ?_, fun b qs e => ?_⟩ fun b o e => ?_
  . exact Heap.get?_push_of_some _ (hx b o (np b n) e)
  . exact ⟨o.slots, Heap.get?_push_of_some _ (hx b o (np b n) e)⟩
  . rw [ZAH (gn b o e).1, ZAH (gn b o e).2, ZAH (np b n)]; exact n
  . by_cases q : b = Pt
    . subst q; exact ⟨_, Heap.get?_push_of_some _ hPt⟩
    . exact ⟨o, Heap.get?_push_of_some _ (hx b o q e)⟩
  . exact old b _ (fun z => by rw [z, hP] at e; cases e) e
  . exact old b _ (fun z => by rw [z, hP] at e; cases e) e
  . by_cases q : b = Pt
    . subst q
      rw [hP] at e
      cases e
      exact ⟨more, atP⟩
    . exact ⟨#[], by rw [old b _ q e]; simp⟩
  . by_cases q1 : b = h'.objs.size
    . subst q1; rw [ZAG] at e; cases e; exact ZEL (Heap.get?_push_size _ hfo)
    . rw [ZAH q1] at e
      by_cases q2 : b = c'
      . subst q2; rw [ZAG] at e; cases e; exact ZEL (Heap.get?_push_of_some _ hoc)
      . rw [ZAH q2] at e
        by_cases q3 : b = Pt
        . subst q3; rw [ZAG] at e; cases e; exact Heap.get?_push_of_some _ hPt
        . rw [ZAH q3] at e
          refine (I.hok b o e).stay (fun c u hc q => ?_) (fun c q => ?_) fun c xs q => ?_
          . refine Heap.get?_push_of_some _ (hx c u ?_ q)
            rcases hc with z | z
            . rw [z]; exact q3
            . intro z2; rw [z2, hP] at z; cases z
          . exact old c _ (fun z => by rw [z, hP] at q; cases q) q
          . exact old c _ (fun z => by rw [z, hP] at q; cases q) q
theorem Inv.made1 (I : Inv X pins σ H s) {h' : Heap} {fo : Obj} {tk : Nat} (hk : ∀ b o, s.heap.get? b = some o -> h'.get? b = some o) (hsz : s.heap.objs.size <= h'.objs.size) (hfo : fo.isFreed = false) : Inv X pins σ (upd H h'.objs.size (FZ fo)) { s with heap := h'.push fo, toks := tk } :=
  I.laid (fun b u q => Heap.get?_push_of_some _ (hk b u q)) hsz (ZEL (Heap.get?_push_size _ hfo))
def tDef (i : Nat) (Pt : Addr) (pos : Pos) (iname iq : Str) (ip : Arguments) (ib : List Stmt) (isc : Scope) (cl : List (Str × Addr)) : TS := fun D σ H => TabSt H Pt pos iq /\ ∀ g H', MadeMid H H' Pt pos g iname iq ip ib isc cl -> D.nx (σ.set i (some (.ref g))) H'
theorem ps_def {i : Nat} {Pt c : Addr} {pos : Pos} {iname iq : Str} {ip : Arguments} {ib : List Stmt} {isc : Scope} (hN : X.N.Nodup) (hi : X.N[i]? = some iname) (hx : Loc X.env.scope iname) (hf : X.fn iname = true ∨ X.env.scope.names.lookup iname = some .local)
    (hcode : X.env.code = .ref c) (C : PySem.W.CodeHd X.base c Pt) (B : ZDZ X.mg X.base) (hq : qualnameIn X.env iname iname = iq) (hd0 : ip.defaults = []) (hk0 : ip.kw_defaults = []) (ha : annTrees ip none X.env = [])
    (hfr : ∀ x, (x, NameKind.free) ∈ isc.names -> ∃ c, X.env.cells.lookup x = some c) :
    PS X (.FunctionDef iname ip ib [] none [] isc none iname pos) (tDef i Pt pos iname iq ip ib isc (closFrom X.env.cells isc.names [])) := by
  intro pins s σ H D I h
  obtain ⟨ht, h⟩ := h
  refine PySem.W.nestDef_K hd0 hk0 ha ?_
  rw [hq]
  have hgs := I.ok.mod.glob.keeps I.bk
  have hC := C.keeps I.bk
  have hcl := closureFor_eq (scope := isc) (env := X.env) hfr
  obtain ⟨bm, ob, b1, b2, b3, b4, b5, b6⟩ := B
  have hbG : bm ≠ mainGlobals := fun q => by
    obtain ⟨o, es, ep, e, hd, _⟩ := I.ok.mod.glob
    rw [q, e] at b3; cases b3; rw [hd] at b6; cases b6
  have apart : ∀ {qs : Array Value}, s.heap.get? Pt = some (PySem.W.tabObj qs) -> mainGlobals ≠ Pt /\ s.heap.BuiltinsAt X.mg Pt := fun {qs} hm => by
    refine ⟨fun q => ?_, bm, ob, b1, b2, hbG, fun q => ?_, I.bk _ _ b3, b4, b5, b6⟩
    . obtain ⟨o, es, ep, e, hd, _⟩ := hgs
      rw [q, hm] at e; cases e; cases hd
    . have e := I.bk _ _ b3
      rw [q, hm] at e; cases e; cases b4
  have fin : ∀ {g : Addr} {H' : Hp} {s' : Shared}, Inv X pins σ H' s' -> MadeMid H H' Pt pos g iname iq ip ib isc (closFrom X.env.cells isc.names []) ->
      wpAny (model X.prog X.w) X.A (storeName X.env iname (.ref g)) (fun _ s'' => SP X pins D .next s'') X.xe s' := fun {g H' s'} J M =>
    ZCf J hN hi hx (v := .ref g) rfl (fun s'' J' => ⟨_, H', J', h g H' M⟩) hf
  rcases ht with ht | ⟨c1, ht, hc1⟩
  . have hP : s.heap.get? Pt = some (PySem.W.tabObj #[]) := I.hok Pt _ ht
    obtain ⟨a1, a2⟩ := apart hP
    refine PySem.W.makeFunction_K hcl I.ok.glob hgs hcode hC hP trivial rfl a1 a2 fun c' ctv doc h' tk hx2 hge hlt hrec htb => ?_
    obtain ⟨c2, oc, vs, t, e2, hoc, hd, hv⟩ := hrec
    cases e2
    have J := I.made3 (tk := tk) (fo := PySem.W.fnMade iname iq ip ib isc (closFrom X.env.cells isc.names []) doc ((X.mg "__name__").getD .none) c' ctv) ht hx2 hge hlt hoc htb rfl
    have gt : ∀ b o, H b = some o -> b ≠ h'.objs.size /\ b ≠ c' := fun b o e => by
      have l := I.hok.lt e
      exact ⟨yAP (Nat.lt_trans (yAS l hge) hlt), yAP (yAS l hge)⟩
    have hcc : CodeAt (upd (upd (upd H Pt (.tbl (#[] ++ #[rawInt pos.line, rawInt pos.col, .ref c']))) c' (FZ oc)) h'.objs.size (FZ (PySem.W.fnMade iname iq ip ib isc (closFrom X.env.cells isc.names []) doc ((X.mg "__name__").getD .none) c' ctv))) c' iq :=
      ⟨oc, vs, t, by rw [ZAH (yAP hlt), ZAG], hd, hv⟩
    refine fin J ⟨fun b o n e => ?_, .inr ⟨c', ?_, hcc⟩, ⟨doc, _, ctv, c', ZAG, hcc⟩, ?_⟩
    . rw [ZAH (gt b o e).1, ZAH (gt b o e).2, ZAH n]; exact e
    . rw [ZAH (gt Pt _ ht).1, ZAH (gt Pt _ ht).2, ZAG]; rfl
    . exact I.hok.fresh (yAK hge (yBI hlt))
  . have hP : s.heap.get? Pt = some (PySem.W.tabObj #[rawInt pos.line, rawInt pos.col, .ref c1]) := I.hok Pt _ ht
    obtain ⟨a1, a2⟩ := apart hP
    refine PySem.W.makeFunction_hit (cv := .ref c1) hcl I.ok.glob hgs hcode hC hP trivial ?_ a2 fun ctv doc h' tk hk hsz => ?_
    . simp [codeAmong, rawInt]
    have J := I.made1 (tk := tk) (fo := PySem.W.fnMade iname iq ip ib isc (closFrom X.env.cells isc.names []) doc ((X.mg "__name__").getD .none) c1 ctv) hk hsz rfl
    have gt : ∀ b o, H b = some o -> b ≠ h'.objs.size := fun b o e => yAP (yAS (I.hok.lt e) hsz)
    have old : ∀ b o, H b = some o -> upd H h'.objs.size (FZ (PySem.W.fnMade iname iq ip ib isc (closFrom X.env.cells isc.names []) doc ((X.mg "__name__").getD .none) c1 ctv)) b = some o := fun b o e => by rw [ZAH (gt b o e)]; exact e
    have hcc := hc1.mono (H' := upd H h'.objs.size (FZ (PySem.W.fnMade iname iq ip ib isc (closFrom X.env.cells isc.names []) doc ((X.mg "__name__").getD .none) c1 ctv))) fun b o e => old b _ e
    exact fin J ⟨fun b o _ e => old b o e, .inr ⟨c1, old _ _ ht, hcc⟩, ⟨doc, _, ctv, c1, ZAG, hcc⟩, I.hok.fresh hsz⟩
end
def ZDU (Pt : Addr) (pos : Pos) (iname iq : Str) (ip : Arguments) (ib : List Stmt) (isc : Scope) (fr : List Str) (ix : List Nat) (n : Nat) : Sp := fun vs H Q _ =>
  vs.length = n /\ TabSt H Pt pos iq /\ ∀ g H', MadeDef H H' Pt pos g iname iq ip ib isc fr (ix.map fun i => vs.getD i .non) -> Q (.ref g) H'
theorem teller_ok {P : Program} {w : World} {K : W.Frag} {mg : Str -> Option Value} {base : Heap} {x qual : Str} {st : Stmt} {f c Pt : Addr} {fd : FuncData} {ps : List Str} {iname iq : Str} {ip : Arguments} {ib : List Stmt} {isc : Scope} {pos rp rpos : Pos} {fr : List Str} {ix : List Nat}
    (F : Fun K x qual st f fd) (S : FnScope (ps ++ [iname]) ps (ZAC st)) (hcd : fd.code = .ref c) (C : PySem.W.CodeHd base c Pt) (B : ZDZ mg base)
    (hb : ZAL st = [.FunctionDef iname ip ib [] none [] isc none iname pos, .Return (some (.Name iname rp)) rpos]) (hiq : ∀ L cd, qualnameIn (envOfC qual (ZAC st) L f cd) iname iname = iq) (hd0 : ip.defaults = []) (hk0 : ip.kw_defaults = []) (ha : ∀ L cd, annTrees ip none (envOfC qual (ZAC st) L f cd) = [])
    (hloc : (ZAC st).names.lookup iname = some .local) (hdb : (iname == ("__debug__" : Str)) = false) (hcdn : (iname == ("__classdict__" : Str)) = false)
    (hfree : ∀ y ∈ isc.names, y.2 = .free -> y.1 ∈ fr) (hhas : ∀ y ∈ fr, (y, NameKind.free) ∈ isc.names) (hfc : ∀ y ∈ fr, (ZAC st).names.lookup y = some .cell) (hix : ∀ (j : Nat) (y : Str), fr[j]? = some y -> ∃ i, ix[j]? = some i /\ ps[i]? = some y) (hixl : ix.length = fr.length) :
    FnOk P w K mg base CX0 1 f fd ps (ZDU Pt pos iname iq ip ib isc fr ix ps.length) := by
  obtain ⟨oc, od, kV, doc, pm, an, cdv, ct, osl, rfl, lk, hcd2⟩ := F.ex
  have hcd' : cdv = .ref c := hcd
  refine ⟨fun vs H Q E h => h.1, fun A outer s H args us vs Q E hr e0 hbn r hsp => ?_⟩
  obtain ⟨hl, hT, hQ⟩ := hsp
  have KX : K.In s.heap := e0.mod.kin.keeps fun b o e => (e0.bs b o e).1
  have lim : s.heap.NoLimit := e0.mod.nolimit.keeps fun b o e => (e0.bs b o e).1
  have hkind : ∀ y ∈ ps.zip us, (ZAC st).names.lookup y.1 = some .local ∨ ((ZAC st).names.lookup y.1 = some .cell /\ ((cellsFrom (s.heap.objs.size + 1) (ZAC st).names []).lookup y.1).isSome = true) := fun ⟨n, v⟩ hy => by
    rcases S.par n (List.of_mem_zip hy).1 with q | q
    . exact .inl q
    . exact .inr ⟨q, PySem.W.cellsFrom_some _ _ _ (.inl q)⟩
  refine codeAny_call_function hr.depth (KX _ _ lk) rfl S.co S.gen rfl (PySem.W.codeRec_of KX hcd2) (hbn _ _ _ _ ?_)
  refine wpAny_newFunctionEnv_cells S.kind hkind fun env he s1 xx => ?_
  subst he
  refine ⟨lim.keeps xx.toInCall.keep, codeAny_func ?_⟩
  have I : Inv (cxOf CX0 P w K mg base (ps ++ [iname]) qual (ZAC st) f cdv A outer s H E).nox [] (start (ps ++ [iname]) vs) H s1 := (inv_start S hr.hd e0 hl r xx).wish _
  have cellHas : ∀ y ∈ fr, ∃ cc, (cellsFrom (s.heap.objs.size + 1) (ZAC st).names []).lookup y = some cc := fun y hy => ZCn (hfc y hy)
  rw [hb]
  have hiN : (ps ++ [iname])[ps.length]? = some iname := by simp
  have d1 := ps_def (X := (cxOf CX0 P w K mg base (ps ++ [iname]) qual (ZAC st) f cdv A outer s H E).nox) (i := ps.length) (pos := pos) (Pt := Pt) (c := c) (iq := iq) (ip := ip) (ib := ib) (isc := isc) S.nd hiN (.inl hloc) (.inr hloc) hcd' C B (hiq _ _) hd0 hk0 (ha _ _) fun y hy => cellHas y (hfree _ hy rfl)
  have hlen : (start (ps ++ [iname]) vs).length = ps.length + 1 := by
    unfold start
    simp only [yAA, yAD, yCC, yAI, yBV]
    omega
  have run := d1 [] s1 (start (ps ++ [iname]) vs) H { nx := fun σ' H' => ∃ g, σ' = (start (ps ++ [iname]) vs).set ps.length (some (.ref g)) /\ MadeMid H H' Pt pos g iname iq ip ib isc (closFrom (cellsFrom (s.heap.objs.size + 1) (ZAC st).names []) isc.names []), rt := fun _ _ => False } I ⟨hT, fun g H' M => ⟨g, rfl, M⟩⟩
  refine wpAny_execs_cons (wpAny_mono run (fun fl s2 q => ?_) fun e s' z => z.elim)
  cases fl with
  | ret v => obtain ⟨_, _, _, _, _, q⟩ := q; exact q.elim
  | brk => obtain ⟨_, _, _, q⟩ := q; exact q.elim
  | cont => obtain ⟨_, _, _, q⟩ := q; exact q.elim
  | next =>
    obtain ⟨σ', H', J, g, rfl, M⟩ := q
    have v1 := pe_var (pos := rp) (X := (cxOf CX0 P w K mg base (ps ++ [iname]) qual (ZAC st) f cdv A outer s H E).nox) hiN (.inl hloc) hdb hcdn [] s2 _ H' (fun v H2 => v = .ref g /\ H2 = H') J ⟨.ref g, by rw [List.getElem?_set_self (by rw [hlen]; omega)], rfl, rfl⟩
    refine wpAny_execs_cons (wpAny_Return_some (wpAny_mono v1 (fun u s3 q => ?_) fun e s' z => z.elim))
    obtain ⟨v, H2, J2, rv, rfl, rfl⟩ := q
    cases rv
    -- the cells are tracked
    have un : Un (frs outer) [] H H2 s.heap s3.heap := J2.base
    have nex : ∀ b : Addr, b ∉ ([] : List Addr) := fun b => by simp
    have inj := J2.ok.inj
    have cAt : ∀ (j : Nat) (y : Str), fr[j]? = some y -> ∃ v cc uu, (ix.map fun i => vs.getD i .non)[j]? = some v /\ (cellsFrom (s.heap.objs.size + 1) (ZAC st).names []).lookup y = some cc /\ RelV v uu /\ s3.heap.IsCell cc (some uu) := fun j y hj => by
      obtain ⟨i, h1, h2⟩ := hix j y hj
      have hi : i < ps.length := (yAH.mp h2).1
      obtain ⟨v, hv⟩ : ∃ v, vs[i]? = some v := ⟨_, yAQ (by omega)⟩
      obtain ⟨m, _, hm⟩ := J2.loc
      have hs : ((start (ps ++ [iname]) vs).set ps.length (some (.ref g)))[i]? = some (some v) := by
        rw [List.getElem?_set_ne (by omega)]
        unfold start
        rw [yBB (by rw [yAD]; omega), yAY, hv]
        rfl
      have hN : (ps ++ [iname])[i]? = some y := by rw [yBB hi]; exact h2
      obtain ⟨uu, ru, lk2⟩ := hm i y v hN hs (.inr (.inl (hfc y (yAV hj))))
      refine ⟨v, ?_⟩
      rcases lk2 with ⟨k1, _⟩ | ⟨_, cc, e1, e2⟩
      . have k2 : (ZAC st).names.lookup y = some .local := k1
        rw [hfc y (yAV hj)] at k2
        cases k2
      . refine ⟨cc, uu, ?_, e1, ru, e2⟩
        rw [yAY, h1]
        show some (vs.getD i .non) = some v
        rw [List.getD_eq_getElem?_getD, hv]
        rfl
    have clk : ∀ y cc, (closFrom (cellsFrom (s.heap.objs.size + 1) (ZAC st).names []) isc.names []).lookup y = some cc -> y ∈ fr /\ (cellsFrom (s.heap.objs.size + 1) (ZAC st).names []).lookup y = some cc := fun y cc h => by
      rcases ZBZ _ _ y cc (PySem.mem_of_lookup h) with z | ⟨z1, z2⟩
      . cases z
      . have hy := hfree _ z1 rfl
        obtain ⟨c3, h3⟩ := cellHas y hy
        rw [h3] at z2
        exact ⟨hy, by rw [h3]; exact congrArg some z2.symm⟩
    have clh : ∀ y cc, y ∈ fr -> (cellsFrom (s.heap.objs.size + 1) (ZAC st).names []).lookup y = some cc -> (closFrom (cellsFrom (s.heap.objs.size + 1) (ZAC st).names []) isc.names []).lookup y = some cc := fun y cc hy h => by
      obtain ⟨c3, h3⟩ := ZBP (ZBa (cells := cellsFrom (s.heap.objs.size + 1) (ZAC st).names []) isc.names [] y (hhas y hy))
      have := (clk y c3 h3).2
      rw [h] at this
      rw [h3, Option.some.inj this]
    have cnew : ∀ y cc, (closFrom (cellsFrom (s.heap.objs.size + 1) (ZAC st).names []) isc.names []).lookup y = some cc -> s.heap.objs.size <= cc /\ H2 cc = none /\ ∃ o u, s3.heap.get? cc = some o /\ o.data = .cell u := fun y cc h => by
      obtain ⟨hy, h2⟩ := clk y cc h
      obtain ⟨u, o, e1, e2⟩ := J2.cell y cc h2
      exact ⟨yBI (xx.above y cc (PySem.mem_of_lookup h2)), J2.freeC y cc h2, o, u, e1, e2⟩
    generalize closFrom (cellsFrom (s.heap.objs.size + 1) (ZAC st).names []) isc.names [] = cl at M clk clh cnew
    have tr : ∀ b, ¬ (∃ y, cl.lookup y = some b) -> back cl (fun b => (s3.heap.get? b).map FZ) H2 b = H2 b := fun b n => ZCE n
    have tc : ∀ y b o, cl.lookup y = some b -> s3.heap.get? b = some o -> back cl (fun b => (s3.heap.get? b).map FZ) H2 b = some (FZ o) := fun y b o h e => by rw [ZDA h, e]; rfl
    have oldn : ∀ b, b < s.heap.objs.size -> ¬ ∃ y, cl.lookup y = some b := fun b hb ⟨y, z⟩ => absurd (cnew y b z).1 (Nat.not_le.mpr hb)
    have up : ∀ b o, H2 b = some o -> back cl (fun b => (s3.heap.get? b).map FZ) H2 b = some o := fun b o e => by
      rw [tr b fun ⟨y, z⟩ => by rw [(cnew y b z).2.1] at e; cases e]; exact e
    refine ⟨.ref g, back cl (fun b => (s3.heap.get? b).map FZ) H2, J2.os, J2.bare, ⟨un.keep, un.slot, fun b o e n hx => ?_, un.there, fun b xs e => up _ _ (un.tups b xs e), fun b o u e => up _ _ (un.frzs b o u e), fun b qs e => ?_⟩, fun b o e => ?_, rfl, hQ g _ ⟨fun b o n e => up _ _ (M.same b o n e), ?_, ⟨cl, ?_, fun y cc h => (clk y cc h).1, fun y z cc h1 h2 => inj y z cc (clk y cc h1).2 (clk z cc h2).2, fun j y hj => ?_, ?_⟩, M.fresh⟩⟩
    . rw [tr b (oldn b (Heap.lt_size e))]; exact un.free b o e n hx
    . obtain ⟨more, e2⟩ := un.tbls b qs e
      exact ⟨more, up _ _ e2⟩
    . by_cases q : ∃ y, cl.lookup y = some b
      . obtain ⟨y, q⟩ := q
        obtain ⟨_, _, o2, u2, e2, _⟩ := cnew y b q
        rw [tc y b o2 q e2] at e
        cases e
        exact ZEL e2
      . rw [tr b q] at e
        exact (J2.hok b o e).stay (fun c v _ q => q) (fun c q => up c _ q) fun c xs q => up c _ q
    . exact M.tab.mono (by
        rcases M.tab with z | ⟨_, z, _⟩
        . rw [z]; exact up _ _ z
        . rw [z]; exact up _ _ z) fun b o e => up b _ e
    . obtain ⟨d1, d2, d3, c3, e1, e2⟩ := M.obj
      exact ⟨d1, d2, d3, c3, up _ _ e1, e2.mono fun b o e => up b _ e⟩
    . obtain ⟨v, cc, uu, a1, a2, a3, o, a4, a5⟩ := cAt j y hj
      have hl2 := clh y cc (yAV hj) a2
      exact ⟨v, cc, uu, o, a1, hl2, a3, tc y cc o hl2 a4, a5⟩
    . rw [yAD]; exact hixl
def ZEp (tabs : List (Addr × Addr)) (H : Hp) : Prop := ∀ q ∈ tabs, H q.2 = some (.tbl #[])
theorem law_callT {P : Program} {w : World} {K : W.Frag} {mg mb : Str -> Option Value} {CX : CXT} {k : Nat} {fa a : Addr} {fd : FuncData} {x : Str} {sp : Sp} {s₁ : Shared} {vs : List Value} {ns : List Int} {tabs : List (Addr × Addr)}
    (KX : K.In s₁.heap) (hns : s₁.heap.Ns mainGlobals mg) (hb : s₁.heap.Ns builtinsNs mb) (hbb : ∀ x : Str, x ≠ "__name__" -> mb x = bootBuiltins x) (hlim : s₁.heap.NoLimit) (hg : s₁.gens = #[])
    (ha : s₁.heap.get? a = some { cls := .type "list", data := .seq vs.toArray }) (hi : IntsAre vs ns) (hl : ns.length <= sizeLine) (hr : Room k callerA)
    (hT : ∀ q ∈ tabs, PySem.W.CodeHd s₁.heap q.1 q.2 /\ s₁.heap.get? q.2 = some (PySem.W.tabObj #[])) (nt : PySem.W.noTabs K = true) (hbm : ZDZ mg s₁.heap)
    (F : ∀ base : Heap, K.In base -> base.Ns mainGlobals mg -> (∀ q ∈ tabs, PySem.W.CodeHd base q.1 q.2) -> ZDZ mg base -> FnOk P w K mg base CX k fa fd [x] sp) (hbind : ∀ (s : Shared) (u : Value), BindsTo s fd ⟨[u], []⟩ [(x, u)])
    (hsp : ∀ H : Hp, ZEp tabs H -> SqL K H a (ns.map V.int) -> sp [.ref a] H (fun v _ => v = .bl true) fun _ _ _ => False)
    (hCX : ∀ H e s', CX [] H s₁ (fun _ _ _ => False) e s' -> False) :
    codeAny (model P w) callerA (.call (.ref fa) ⟨[.ref a], []⟩) (fun r s' => r = .ok (.ret (.bool true)) /\ OldK s₁.heap s'.heap /\ s'.os = s₁.os /\ AllBare s'.gens) s₁ := by
  have rv := ZCo hi
  have lenV := hi.length
  have core : ∀ H : Hp, SqL K H a (ns.map V.int) -> HOk P w H s₁.heap -> (∀ b o, H b = some o -> (b = a /\ K.lookup a = none /\ ∃ ob xs, o = .frz ob (.lst xs)) ∨ (o = .tbl #[] /\ ∃ q ∈ tabs, q.2 = b)) -> ZEp tabs H ->
      codeAny (model P w) callerA (.call (.ref fa) ⟨[.ref a], []⟩) (fun r s' => r = .ok (.ret (.bool true)) /\ OldK s₁.heap s'.heap /\ s'.os = s₁.os /\ AllBare s'.gens) s₁ := by
    intro H hS hok hA hO
    have base_of : ∀ {b : Addr} {o : Obj}, s₁.heap.get? b = some o -> H b = none -> (hidT s₁.heap H).get? b = some o := fun e n => hidT_get e n
    have noObj : ∀ {b : Addr} {o : Obj}, s₁.heap.get? b = some o -> (∀ vs' n', o.data ≠ .seq vs' n') -> (o.cls = .none -> ∀ vs', o.data ≠ .fields vs') -> H b = none := fun {b o} e d1 d2 => by
      cases q : H b with
      | none => rfl
      | some u =>
        rcases hA b u q with ⟨e', _⟩ | ⟨_, q', hq, e'⟩
        . subst e'
          rw [ha] at e; cases e
          exact absurd rfl (d1 _ _)
        . subst e'
          rw [(hT q' hq).2] at e; cases e
          exact absurd rfl (d2 rfl _)
    have nsK : ∀ {b : Addr} {m : Str -> Option Value}, s₁.heap.Ns b m -> (hidT s₁.heap H).Ns b m := fun {b m} ⟨o, es, ep, e, d, r⟩ => ⟨o, es, ep, base_of e (noObj e (by rw [d]; intro _ _ z; cases z) (fun _ => by rw [d]; intro _ z; cases z)), d, r⟩
    have hKb : K.In (hidT s₁.heap H) := fun b o e => base_of (KX b o e) (by
      cases q : H b with
      | none => rfl
      | some u =>
        rcases hA b u q with ⟨e', n, _⟩ | ⟨_, q', hq, e'⟩
        . subst e'; rw [n] at e; cases e
        . subst e'
          have e2 := KX _ _ e
          rw [(hT q' hq).2] at e2
          cases e2
          have h2 := List.all_eq_true.mp nt _ (PySem.W.mem_of_lookupK e)
          exact absurd (show false = true from h2) yBJ)
    have hM : Mod K mg (hidT s₁.heap H) := ⟨hKb, nsK hns, ⟨mb, nsK hb, hbb⟩, let ⟨mc, h1, h2⟩ := hlim; ⟨mc, nsK h1, h2⟩⟩
    have e0 : Env0 P w K mg (hidT s₁.heap H) callerA [] s₁ H := ⟨rfl, hM, fun b o e => of_hidT e, Nat.le_of_eq (hidT_size _ _), trivial, fun b hb => absurd (show b ∈ ([] : List Addr) from hb) (by simp), hok, .of_eq hg⟩
    have hC : ∀ q ∈ tabs, PySem.W.CodeHd (hidT s₁.heap H) q.1 q.2 := fun q hq => by
      obtain ⟨o, vs, file, tf, flags, tg, inF, text, tt, e1, e2, e3, r⟩ := (hT q hq).1
      exact ⟨o, vs, file, tf, flags, tg, inF, text, tt, base_of e1 (noObj e1 (by rw [e3]; intro _ _ z; cases z) (fun z => by rw [e2] at z; cases z)), e2, e3, r⟩
    have hB : ZDZ mg (hidT s₁.heap H) := by
      obtain ⟨bm, ob, b1, b2, b3, b4, b5, b6⟩ := hbm
      exact ⟨bm, ob, b1, b2, base_of b3 (noObj b3 (by rw [b6]; intro _ _ z; cases z) (fun z => by rw [b4] at z; cases z)), b4, b5, b6⟩
    refine codeAny_mono ((F _ hKb (nsK hns) hC hB).run callerA [] s₁ H ⟨[.ref a], []⟩ [.ref a] [.ref a] _ _ hr e0 (hbind s₁ (.ref a)) (.cons rfl .nil) (hsp H hO hS)) fun r s' h => ?_
    cases r with
    | error e => exact (hCX H e s' h).elim
    | ok fl =>
      cases fl with
      | next => exact False.elim h
      | brk => exact False.elim h
      | cont => exact False.elim h
      | ret u =>
        obtain ⟨v, H', os, bare, un, hok', r', q⟩ := h
        have q' : v = .bl true := q
        subst q'
        obtain rfl : u = Value.bool true := r'
        have nfs : ∀ b : Addr, b ∉ frs ([] : List Env) := fun b z => absurd (show b ∈ ([] : List Addr) from z) (by simp)
        refine ⟨rfl, ⟨fun b o e => ?_, fun b o e => un.there b o e (by simp)⟩, os, bare⟩
        cases q : H b with
        | none => exact .inl (un.keep b o e q (nfs b) (by simp))
        | some u =>
          rcases hA b u q with ⟨_, _, ob, xs, z⟩ | ⟨z, q', hq, e'⟩
          . subst z
            have z2 := un.frzs b ob _ q
            obtain ⟨e1, _⟩ := hok b _ q
            obtain ⟨e2, _⟩ := hok' b _ z2
            rw [e] at e1; cases e1
            exact .inl e2
          . subst z
            subst e'
            obtain ⟨more, z2⟩ := un.tbls _ _ q
            have e2 : s'.heap.get? q'.2 = some (PySem.W.tabObj (#[] ++ more)) := hok' _ _ z2
            have e3 := (hT q' hq).2
            rw [e] at e3
            have e4 : o = PySem.W.tabObj #[] := Option.some.inj e3
            subst e4
            exact .inr (.inl ⟨((hT q' hq).1.tab (hT q' hq).2).isCodeTable, rfl, #[], more, rfl, e2⟩)
  have tabA : ∀ q ∈ tabs, q.2 ≠ a := fun q hq z => by
    have e := (hT q hq).2
    rw [z, ha] at e; cases e
  cases hk : K.lookup a with
  | some o =>
    have e := KX a o hk
    rw [ha] at e
    cases e
    refine core (fun b => if b ∈ tabs.map (·.2) then some (.tbl #[]) else none) (.inr ⟨_, vs.toArray, _, hk, rfl, rfl, rfl, by rw [yAM, lenV]; exact hl, by simpa using rv⟩) (fun b u z => ?_) (fun b u z => ?_) fun q hq => if_pos (List.mem_map_of_mem hq)
    . by_cases hb : b ∈ tabs.map (·.2)
      . have z' := (if_pos hb).symm.trans z
        cases z'
        obtain ⟨q, hq, rfl⟩ := List.mem_map.mp hb
        exact (hT q hq).2
      . have z' := (if_neg hb).symm.trans z
        cases z'
    . by_cases hb : b ∈ tabs.map (·.2)
      . have z' := (if_pos hb).symm.trans z
        cases z'
        obtain ⟨q, hq, e⟩ := List.mem_map.mp hb
        exact .inr ⟨rfl, q, hq, e⟩
      . have z' := (if_neg hb).symm.trans z
        cases z'
  | none =>
    refine core (fun b => if b ∈ tabs.map (·.2) then some (.tbl #[]) else if b = a then some (.frz { cls := .type "list", data := .seq vs.toArray } (.lst (ns.map V.int))) else none) (.inl (.inr ⟨{ cls := .type "list", data := .seq vs.toArray }, ?_⟩)) (fun b u z => ?_) (fun b u z => ?_) fun q hq => if_pos (List.mem_map_of_mem hq)
    . dsimp only
      rw [if_neg, if_pos rfl]
      intro z
      obtain ⟨q, hq, e⟩ := List.mem_map.mp z
      exact tabA q hq e
    . by_cases hb : b ∈ tabs.map (·.2)
      . have z' := (if_pos hb).symm.trans z
        cases z'
        obtain ⟨q, hq, rfl⟩ := List.mem_map.mp hb
        exact (hT q hq).2
      . have z' := (if_neg hb).symm.trans z
        by_cases hba : b = a
        . have z' := (if_pos hba).symm.trans z'
          cases z'
          subst hba
          exact ⟨ha, by rw [yAD]; exact hl, vs, _, rv, ha⟩
        . have z' := (if_neg hba).symm.trans z'
          cases z'
    . by_cases hb : b ∈ tabs.map (·.2)
      . have z' := (if_pos hb).symm.trans z
        cases z'
        obtain ⟨q, hq, e⟩ := List.mem_map.mp hb
        exact .inr ⟨rfl, q, hq, e⟩
      . have z' := (if_neg hb).symm.trans z
        by_cases hba : b = a
        . have z' := (if_pos hba).symm.trans z'
          cases z'
          exact .inl ⟨hba, hk, _, _, rfl⟩
        . have z' := (if_neg hba).symm.trans z'
          cases z'
def ZEA (K : W.Frag) (tabs : List (Addr × Addr)) : Sp := fun vs H Q _ => ∃ (a : Addr) (ns : List Int), vs = [.ref a] /\ SqL K H a (ns.map V.int) /\ ns.length <= 63 /\ ZEp tabs H /\ ∀ H', Q (.bl true) H'
theorem tabIn_of {K : W.Frag} {x : Str} {f c Pt : Addr} {oc oc2 : Value} {od od2 : Option Addr} {fd : FuncData} {sl sl2 : Array (Option Value)} {vs : Array Value} (a : W.nsIn K mainGlobals x = some (some (.ref f))) (l : K.lookup f = some ⟨oc, od, .func fd, sl⟩) (hc : fd.code = .ref c)
    (lc : K.lookup c = some ⟨oc2, od2, .fields vs, sl2⟩) (tp : vs[11]? = some (.ref Pt)) : PySem.W.tabIn K x = some (c, Pt) := by
  unfold PySem.W.tabIn
  rw [a]
  dsimp only
  rw [l]
  dsimp only
  rw [hc]
  dsimp only
  rw [lc]
  dsimp only
  rw [tp]
theorem walk_ofT2 {l : PySem.W.OpenLaw} {k : Nat} {q : Program} {loose : List Str} {XP : (Str -> Option Value) -> Heap -> Prop} {YP : World -> Heap -> Prop} {d : DefRec} {K : Params -> W.Frag} {x : Str} {names : List Str}
    (hn : l.most = some 63) (hdf : d.params.defaults = []) (hr : Room k callerA)
    (hY : ∀ (w : World) (h : Heap), YP w h -> (K w.params).In h) (hrec : ∀ y ∈ names, ∃ dr, (recsOf q).find? (fun e => e.name == y) = some dr)
    (F : ∀ (w : World) (mg : Str -> Option Value) (fa : Addr) (h : Heap), (K w.params).In h -> h.Ns mainGlobals mg -> mg d.name = some (.ref fa) ->
      ∃ (tabs : List (Addr × Addr)) (fd : FuncData), PySem.W.noTabs (K w.params) = true /\ (∀ t ∈ tabs, ∃ y ∈ names, PySem.W.tabIn (K w.params) y = some t) /\ (∀ (s : Shared) (u : Value), BindsTo s fd ⟨[u], []⟩ [(x, u)]) /\
        ∀ base : Heap, (K w.params).In base -> base.Ns mainGlobals mg -> (∀ t ∈ tabs, PySem.W.CodeHd base t.1 t.2) -> ZDZ mg base -> FnOk l.prog w (K w.params) mg base CX0 k fa fd [x] (ZEA (K w.params) tabs)) :
    PySem.W.WalkO q loose XP YP l.row.toRowW d [] (fun f vs => PySem.call f vs) := by
  refine Att.attach_call hn hdf fun w s₀ s₁ mg mb fa o pm cd doc a vs ns G Y ho hd hcd hmg hobj hints hlen hg => ?_
  have KX := hY w _ Y
  obtain ⟨tabs, fd, nt, ht, hb, hF⟩ := F w mg fa _ KX G.T.g hmg
  refine law_callT (tabs := tabs) KX G.T.g G.T.b G.T.builtins G.T.nolimit hg hobj hints (yAK hlen (by decide)) hr (fun t h2 => ?_) nt G.T.bmain hF hb (fun H hO hS => ⟨a, ns, rfl, hS, hlen, hO, fun _ => rfl⟩) fun H e s' z => z
  obtain ⟨y, hy, e2⟩ := ht t h2
  obtain ⟨dr, e1⟩ := hrec y hy
  exact PySem.W.tab_of G.T KX e1 e2
theorem hix_of {ix : List Nat} {ps fr : List Str} (h : ix.map (fun i => ps[i]?) = fr.map some) : ∀ (j : Nat) (y : Str), fr[j]? = some y -> ∃ i, ix[j]? = some i /\ ps[i]? = some y := fun j y e => by
  have := congrArg (fun l => l[j]?) h
  simp only [yAY, e, Option.map_some] at this
  cases q : ix[j]? with
  | none => rw [q] at this; cases this
  | some i => rw [q] at this; exact ⟨i, rfl, by simpa using this⟩
def inBody (s : Stmt) (j : Nat) : Stmt := (ZAL s).getD j (.Pass ⟨0, 0, 0, 0⟩)
def ZBM (s : Stmt) : Pos := match s with
  | .FunctionDef _ _ _ _ _ _ _ _ _ pos => pos
  | _ => ⟨0, 0, 0, 0⟩
theorem cx_cloK {P : Program} {w : World} {K : W.Frag} {mg : Str -> Option Value} {base : Heap} {N : List Str} {qual : Str} {scope : Scope} {f : Addr} {cd : Value} {cl : List (Str × Addr)} {A : Around} {outer : List Env} {s : Shared} {H : Hp} : (ZD2 P w K mg base N qual scope f cd cl A outer s H).K = K := rfl
section
variable {prog : Program} {w : World} {A : Around} {R : Result -> Shared -> Prop} {I : Addr} {fp wr : List Addr} {n : Nat} {P : Nat -> Value -> Prop} {St : Nat -> Heap -> Prop}
end
section
variable {prog : Program} {w : World} {A : Around} {E : Value -> Shared -> Prop} {s : Shared} {l : Addr}
end
def maxD (d : Int) : List Int -> Int
  | [] => d
  | x :: r => r.foldl (fun m y => if m < y then y else m) x
section
variable {X : Cx} {e d : Expr} {te td : TE} {p pos : Pos} {kpos : Pos}
def tMaxD (K : W.Frag) (te td : TE) : TE := fun σ H Q => te σ H fun x H1 => td σ H1 fun y H2 => ∃ a ns dd, x = .ref a /\ y = .int dd /\ SqL K H2 a (ns.map V.int) /\ Q (.int (maxD dd ns)) H2
end
theorem lkc {k k' : Str} {v : V} {r : List (Str × V)} : List.lookup k ((k', v) :: r) = if k = k' then some v else List.lookup k r := by
  rw [yBS]
  by_cases h : k = k'
  . subst h; simp
  . have : (k == k') = false := by simpa using h
    rw [this, if_neg h]
theorem ZBd {f : Str} {v u : V} : ∀ {fs : List (Str × V)}, fs.lookup f = some u -> (putF f v fs).length = fs.length
  | [], h => by cases h
  | (g, w) :: r, h => by
    unfold putF
    by_cases e : g = f
    . rw [if_pos e]; rfl
    . rw [if_neg e, yAI, yAI]
      rw [lkc, if_neg (fun z => e z.symm)] at h
      rw [ZBd h]
structure Ins (H : Hp) (a C : Addr) (fl : List (Str × V)) : Prop where
  ex : ∃ dx fs, H a = some (.ins C dx fs) /\ fs.length <= 50 /\ ∀ f, fs.lookup f = fl.lookup f
theorem Ins.of {H : Hp} {a C dx : Addr} {fl : List (Str × V)} (h : H a = some (.ins C dx fl)) (hl : fl.length <= 50) : Ins H a C fl := ⟨dx, fl, h, hl, fun _ => rfl⟩
theorem Ins.congr {H : Hp} {a C : Addr} {fl fl' : List (Str × V)} (h : Ins H a C fl) (e : ∀ f, fl.lookup f = fl'.lookup f) : Ins H a C fl' := let ⟨dx, fs, h1, h2, h3⟩ := h.ex; ⟨dx, fs, h1, h2, fun f => (h3 f).trans (e f)⟩
theorem Ins.mono {H H' : Hp} {a C : Addr} {fl : List (Str × V)} (h : Ins H a C fl) (s : Same H H') : Ins H' a C fl := let ⟨dx, fs, h1, h2, h3⟩ := h.ex; ⟨dx, fs, s _ _ h1, h2, h3⟩
theorem Ins.keep {H H' : Hp} {a C : Addr} {fl : List (Str × V)} (h : Ins H a C fl) (s : H' a = H a) : Ins H' a C fl := let ⟨dx, fs, h1, h2, h3⟩ := h.ex; ⟨dx, fs, s.trans h1, h2, h3⟩
theorem Ins.ne {H : Hp} {a b C : Addr} {fl : List (Str × V)} {o : HO} (h : Ins H a C fl) (hb : H b = some o) (n : ∀ C dx fs, o ≠ .ins C dx fs) : b ≠ a := fun z => by
  obtain ⟨dx, fs, h1, _⟩ := h.ex
  rw [z, h1] at hb
  exact n _ _ _ (Option.some.inj hb).symm
theorem Ins.neN {H : Hp} {a b C : Addr} {fl : List (Str × V)} (h : Ins H a C fl) (hb : H b = none) : b ≠ a := fun z => by
  obtain ⟨dx, fs, h1, _⟩ := h.ex
  rw [z, h1] at hb; cases hb
section
variable {K : W.Frag} {f : Str} {a C : Addr} {fl : List (Str × V)} {v : V} {H : Hp}
theorem Ins.get {Q : VK} (h : Ins H a C fl) (cl : Cls K C) (n : NoAttr K C f) (l : fl.lookup f = some v) (q : Q v H) : getF K f (.ref a) H Q := by
  obtain ⟨dx, fs, h1, h2, h3⟩ := h.ex
  exact getF_of h1 cl n ((h3 f).trans l) q
theorem Ins.set {Q : Hp -> Prop} (h : Ins H a C fl) (cl : Cls K C) (n : NoAttr K C f) (q : ∀ H', Ins H' a C (putF f v fl) -> (∀ b, b ≠ a -> H' b = H b) -> Q H') (hl : ∃ u, fl.lookup f = some u) : setF K f (.ref a) v H Q := by
  obtain ⟨dx, fs, h1, h2, h3⟩ := h.ex
  obtain ⟨u, hu⟩ := hl
  refine setF_of h1 cl n (by omega) (q _ ⟨dx, _, ZAG, ?_, fun g => ?_⟩ fun b hb => ZAH hb)
  . rw [ZBd ((h3 f).trans hu)]; exact h2
  . rw [ZAc, ZAc, h3]
theorem Ins.meth {m : Str} {R : Prop} (h : Ins H a C fl) (l : fl.lookup m = none) (q : R) : ∃ b dx fs, V.ref a = .ref b /\ H b = some (.ins C dx fs) /\ fs.lookup m = none /\ R := by
  obtain ⟨dx, fs, h1, h2, h3⟩ := h.ex
  exact ⟨a, dx, fs, rfl, h1, (h3 m).trans l, q⟩
end
def augA (K : W.Frag) (tv : TE) (rd : V -> V -> Hp -> VK -> Prop) (f : Str) (D : Ends) (σ : St) (x : V) (H1 : Hp) : Prop := ∃ a C dx fs v, x = .ref a /\ H1 a = some (.ins C dx fs) /\ Cls K C /\ NoAttr K C f /\ fs.lookup f = some v /\
  tv σ H1 fun y H2 => rd v y H2 fun z H3 => ∃ dx' fs', H3 a = some (.ins C dx' fs') /\ fs'.length < 1000 /\ D.nx σ (upd H3 a (.ins C dx' (putF f z fs')))
theorem sFldAug_eq {K : W.Frag} {ta tv : TE} {rd : V -> V -> Hp -> VK -> Prop} {f : Str} {D : Ends} {σ : St} {H : Hp} : sFldAug K ta tv rd f D σ H = ta σ H (fun x H1 => augA K tv rd f D σ x H1) := rfl
theorem Ins.aug {K : W.Frag} {f : Str} {a C : Addr} {fl : List (Str × V)} {i j : Int} {H : Hp} {D : Ends} {σ : St} (h : Ins H a C fl) (cl : Cls K C) (n : NoAttr K C f) (l : fl.lookup f = some (.int i))
    (q : ∀ H', Ins H' a C (putF f (.int (i + j)) fl) -> (∀ b, b ≠ a -> H' b = H b) -> D.nx σ H') : augA K (tC (.int j)) rAdd f D σ (.ref a) H := by
  obtain ⟨dx, fs, h1, h2, h3⟩ := h.ex
  refine ⟨a, C, dx, fs, _, rfl, h1, cl, n, (h3 f).trans l, i, j, rfl, rfl, dx, fs, h1, by omega, q _ ⟨dx, _, ZAG, ?_, fun g => ?_⟩ fun b hb => ZAH hb⟩
  . rw [ZBd ((h3 f).trans l)]; exact h2
  . rw [ZAc, ZAc, h3]
theorem setX {K : W.Frag} {f : Str} {a C dx : Addr} {fs : List (Str × V)} {v : V} {H : Hp} {Q : Hp -> Prop} (h : H a = some (.ins C dx fs)) (cl : Cls K C) (n : NoAttr K C f) (hl : fs.length <= 20) (q : ∀ H', H' a = some (.ins C dx (putF f v fs)) -> (∀ b, b ≠ a -> H' b = H b) -> Q H') : setF K f (.ref a) v H Q :=
  setF_of h cl n (by omega) (q _ ZAG fun b hb => ZAH hb)
theorem ZAQ {f : Str} {v : V} {fs : List (Str × V)} {n : Nat} (h : fs.length <= n) : (putF f v fs).length <= n + 1 := yAK (ZCI f v fs) (Nat.succ_le_succ h)
theorem ZES {f0 : Str} {v0 : V} : (putF f0 v0 []).length <= 20 := yAK (ZAQ (yAB 0)) (by decide)
theorem ZER {f0 f1 : Str} {v0 v1 : V} : (putF f1 v1 (putF f0 v0 [])).length <= 20 := yAK (ZAQ (ZAQ (yAB 0))) (by decide)
theorem ZEQ {f0 f1 f2 : Str} {v0 v1 v2 : V} : (putF f2 v2 (putF f1 v1 (putF f0 v0 []))).length <= 20 := yAK (ZAQ (ZAQ (ZAQ (yAB 0)))) (by decide)
theorem ZEj {f0 f1 f2 f3 : Str} {v0 v1 v2 v3 : V} : (putF f3 v3 (putF f2 v2 (putF f1 v1 (putF f0 v0 [])))).length <= 20 := yAK (ZAQ (ZAQ (ZAQ (ZAQ (yAB 0))))) (by decide)
theorem putL5 {f0 f1 f2 f3 f4 : Str} {v0 v1 v2 v3 v4 : V} : (putF f4 v4 (putF f3 v3 (putF f2 v2 (putF f1 v1 (putF f0 v0 []))))).length <= 20 := yAK (ZAQ (ZAQ (ZAQ (ZAQ (ZAQ (yAB 0)))))) (by decide)
theorem putL6 {f0 f1 f2 f3 f4 f5 : Str} {v0 v1 v2 v3 v4 v5 : V} : (putF f5 v5 (putF f4 v4 (putF f3 v3 (putF f2 v2 (putF f1 v1 (putF f0 v0 [])))))).length <= 20 := yAK (ZAQ (ZAQ (ZAQ (ZAQ (ZAQ (ZAQ (yAB 0))))))) (by decide)
theorem putL7 {f0 f1 f2 f3 f4 f5 f6 : Str} {v0 v1 v2 v3 v4 v5 v6 : V} : (putF f6 v6 (putF f5 v5 (putF f4 v4 (putF f3 v3 (putF f2 v2 (putF f1 v1 (putF f0 v0 []))))))).length <= 20 := yAK (ZAQ (ZAQ (ZAQ (ZAQ (ZAQ (ZAQ (ZAQ (yAB 0)))))))) (by decide)
theorem putL8 {f0 f1 f2 f3 f4 f5 f6 f7 : Str} {v0 v1 v2 v3 v4 v5 v6 v7 : V} : (putF f7 v7 (putF f6 v6 (putF f5 v5 (putF f4 v4 (putF f3 v3 (putF f2 v2 (putF f1 v1 (putF f0 v0 [])))))))).length <= 20 := yAK (ZAQ (ZAQ (ZAQ (ZAQ (ZAQ (ZAQ (ZAQ (ZAQ (yAB 0))))))))) (by decide)
theorem mx_eq (p q : Int) : (if q > p then q else p) = max p q := by split <;> omega
theorem ZEW (p q : Int) : (if q < p then q else p) = min p q := by split <;> omega
section
variable {X : Cx}
end
theorem ZCK {us ds : List Value} {ps : List Str} {n : Nat} (h : (us ++ ds).length = ps.length) (e : n + ds.length = ps.length) : us.length = n := by
  rw [yAA] at h; omega
def Fr (S : List Addr) (H H' : Hp) : Prop := ∀ b o, b ∉ S -> H b = some o -> H' b = some o
theorem Fr.refl {S : List Addr} {H : Hp} : Fr S H H := fun _ _ _ h => h
theorem Fr.trans {S : List Addr} {H H' H'' : Hp} (e : Fr S H H') (f : Fr S H' H'') : Fr S H H'' := fun b o n h => f b o n (e b o n h)
theorem Same.fr {S : List Addr} {H H' : Hp} (e : Same H H') : Fr S H H' := fun b o _ h => e b o h
theorem Fr.upd {S : List Addr} {H : Hp} {l : Addr} {o : HO} (h : l ∈ S) : Fr S H (upd H l o) := fun b o' n e => by
  have z : b ≠ l := fun z => n (by rw [z]; exact h)
  rw [ZAH z]; exact e
end L2
namespace PySem
namespace F
end F
section
variable {prog : Program} {w : World} {A : Around} {s : Shared} {R : Result -> Shared -> Prop}
variable {I : Addr} {fp wr : List Addr} {G : Array GenState -> Array GenState -> Prop} {n : Nat} {P : Nat -> Value -> Prop} {St : Nat -> Shared -> Prop}
end
section
variable {prog : Program} {w : World} {A : Around} {E : Value -> Shared -> Prop} {s : Shared}
variable {I : Addr} {fp wr : List Addr} {G : Array GenState -> Array GenState -> Prop} {n : Nat} {P : Nat -> Value -> Prop} {St : Nat -> Shared -> Prop}
end
end PySem
namespace L2
open PySem PySem.Spec PyProof.Rows
def tRevL (K : W.Frag) (t : TA) : TE := fun σ H Q => t σ H fun vs H1 => ∃ (l : Addr) (ys : List V), vs = [.ref l] /\ SqL K H1 l ys /\ ∀ r, H1 r = none -> Q (.ref r) (upd H1 r (.lst ys.reverse))
section
variable {X : Cx} {e : Expr} {ta : TA} {p p2 pos pos2 : Pos}
end
theorem neD_refl {K : W.Frag} {H : Hp} {x y : V} {d : PyData} {Q : VK} (hx : Dp K H d x) (hy : Dp K H d y) (hc : d.canLay0 = true) (hd : d.depth <= 64) (q : Q (.bl false) H) : rNeD K x y H Q :=
  ⟨d, d, hx, hy, hc, hc, hd, by rw [PySem.SeqAt.eqv_refl d hc]; exact q⟩
def compR2 (g : TG) (tt : TT) (te : TE) (σ0 : St) (Q : VK) (x y : V) (H1 : Hp) : Prop := ∃ i j : Int, [x, y] = [.int i, .int j] /\ (-(2 ^ 62) <= i /\ i < 2 ^ 62 /\ -(2 ^ 62) <= j /\ j < 2 ^ 62) /\ compR i g tt te σ0 Q (j - i).toNat H1
theorem tCompR2_eq {k : Nat} {js : List Nat} {t u : TE} {g : TG} {tt : TT} {te : TE} {σ : St} {H : Hp} {Q : VK} : ZDc k js (ZEm (ZB8 t (ZB8 u tNil))) g tt te σ H Q = t σ H (fun x H1 => u σ H1 fun y H2 => compR2 g tt te (up k js σ) Q x y H2) := rfl
section
variable {X : Cx}
end
def Itz (K : W.Frag) (a b : Addr) : It :=
  ⟨fun i H => ∃ xs x ys y, SqL K H a xs /\ xs[i]? = some x /\ SqL K H b ys /\ ys[i]? = some y, fun i H v H' => ∃ p x y, H p = none /\ (∀ xs, SqL K H a xs -> xs[i]? = some x) /\ (∀ ys, SqL K H b ys -> ys[i]? = some y) /\ H' = upd H p (.tup [x, y]) /\ v = .ref p, fun i H => ∃ xs ys, SqL K H a xs /\ SqL K H b ys /\ (xs.length <= i ∨ ys.length <= i)⟩
section
variable {X : Cx}
def iZip (K : W.Frag) (ta : TA) : TI := fun σ H R => ta σ H fun vs H1 => ∃ a b, vs = [.ref a, .ref b] /\ (∃ xs, SqL K H1 a xs) /\ (∃ xs, SqL K H1 b xs) /\ R (Itz K a b) H1
end
section
variable {K : W.Frag} {a b : Addr} {xs ys : List V} {g : TG} {tb : TS} {D : Ends} {σ : St} {H : Hp}
def forZ (K : W.Frag) (g : TG) (tb : TS) (D : Ends) (σ : St) (x y : V) (H1 : Hp) : Prop := ∃ a b, [x, y] = [.ref a, .ref b] /\ (∃ xs, SqL K H1 a xs) /\ (∃ xs, SqL K H1 b xs) /\ ∃ W : Nat -> Nat -> St -> Hp -> Prop, (∃ m, W 0 m σ H1) /\ ∀ i m σ H, W i m σ H ->
  ((Itz K a b).stop i H /\ D.nx σ H) ∨ ((Itz K a b).go i H /\ ∃ N : St -> Hp -> Prop, (∀ σ' H', N σ' H' -> ∃ m', m' < m /\ W (i + 1) m' σ' H') /\ ∀ x H', (Itz K a b).yld i H x H' -> g x σ H' fun σ2 H2 => tb { D with nx := N, ct := N, bk := D.nx } σ2 H2)
theorem tForZ_eq {t u : TE} : tFor (iZip K (ZB8 t (ZB8 u tNil))) g tb D σ H = t σ H (fun x H1 => u σ H1 fun y H2 => forZ K g tb D σ x y H2) := rfl
end
section
open PySem.SeqAt
open PySem.AutoSeq1 (wpAny_loadPart')
open PySem.MeetsSeq PySem.MeetsSeq2 PySem.MeetsSeq3 HT
end
section
variable {prog : Program} {w : World} {A : Around} {E : Value -> Shared -> Prop} {s : Shared}
end
section
variable {X : Cx}
end
section
variable {κ : Type} [DecidableEq κ]
def valV (kvs : List (κ × V)) (k : κ) : Option V := (kvs.find? fun kv => decide (kv.1 = k)).map (·.2)
def putK (kvs : List (κ × V)) (k : κ) (v : V) : List (κ × V) :=
  if (kvs.any fun kv => decide (kv.1 = k)) = true then kvs.map (fun kv => if kv.1 = k then (kv.1, v) else kv) else kvs ++ [(k, v)]
end
section
variable {P : Program} {w : World} {H : Hp} {h : Heap} {a : Addr}
end
def DGet (H : Hp) (a : Addr) (y : V) (r : Option V) : Prop :=
  (∃ kvs k, Rd H a (.dK kvs) /\ y = kV k /\ r = valV kvs k) ∨ ∃ kvs k b, Rd H a (.dT kvs) /\ y = .ref b /\ H b = some (.tup (k.map kV)) /\ r = valV kvs k
def DPut (H : Hp) (a : Addr) (y v : V) (H' : Hp) : Prop :=
  (∃ kvs k, H a = some (.dK kvs) /\ y = kV k /\ kvs.length < sizeLine /\ H' = upd H a (.dK (putK kvs k v))) ∨
  ∃ kvs k b, H a = some (.dT kvs) /\ y = .ref b /\ H b = some (.tup (k.map kV)) /\ kvs.length < sizeLine /\ H' = upd H a (.dT (putK kvs k v))
section
variable {X : Cx} {pins : List (Addr × Obj)} {σ : St} {H : Hp} {s : Shared} {a : Addr} {y v : V} {u r : Value} {o : Option V} {A : Around} {E : Value -> Shared -> Prop}
end
section
variable {X : Cx} {pins : List (Addr × Obj)} {σ : St} {H : Hp} {s : Shared} {a : Addr} {kvs : List (Key × V)} {k : Key} {u : Value} {A : Around} {E : Value -> Shared -> Prop}
end
def tDGet (td ty : TE) : TE := fun σ H Q => td σ H fun x H1 => ty σ H1 fun y H2 => ∃ a v, x = .ref a /\ DGet H2 a y (some v) /\ Q v H2
def tDIn (ty td : TE) : TE := fun σ H Q => ty σ H fun y H1 => td σ H1 fun x H2 => ∃ a o, x = .ref a /\ DGet H2 a y o /\ Q (.bl o.isSome) H2
def tDNotIn (ty td : TE) : TE := fun σ H Q => ty σ H fun y H1 => td σ H1 fun x H2 => ∃ a o, x = .ref a /\ DGet H2 a y o /\ Q (.bl (!o.isSome)) H2
def sDPut (td ty tv : TE) : TS := fun D σ H => tv σ H fun v H1 => td σ H1 fun x H2 => ty σ H2 fun y H3 => ∃ a H4, x = .ref a /\ DPut H3 a y v H4 /\ D.nx σ H4
section
variable {X : Cx} {o i e value : Expr} {pos pos' tpos : Pos} {td ty tv : TE}
end
def tDNewK : TE := fun _ H Q => ∀ p, H p = none -> Q (.ref p) (upd H p (.dK []))
def tDNewT : TE := fun _ H Q => ∀ p, H p = none -> Q (.ref p) (upd H p (.dT []))
section
variable {X : Cx} {pos : Pos}
end
theorem call_absI {X : Cx} : ZC5 X (.builtin "abs") (fun xs H Q => ∃ i, xs = [.int i] /\ Q (.int (if i < 0 then -i else i)) H) := by
  intro pins s σ H xs us Q I r h
  obtain ⟨i, rfl, q⟩ := h
  obtain ⟨u, rfl, ⟨t, rfl⟩⟩ := ZD3 r
  exact PyProof.Rows.call_abs_int fun u tk => ⟨.int (if i < 0 then -i else i), H, I.tok _, ⟨_, rfl⟩, q⟩
end L2
namespace PySem
open Sem (wp)
namespace F
end F
section
variable {α : Type} {prog : Program} {w : World} {A : Around} {E : Value -> Shared -> Prop} {s : Shared}
end
section
variable {prog : Program} {w : World} {A : Around} {E : Value -> Shared -> Prop} {h : Heap} {g : Array GenState} {d : Drawn} {t : Nat} {os : OsState} {a : Addr} {its : Array Value} {n : Nat}
end
end PySem
namespace PySem
namespace F
end F
end PySem
namespace L2
open PySem PySem.Spec PyProof.Rows
section
variable {X : Cx} {pins : List (Addr × Obj)} {σ : St} {H : Hp} {s1 : Shared} {A : Around}
end
end L2
namespace PySem
section
variable {prog : Program} {w : World} {A : Around} {E : Value -> Shared -> Prop} {s : Shared} {zo ti to : Addr} {f0 f1 : Value}
end
end PySem
namespace L2
open PySem PySem.Spec PyProof.Rows
section
variable {X : Cx}
end
section
variable {K : W.Frag} {a b : Addr} {xs ys : List V} {g : TG} {σ : St} {H : Hp} {tt : TT} {te : TE} {Q : VK} {σ0 : St}
end
section
variable {X : Cx}
end
section
variable {X : Cx}
end
section
variable {X : Cx}
end
def Itr3 (lo d : Int) (n : Nat) : It := ⟨fun i _ => i < n, fun i H x H' => H' = H /\ x = .int (lo + i * d), fun i _ => n <= i⟩
section
variable {X : Cx} {tg : Expr}
def iRng3 (ta : TA) : TI := fun σ H R => ta σ H fun vs H1 => ∃ i j d : Int, vs = [.int i, .int j, .int d] /\ (0 <= i /\ i <= 1000 /\ 0 <= j /\ j <= 1000 /\ 0 < d /\ d <= 1000) /\ R (Itr3 i d (Builtin.Range.rangeSize i j d).toNat) H1
end
def compR3 (g : TG) (tt : TT) (te : TE) (σ0 : St) (Q : VK) (x y z : V) (H1 : Hp) : Prop := ∃ i j d : Int, [x, y, z] = [.int i, .int j, .int d] /\ (0 <= i /\ i <= 1000 /\ 0 <= j /\ j <= 1000 /\ 0 < d /\ d <= 1000) /\
  ∃ W : Nat -> Nat -> List V -> St -> Hp -> Prop, (∃ m, W 0 m [] σ0 H1) /\ ∀ k m ys σ H, W k m ys σ H ->
      ((Itr3 i d (Builtin.Range.rangeSize i j d).toNat).stop k H /\ ys.length <= sizeLine /\ ∀ p, H p = none -> Q (.ref p) (upd H p (.lst ys))) ∨
      ((Itr3 i d (Builtin.Range.rangeSize i j d).toNat).go k H /\ ys.length < sizeLine /\ ∀ x H', (Itr3 i d (Builtin.Range.rangeSize i j d).toNat).yld k H x H' -> g x σ H' fun σ2 H2 => tt σ2 H2 fun b H3 => if b = true then te σ2 H3 fun y H4 => ∃ m', m' < m /\ W (k + 1) m' (ys ++ [y]) σ2 H4 else ∃ m', m' < m /\ W (k + 1) m' ys σ2 H3)
theorem tCompR3_eq {k : Nat} {js : List Nat} {t u v : TE} {g : TG} {tt : TT} {te : TE} {σ : St} {H : Hp} {Q : VK} : ZDc k js (iRng3 (ZB8 t (ZB8 u (ZB8 v tNil)))) g tt te σ H Q = t σ H (fun x H1 => u σ H1 fun y H2 => v σ H2 fun z H3 => compR3 g tt te (up k js σ) Q x y z H3) := rfl
def tBL (K : W.Frag) (t : TE) : TT := fun σ H Q => t σ H fun x H1 => ∃ a xs, x = .ref a /\ SqL K H1 a xs /\ Q (!xs.isEmpty) H1
section
variable {X : Cx}
theorem pt_lst {e : Expr} {t : TE} (h : PE X e t) (he : ∀ whole, isTrue e X.env whole = (do let v <- whole; standAt e.pos; holding [v] (truthy v)) := by intro _; rfl) : PT X e (tBL X.K t) := by
  intro pins s σ H Q I hw
  refine isTrue_plain (thn (h pins s σ H _ I hw) fun v s1 ⟨x, H1, I1, r1, q1⟩ => ?_) (he _)
  obtain ⟨a, xs, rfl, hq, q⟩ := q1
  cases r1
  obtain ⟨its, rv, p, hz⟩ := I1.list hq
  have hl := rv.length
  refine wpAny_truthy_list p.isList ?_ ?_
  . rw [yAM, <- hl]
    exact Int.lt_of_le_of_lt (Int.ofNat_le.mpr hz) (by decide)
  . refine ⟨H1, I1.kept (t' := s1.toks + 1 + 1) (fun b o e => e), ?_⟩
    have : (!(its.toArray).isEmpty) = !xs.isEmpty := by
      cases xs <;> cases its <;> first | rfl | cases hl
    rw [this]; exact q
end
end L2
namespace L2S
open PySem PyProof.Rows
def kn (f : Keyed -> Int) (xs : Array Keyed) (i : Nat) : Int := ((xs[i]?).map f).getD 0
theorem ZA2 {f : Keyed -> Int} {xs ys : Array Keyed} {i j : Nat} (h : xs[i]? = ys[j]?) : kn f xs i = kn f ys j := by unfold kn; rw [h]
structure Asks (M : Model) (A : Around) (E : Value -> Shared -> Prop) (s : Shared) (κ : SortKind) (a₀ : Array Keyed) (f : Keyed -> Int) : Prop where
  lt : ∀ x y, x ∈ a₀.toList -> y ∈ a₀.toList -> ∀ (st : SortSt) (Q : Option Bool -> SortSt -> Prop), kindOf st = κ -> Q (some (decide (f x < f y))) st -> wpS M A E s (lt' x y) Q st
structure SB (κ : SortKind) (a₀ : Array Keyed) (st : SortSt) : Prop where
  perm : (arrOf st).Perm a₀
  kind : kindOf st = κ
  fail : failedOf st = none
theorem SB.size {κ : SortKind} {a₀ : Array Keyed} {st : SortSt} (h : SB κ a₀ st) : (arrOf st).size = a₀.size := h.perm.size_eq
theorem SB.arr {κ : SortKind} {a₀ : Array Keyed} {st : SortSt} (h : SB κ a₀ st) {xs : Array Keyed} (hp : xs.Perm (arrOf st)) : SB κ a₀ (setArr st xs) := ⟨hp.trans h.perm, h.kind, h.fail⟩
theorem SB.get {κ : SortKind} {a₀ : Array Keyed} {st : SortSt} {f : Keyed -> Int} (h : SB κ a₀ st) {i : Nat} (hi : i < a₀.size) : ∃ x, (arrOf st)[i]? = some x /\ x ∈ a₀.toList /\ kn f (arrOf st) i = f x := by
  have hi' : i < (arrOf st).size := by rw [h.size]; exact hi
  refine ⟨(arrOf st)[i], getElem?_pos _ i hi', (Array.perm_iff_toList_perm.mp h.perm).mem_iff.mp (by simp), ?_⟩
  unfold kn
  rw [getElem?_pos _ i hi']
  rfl
def Up (f : Keyed -> Int) (xs : Array Keyed) (lo n : Nat) : Prop := ∀ i j, lo <= i -> i <= j -> j < lo + n -> kn f xs i <= kn f xs j
def Down (f : Keyed -> Int) (xs : Array Keyed) (lo n : Nat) : Prop := ∀ i j, lo <= i -> i <= j -> j < lo + n -> kn f xs j <= kn f xs i
def Kept (lo : Nat) (xs ys : Array Keyed) : Prop := ∀ i, i < lo -> ys[i]? = xs[i]?
theorem Kept.refl {lo : Nat} {xs : Array Keyed} : Kept lo xs xs := fun _ _ => rfl
theorem Kept.trans {lo : Nat} {xs ys zs : Array Keyed} (a : Kept lo xs ys) (b : Kept lo ys zs) : Kept lo xs zs := fun i h => (b i h).trans (a i h)
theorem ZCv {f : Keyed -> Int} {xs : Array Keyed} {i j : Nat} (hj : j <= xs.size) (k : Nat) : kn f (mirror xs i j ((j - i) / 2)) k = if i <= k /\ k < j then kn f xs (i + j - 1 - k) else kn f xs k := by
  have e := getElem?_mirror_all (i := i) hj k
  split
  . rename_i h; rw [if_pos h] at e; exact ZA2 e
  . rename_i h; rw [if_neg h] at e; exact ZA2 e
theorem ZBn {lo : Nat} {xs : Array Keyed} {i j : Nat} (hj : j <= xs.size) (hi : lo <= i) : Kept lo xs (mirror xs i j ((j - i) / 2)) := fun k hk => by
  rw [getElem?_mirror_all hj k, if_neg (by omega)]
theorem ZCu {f : Keyed -> Int} {xs : Array Keyed} {i j : Nat} (hj : j <= xs.size) (he : ∀ k, i <= k -> k < j -> kn f xs k = kn f xs (j - 1)) (k : Nat) : kn f (mirror xs i j ((j - i) / 2)) k = kn f xs k := by
  rw [ZCv hj]
  split
  . rename_i h; rw [he _ (by omega) (by omega), he k h.1 h.2]
  . rfl
section
variable {M : Model} {A : Around} {E : Value -> Shared -> Prop} {s : Shared} {κ : SortKind} {a₀ : Array Keyed} {f : Keyed -> Int}
theorem ZDY {st : SortSt} {i j : Nat} {Q : Option Bool -> SortSt -> Prop} (L : Asks M A E s κ a₀ f) (hB : SB κ a₀ st) (hi : i < a₀.size) (hj : j < a₀.size)
    (h : Q (some (decide (kn f (arrOf st) i < kn f (arrOf st) j))) st) : wpS M A E s (ltAt' i j) Q st := by
  obtain ⟨x, e1, m1, k1⟩ := hB.get (f := f) hi
  obtain ⟨y, e2, m2, k2⟩ := hB.get (f := f) hj
  rw [ltAt'_eq]
  refine wpS_bind (wpS_get ?_)
  show wpS _ _ _ _ (elem' (arrOf st) i >>= fun x => elem' (arrOf st) j >>= fun y => lt' x y) Q st
  rw [elem'_eq, elem'_eq, e1, e2]
  refine wpS_bind (wpS_pure (wpS_bind (wpS_pure (L.lt x y m1 m2 st Q hB.kind ?_))))
  rw [<- k1, <- k2]
  exact h
theorem ZDr {st : SortSt} {i j : Nat} {Q : Unit -> SortSt -> Prop} (h : Q () (setArr st (mirror (arrOf st) i j ((j - i) / 2)))) : wpS M A E s (reverseSlice' i j) Q st := by
  rw [reverseSlice'_eq]
  exact wpS_modify h
def ZB9 (lo a nrem : Nat) : StateT SortSt Sem AscSt :=
  forIn [a:nrem] ((none, a) : AscSt) fun _ c => do
    let r <- ltAt' (lo + c.snd) (lo + c.snd - 1)
    match r with
    | some b => if b = true then pure (ForInStep.done (none, c.snd)) else pure (ForInStep.yield (none, c.snd + 1))
    | _ => pure (ForInStep.done (some none, c.snd))
def ZDa (lo n nrem : Nat) : StateT SortSt Sem (Option Nat) := do
  reverseSlice' lo (lo + n)
  let c <- ZB9 lo n nrem
  match c.fst with
  | some r => pure r
  | none => pure (some c.snd)
def ZB7 (lo n nrem : Nat) : StateT SortSt Sem DescSt :=
  forIn [n:nrem] ((none, n, 0) : DescSt) fun _ c => do
    let r <- ltAt' (lo + c.snd.fst) (lo + c.snd.fst - 1)
    match r with
    | some b =>
      if b = true then
        if c.snd.snd > 0 then do
          reverseSlice' (lo + c.snd.fst - (c.snd.snd + 1)) (lo + c.snd.fst)
          pure (ForInStep.yield (none, c.snd.fst + 1, 0))
        else pure (ForInStep.yield (none, c.snd.fst + 1, 0))
      else do
        let r2 <- ltAt' (lo + c.snd.fst - 1) (lo + c.snd.fst)
        match r2 with
        | some b2 =>
          if b2 = true then pure (ForInStep.done (none, c.snd.fst, c.snd.snd))
          else pure (ForInStep.yield (none, c.snd.fst + 1, c.snd.snd + 1))
        | _ => pure (ForInStep.done (some none, c.snd.fst, c.snd.snd))
    | _ => pure (ForInStep.done (some none, c.snd.fst, c.snd.snd))
def ZCU (lo n nrem : Nat) : StateT SortSt Sem (Option Nat) := do
  liftM (rule "list.sort.descending-run")
  let c <- ZB7 lo (n + 1) nrem
  match c.fst with
  | some r => pure r
  | none =>
    if c.snd.snd > 0 then do
      reverseSlice' (lo + c.snd.fst - (c.snd.snd + 1)) (lo + c.snd.fst)
      ZDa lo c.snd.fst nrem
    else ZDa lo c.snd.fst nrem
theorem bnd {α β : Type} (m : StateT SortSt Sem α) {g h : α -> StateT SortSt Sem β} (e : ∀ a, g a = h a) : (m >>= g) = (m >>= h) := by rw [show g = h from funext e]
theorem count_eq (lo nrem : Nat) : countRun' lo nrem = (do
    let c <- ZB9 lo 1 nrem
    match c.fst with
    | some r => pure r
    | none =>
      if (c.snd == nrem) = true then pure (some c.snd)
      else if c.snd > 1 then do
        let r <- ltAt' lo (lo + c.snd - 1)
        match r with
        | some b => if b = true then pure (some c.snd) else do
            reverseSlice' lo (lo + c.snd)
            ZCU lo c.snd nrem
        | _ => pure none
      else ZCU lo c.snd nrem) := by
  have tl : ∀ n2 : Nat, ZDa lo n2 nrem = (reverseSlice' lo (lo + n2) >>= fun _ => ZB9 lo n2 nrem >>= fun c => match c.fst with | some r => pure r | none => pure (some c.snd)) := fun _ => rfl
  rw [countRun'_eq]
  refine bnd (ZB9 lo 1 nrem) fun c => ?_
  obtain ⟨r, n⟩ := c
  cases r with
  | some r => rfl
  | none =>
    have dn : ∀ n1 : Nat, (liftM (rule "list.sort.descending-run") >>= fun _ => ZB7 lo (n1 + 1) nrem >>= fun c => match c.fst with
        | some r => pure r
        | none => if c.snd.snd > 0 then (reverseSlice' (lo + c.snd.fst - (c.snd.snd + 1)) (lo + c.snd.fst) >>= fun _ => ZDa lo c.snd.fst nrem) else ZDa lo c.snd.fst nrem) = ZCU lo n1 nrem := fun _ => rfl
    dsimp only
    split
    . rfl
    . split
      . refine bnd (ltAt' lo (lo + n - 1)) fun x => ?_
        cases x with
        | none => rfl
        | some rose =>
          dsimp only
          split
          . rfl
          . refine bnd _ fun _ => ?_
            rw [<- dn]
            refine bnd _ fun _ => bnd (ZB7 lo (n + 1) nrem) fun s2 => ?_
            obtain ⟨r2, n2, q2⟩ := s2
            cases r2 with
            | some r2 => rfl
            | none =>
              dsimp only
              split
              . refine bnd _ fun _ => ?_
                rw [tl]
                refine bnd _ fun _ => bnd (ZB9 lo n2 nrem) fun s3 => ?_
                obtain ⟨r3, n3⟩ := s3
                cases r3 <;> rfl
              . rw [tl]
                refine bnd _ fun _ => bnd (ZB9 lo n2 nrem) fun s3 => ?_
                obtain ⟨r3, n3⟩ := s3
                cases r3 <;> rfl
      . rw [<- dn]
        refine bnd _ fun _ => bnd (ZB7 lo (n + 1) nrem) fun s2 => ?_
        obtain ⟨r2, n2, q2⟩ := s2
        cases r2 with
        | some r2 => rfl
        | none =>
          dsimp only
          split
          . refine bnd _ fun _ => ?_
            rw [tl]
            refine bnd _ fun _ => bnd (ZB9 lo n2 nrem) fun s3 => ?_
            obtain ⟨r3, n3⟩ := s3
            cases r3 <;> rfl
          . rw [tl]
            refine bnd _ fun _ => bnd (ZB9 lo n2 nrem) fun s3 => ?_
            obtain ⟨r3, n3⟩ := s3
            cases r3 <;> rfl
theorem up_one {xs : Array Keyed} {lo : Nat} : Up f xs lo 1 := fun i j h1 h2 h3 => by rw [show i = j by omega]; exact Int.le_refl _
theorem up_loop {st : SortSt} {lo a nrem : Nat} {Q : AscSt -> SortSt -> Prop} (L : Asks M A E s κ a₀ f) (hn : lo + nrem <= a₀.size) (ha : 1 <= a) (han : a <= nrem) (hB : SB κ a₀ st) (hs : Up f (arrOf st) lo a)
    (h : ∀ n, a <= n -> n <= nrem -> Up f (arrOf st) lo n -> (n = nrem ∨ kn f (arrOf st) (lo + n) < kn f (arrOf st) (lo + n - 1)) -> Q (none, n) st) : wpS M A E s (ZB9 lo a nrem) Q st := by
  unfold ZB9
  refine wpS_forRange (I := fun x c st' => st' = st /\ c = (none, x) /\ Up f (arrOf st) lo x) ?_ ?_ ⟨rfl, rfl, hs⟩
  . rintro x c st' hax hxn ⟨rfl, rfl, hs'⟩
    dsimp only
    refine wpS_bind (ZDY L hB (by omega) (by omega) ?_)
    by_cases hl : kn f (arrOf st') (lo + x) < kn f (arrOf st') (lo + x - 1)
    . rw [decide_eq_true hl]
      exact wpS_pure (h x hax (by omega) hs' (.inr hl))
    . rw [decide_eq_false hl]
      refine wpS_pure ⟨rfl, rfl, fun i j h1 h2 h3 => ?_⟩
      by_cases hj : j < lo + x
      . exact hs' i j h1 h2 hj
      . by_cases hi : i = j
        . rw [hi]; exact Int.le_refl _
        . have e1 := hs' i (lo + x - 1) h1 (by omega) (by omega)
          rw [show j = lo + x by omega]
          omega
  . rintro c st' ⟨rfl, rfl, hs'⟩
    rw [Nat.max_eq_right han] at hs' ⊢
    exact h nrem han (yAB _) hs' (.inl rfl)
abbrev ZEN (κ : SortKind) (a₀ : Array Keyed) (f : Keyed -> Int) (lo nrem : Nat) (xs : Array Keyed) (pd : Array (Nat × Nat × Nat)) (Q : Option Nat -> SortSt -> Prop) : Prop :=
  ∀ m st', SB κ a₀ st' -> 1 <= m -> m <= nrem -> Up f (arrOf st') lo m -> Kept lo xs (arrOf st') -> pendingOf st' = pd -> Q (some m) st'
theorem tail_l {st : SortSt} {lo n nrem : Nat} {xs : Array Keyed} {pd : Array (Nat × Nat × Nat)} {Q : Option Nat -> SortSt -> Prop} (L : Asks M A E s κ a₀ f) (hn : lo + nrem <= a₀.size) (h1 : 1 <= n) (hnn : n <= nrem) (hB : SB κ a₀ st)
    (hs : Down f (arrOf st) lo n) (hk : Kept lo xs (arrOf st)) (hp : pendingOf st = pd) (h : ZEN κ a₀ f lo nrem xs pd Q) : wpS M A E s (ZDa lo n nrem) Q st := by
  unfold ZDa
  have hsz : lo + n <= (arrOf st).size := by rw [hB.size]; omega
  refine wpS_bind (ZDr ?_)
  have hB' : SB κ a₀ (setArr st (mirror (arrOf st) lo (lo + n) ((lo + n - lo) / 2))) := hB.arr (mirror_perm _ _ _ _)
  have hk' : Kept lo xs (mirror (arrOf st) lo (lo + n) ((lo + n - lo) / 2)) := hk.trans (ZBn hsz (yAB _))
  refine wpS_bind (up_loop L hn h1 hnn hB' (fun i j z1 z2 z3 => ?_) fun m hm1 hm2 hsm _ => wpS_pure (h m _ hB' (by omega) hm2 hsm hk' hp))
  show kn f (mirror (arrOf st) lo (lo + n) _) i <= kn f (mirror (arrOf st) lo (lo + n) _) j
  rw [ZCv hsz, ZCv hsz, if_pos (by omega), if_pos (by omega)]
  exact hs _ _ (by omega) (by omega) (by omega)
theorem down_loop {st : SortSt} {lo n nrem : Nat} {xs : Array Keyed} {pd : Array (Nat × Nat × Nat)} {Q : DescSt -> SortSt -> Prop} (L : Asks M A E s κ a₀ f) (hn : lo + nrem <= a₀.size) (h1 : 1 <= n) (hnn : n <= nrem) (hB : SB κ a₀ st)
    (hs : Down f (arrOf st) lo n) (hk : Kept lo xs (arrOf st)) (hp : pendingOf st = pd)
    (h : ∀ m q st', SB κ a₀ st' -> n <= m -> m <= nrem -> Down f (arrOf st') lo m -> q + 1 <= m -> (∀ i, lo + m - (q + 1) <= i -> i < lo + m -> kn f (arrOf st') i = kn f (arrOf st') (lo + m - 1)) -> Kept lo xs (arrOf st') -> pendingOf st' = pd -> Q (none, m, q) st') :
    wpS M A E s (ZB7 lo n nrem) Q st := by
  unfold ZB7
  refine wpS_forRange (I := fun x c st' => ∃ q, c = (none, x, q) /\ SB κ a₀ st' /\ Down f (arrOf st') lo x /\ q + 1 <= x /\ (∀ i, lo + x - (q + 1) <= i -> i < lo + x -> kn f (arrOf st') i = kn f (arrOf st') (lo + x - 1)) /\ Kept lo xs (arrOf st') /\ pendingOf st' = pd) ?_ ?_
    ⟨0, rfl, hB, hs, by omega, fun i z1 z2 => by rw [show i = lo + n - 1 by omega], hk, hp⟩
  . rintro x c st' hax hxn ⟨q, rfl, hB', hs', hq, he, hk', hp'⟩
    dsimp only
    have hsz : lo + x <= (arrOf st').size := by rw [hB'.size]; omega
    refine wpS_bind (ZDY L hB' (by omega) (by omega) ?_)
    by_cases hl : kn f (arrOf st') (lo + x) < kn f (arrOf st') (lo + x - 1)
    . rw [decide_eq_true hl]
      have more : ∀ ys : Array Keyed, (∀ k, kn f ys k = kn f (arrOf st') k) -> Down f ys lo (x + 1) := fun ys hy i j z1 z2 z3 => by
        rw [hy, hy]
        by_cases hj : j < lo + x
        . exact hs' i j z1 z2 hj
        . by_cases hi : i = j
          . rw [hi]; exact Int.le_refl _
          . have e1 := hs' i (lo + x - 1) z1 (by omega) (by omega)
            rw [show j = lo + x by omega]
            omega
      dsimp only
      rw [if_pos rfl]
      by_cases hq0 : q > 0
      . rw [if_pos hq0]
        refine wpS_bind (ZDr (wpS_pure ⟨0, rfl, hB'.arr (mirror_perm _ _ _ _), more _ (ZCu hsz he), by omega, fun i z1 z2 => by rw [show i = lo + (x + 1) - 1 by omega], hk'.trans (ZBn hsz (by omega)), hp'⟩))
      . rw [if_neg hq0]
        exact wpS_pure ⟨0, rfl, hB', more _ (fun _ => rfl), by omega, fun i z1 z2 => by rw [show i = lo + (x + 1) - 1 by omega], hk', hp'⟩
    . rw [decide_eq_false hl]
      dsimp only
      rw [if_neg (by decide)]
      refine wpS_bind (ZDY L hB' (by omega) (by omega) ?_)
      by_cases hg : kn f (arrOf st') (lo + x - 1) < kn f (arrOf st') (lo + x)
      . rw [decide_eq_true hg]
        exact wpS_pure (h x q st' hB' hax (by omega) hs' hq he hk' hp')
      . rw [decide_eq_false hg]
        have ex : kn f (arrOf st') (lo + x) = kn f (arrOf st') (lo + x - 1) := by omega
        refine wpS_pure ⟨q + 1, rfl, hB', fun i j z1 z2 z3 => ?_, by omega, fun i z1 z2 => ?_, hk', hp'⟩
        . by_cases hj : j < lo + x
          . exact hs' i j z1 z2 hj
          . by_cases hi : i = j
            . rw [hi]; exact Int.le_refl _
            . have e1 := hs' i (lo + x - 1) z1 (by omega) (by omega)
              rw [show j = lo + x by omega]
              omega
        . rw [show lo + (x + 1) - 1 = lo + x by omega]
          by_cases hi : i = lo + x
          . rw [hi]
          . rw [ex]; exact he i (by omega) (by omega)
  . rintro c st' ⟨q, rfl, hB', hs', hq, he, hk', hp'⟩
    rw [Nat.max_eq_right hnn] at hs' hq he ⊢
    exact h nrem q st' hB' hnn (yAB _) hs' hq he hk' hp'
theorem down_part {st : SortSt} {lo n nrem : Nat} {xs : Array Keyed} {pd : Array (Nat × Nat × Nat)} {Q : Option Nat -> SortSt -> Prop} (L : Asks M A E s κ a₀ f) (hn : lo + nrem <= a₀.size) (hnn : n + 1 <= nrem) (hB : SB κ a₀ st)
    (hs : Down f (arrOf st) lo (n + 1)) (hk : Kept lo xs (arrOf st)) (hp : pendingOf st = pd) (h : ZEN κ a₀ f lo nrem xs pd Q) : wpS M A E s (ZCU lo n nrem) Q st := by
  unfold ZCU
  refine wpS_bind (wpS_lift (wpAny_rule ⟨rfl, ?_⟩))
  refine wpS_bind (down_loop L hn (by omega) hnn hB hs hk hp fun m q st' hB' hm1 hm2 hs' hq he hk' hp' => ?_)
  dsimp only
  have hsz : lo + m <= (arrOf st').size := by rw [hB'.size]; omega
  by_cases hq0 : q > 0
  . rw [if_pos hq0]
    refine wpS_bind (ZDr (tail_l L hn (by omega) hm2 (hB'.arr (mirror_perm _ _ _ _)) (fun i j z1 z2 z3 => ?_) (hk'.trans (ZBn hsz (by omega))) hp' h))
    show kn f (mirror (arrOf st') _ _ _) j <= kn f (mirror (arrOf st') _ _ _) i
    rw [ZCu hsz he, ZCu hsz he]
    exact hs' i j z1 z2 z3
  . rw [if_neg hq0]
    exact tail_l L hn (by omega) hm2 hB' hs' hk' hp' h
theorem count_run {st : SortSt} {lo nrem : Nat} {Q : Option Nat -> SortSt -> Prop} (L : Asks M A E s κ a₀ f) (hn : lo + nrem <= a₀.size) (h1 : 1 <= nrem) (hB : SB κ a₀ st)
    (h : ZEN κ a₀ f lo nrem (arrOf st) (pendingOf st) Q) : wpS M A E s (countRun' lo nrem) Q st := by
  rw [count_eq]
  refine wpS_bind (up_loop L hn (yAB 1) h1 hB up_one fun n hn1 hn2 hsn hor => ?_)
  dsimp only
  by_cases hnn : n = nrem
  . rw [if_pos (by simpa using hnn)]
    exact wpS_pure (h n st hB hn1 hn2 hsn .refl rfl)
  rw [if_neg (by simpa using hnn)]
  have hlt := hor.resolve_left hnn
  by_cases hgt : n > 1
  . rw [if_pos hgt]
    refine wpS_bind (ZDY L hB (by omega) (by omega) ?_)
    by_cases hr : kn f (arrOf st) lo < kn f (arrOf st) (lo + n - 1)
    . rw [decide_eq_true hr]
      exact wpS_pure (h n st hB hn1 hn2 hsn .refl rfl)
    rw [decide_eq_false hr]
    dsimp only
    rw [if_neg (by decide)]
    have hsz : lo + n <= (arrOf st).size := by rw [hB.size]; omega
    have hall : ∀ k, lo <= k -> k < lo + n -> kn f (arrOf st) k = kn f (arrOf st) (lo + n - 1) := fun k k1 k2 => by
      have a1 := hsn lo k (yAB _) k1 k2
      have a2 := hsn k (lo + n - 1) k1 (by omega) (by omega)
      omega
    refine wpS_bind (ZDr (down_part L hn (by omega) (hB.arr (mirror_perm _ _ _ _)) (fun i j z1 z2 z3 => ?_) (ZBn hsz (yAB _)) rfl h))
    show kn f (mirror (arrOf st) _ _ _) j <= kn f (mirror (arrOf st) _ _ _) i
    rw [ZCu hsz hall, ZCu hsz hall]
    by_cases hj : j < lo + n
    . rw [hall i z1 (by omega), hall j (by omega) hj]; exact Int.le_refl _
    . by_cases hi : i = j
      . rw [hi]; exact Int.le_refl _
      . rw [hall i z1 (by omega), show j = lo + n by omega]; exact Int.le_of_lt hlt
  . rw [if_neg hgt]
    have hn1' : n = 1 := by omega
    subst hn1'
    refine down_part L hn (by omega) hB (fun i j z1 z2 z3 => ?_) .refl rfl h
    by_cases hi : i = j
    . rw [hi]; exact Int.le_refl _
    . have e1 : i = lo := by omega
      have e2 : j = lo + 1 := by omega
      subst e1 e2
      exact Int.le_of_lt hlt
theorem kn_bubble {xs : Array Keyed} {src d : Nat} (hs : src < xs.size) (hd : d <= src) (k : Nat) : kn f (bubble xs src d) k = if k = src - d then kn f xs src else if src - d < k /\ k <= src then kn f xs (k - 1) else kn f xs k := by
  have e := getElem?_bubble hs d hd k
  split
  . rename_i h; rw [if_pos h] at e; exact ZA2 e
  . rename_i h
    rw [if_neg h] at e
    split
    . rename_i h2; rw [if_pos h2] at e; exact ZA2 e
    . rename_i h2; rw [if_neg h2] at e; exact ZA2 e
theorem kept_bubble {lo : Nat} {xs : Array Keyed} {src d : Nat} (hs : src < xs.size) (hd : lo + d <= src) : Kept lo xs (bubble xs src d) := fun k hk => by
  rw [getElem?_bubble hs d (by omega) k, if_neg (by omega), if_neg (by omega)]
theorem bin_sort {st : SortSt} {lo n ok : Nat} {Q : Bool -> SortSt -> Prop} (L : Asks M A E s κ a₀ f) (hn : lo + n <= a₀.size) (hok : ok <= n) (hB : SB κ a₀ st) (hs : Up f (arrOf st) lo ok)
    (h : ∀ st', SB κ a₀ st' -> Up f (arrOf st') lo n -> Kept lo (arrOf st) (arrOf st') -> pendingOf st' = pendingOf st -> Q true st') : wpS M A E s (binarySort' lo n ok) Q st := by
  rw [binarySort'_eq]
  refine wpS_bind (wpS_mono (wpS_forRange (I := fun k c st' => c = (none, ()) /\ SB κ a₀ st' /\ Up f (arrOf st') lo (min k n) /\ Kept lo (arrOf st) (arrOf st') /\ pendingOf st' = pendingOf st)
    (Q := fun c st' => c = (none, ()) /\ SB κ a₀ st' /\ Up f (arrOf st') lo n /\ Kept lo (arrOf st) (arrOf st') /\ pendingOf st' = pendingOf st) ?_ ?_ ?_) ?_)
  . rintro k c st' hak hkn ⟨rfl, hB', hs', hk', hp'⟩
    rw [show min k n = k by omega] at hs'
    have hk : lo + k < a₀.size := by omega
    refine wpS_bind (wpS_mono (wpS_forRange (I := fun x c st2 => st2 = st' /\ ∃ l r, c = (none, l, r) /\ l <= r /\ r <= k /\ r - l <= k - x /\
        (∀ i, i < l -> kn f (arrOf st') (lo + i) <= kn f (arrOf st') (lo + k)) /\ (∀ i, r <= i -> i < k -> kn f (arrOf st') (lo + k) < kn f (arrOf st') (lo + i)))
      (Q := fun c st2 => st2 = st' /\ ∃ l r, c = (none, l, r) /\ l <= k /\ (∀ i, i < l -> kn f (arrOf st') (lo + i) <= kn f (arrOf st') (lo + k)) /\ (∀ i, l <= i -> i < k -> kn f (arrOf st') (lo + k) < kn f (arrOf st') (lo + i))) ?_ ?_ ?_) ?_)
    . rintro x c st2 _ hxk ⟨rfl, l, r, rfl, hlr, hrk, hm, hlo, hhi⟩
      dsimp only
      by_cases hge : l ≥ r
      . rw [if_pos hge]
        have : l = r := by omega
        subst this
        exact wpS_pure ⟨rfl, l, l, rfl, hrk, hlo, hhi⟩
      rw [if_neg hge]
      refine wpS_bind (ZDY L hB' hk (by omega) ?_)
      by_cases hl : kn f (arrOf st2) (lo + k) < kn f (arrOf st2) (lo + (l + r) / 2)
      . rw [decide_eq_true hl]
        refine wpS_pure ⟨rfl, l, (l + r) / 2, rfl, by omega, by omega, by omega, hlo, fun i z1 z2 => ?_⟩
        exact Int.lt_of_lt_of_le hl (hs' _ _ (by omega) (by omega) (by omega))
      . rw [decide_eq_false hl]
        refine wpS_pure ⟨rfl, (l + r) / 2 + 1, r, rfl, by omega, by omega, by omega, fun i z1 => ?_, hhi⟩
        have e1 := hs' (lo + i) (lo + (l + r) / 2) (by omega) (by omega) (by omega)
        omega
    . rintro c st2 ⟨rfl, l, r, rfl, hlr, hrk, hm, hlo, hhi⟩
      have : l = r := by omega
      subst this
      exact ⟨rfl, l, l, rfl, hrk, hlo, hhi⟩
    . exact ⟨rfl, 0, k, rfl, by omega, by omega, by omega, fun i hi => by omega, fun i z1 z2 => by omega⟩
    . rintro c st2 ⟨rfl, l, r, rfl, hlk, hlo, hhi⟩
      show wpS _ _ _ _ (moveDown' (lo + k) (lo + l) >>= fun _ => pure (ForInStep.yield (none, ()))) _ _
      rw [moveDown'_eq, show lo + k - (lo + l) = k - l by omega]
      have hks : lo + k < (arrOf st2).size := by rw [hB'.size]; exact hk
      refine wpS_bind (wpS_modify (wpS_pure ⟨rfl, hB'.arr (bubble_perm _ _ _), ?_, hk'.trans (kept_bubble hks (by omega)), hp'⟩))
      rw [show min (k + 1) n = k + 1 by omega]
      intro i j z1 z2 z3
      show kn f (bubble (arrOf st2) (lo + k) (k - l)) i <= kn f (bubble (arrOf st2) (lo + k) (k - l)) j
      have at' : ∀ m, lo <= m -> m < lo + k + 1 -> kn f (bubble (arrOf st2) (lo + k) (k - l)) m = if m < lo + l then kn f (arrOf st2) m else if m = lo + l then kn f (arrOf st2) (lo + k) else kn f (arrOf st2) (m - 1) := fun m m1 m2 => by
        rw [kn_bubble hks (by omega)]
        by_cases c1 : m < lo + l
        . rw [if_pos c1, if_neg (by omega), if_neg (by omega)]
        . rw [if_neg c1]
          by_cases c2 : m = lo + l
          . rw [if_pos c2, if_pos (by omega)]
          . rw [if_neg c2, if_neg (by omega), if_pos (by omega)]
      rw [at' i z1 (by omega), at' j (by omega) (by omega)]
      have lo' : ∀ m, lo <= m -> m < lo + l -> kn f (arrOf st2) m <= kn f (arrOf st2) (lo + k) := fun m m1 m2 => by
        have := hlo (m - lo) (by omega)
        rw [show lo + (m - lo) = m by omega] at this
        exact this
      have hi' : ∀ m, lo + l <= m -> m < lo + k -> kn f (arrOf st2) (lo + k) < kn f (arrOf st2) m := fun m m1 m2 => by
        have := hhi (m - lo) (by omega) (by omega)
        rw [show lo + (m - lo) = m by omega] at this
        exact this
      by_cases c1 : j < lo + l
      . rw [if_pos c1, if_pos (by omega)]
        exact hs' i j z1 z2 (by omega)
      rw [if_neg c1]
      by_cases c2 : j = lo + l
      . rw [if_pos c2]
        by_cases c3 : i < lo + l
        . rw [if_pos c3]; exact lo' i z1 c3
        . rw [if_neg c3, if_pos (by omega)]; exact Int.le_refl _
      . rw [if_neg c2]
        by_cases c3 : i < lo + l
        . rw [if_pos c3]; exact hs' i (j - 1) z1 (by omega) (by omega)
        . rw [if_neg c3]
          by_cases c4 : i = lo + l
          . rw [if_pos c4]; exact Int.le_of_lt (hi' (j - 1) (by omega) (by omega))
          . rw [if_neg c4]; exact hs' (i - 1) (j - 1) (by omega) (by omega) (by omega)
  . rintro c st' ⟨hc, hB', hs', hk', hp'⟩
    rw [show min (max (max ok 1) n) n = n by omega] at hs'
    exact ⟨hc, hB', hs', hk', hp'⟩
  . refine ⟨rfl, hB, fun i j z1 z2 z3 => ?_, .refl, rfl⟩
    by_cases h1 : ok = 0
    . rw [show i = j by omega]; exact Int.le_refl _
    . exact hs i j z1 z2 (by omega)
  . rintro c st' ⟨rfl, hB', hs', hk', hp'⟩
    exact wpS_pure (h st' hB' hs' hk' hp')
end
end L2S
namespace L2S
open PySem PyProof.Rows
def gal : Bool -> Keyed -> Array Keyed -> Nat -> Nat -> Nat -> StateT SortSt Sem (Option Nat) := sortPriv% PySem.Builtin.gallop
def past (left : Bool) (key : Keyed) (arr : Array Keyed) (base i : Nat) : StateT SortSt Sem (Option Bool) := do
  let y <- elem' arr (base + i)
  if left then lt' y key else return (<- lt' key y).map (!·)
theorem gal_eq (left : Bool) (key : Keyed) (arr : Array Keyed) (base n hint : Nat) : gal left key arr base n hint = (do
  let mut o1 := 0
  let mut o2 := 1
  let mut p1 := 0
  let mut p2 := 0
  let some b0 <- past left key arr base hint | return none
  if b0 then
    let mx := n - hint
    for _ in [0:n] do
      if o2 ≥ mx then break
      let some b <- past left key arr base (hint + o2) | return none
      if !b then break
      o1 := o2
      o2 := 2 * o2 + 1
    p1 := hint + o1 + 1
    p2 := hint + min o2 mx
  else
    let mx := hint + 1
    for _ in [0:n] do
      if o2 ≥ mx then break
      let some b <- past left key arr base (hint - o2) | return none
      if b then break
      o1 := o2
      o2 := 2 * o2 + 1
    p1 := hint + 1 - min o2 mx
    p2 := hint - o1
  for _ in [0:n] do
    if p1 ≥ p2 then break
    let m := p1 + (p2 - p1) / 2
    let some b <- past left key arr base m | return none
    if b then p1 := m + 1 else p2 := m
  return some p2) := rfl
section
variable {M : Model} {A : Around} {E : Value -> Shared -> Prop} {s : Shared}
theorem gal_ok {left : Bool} {key : Keyed} {arr : Array Keyed} {base n hint : Nat} {st : SortSt} {Q : Option Nat -> SortSt -> Prop} (g : Nat -> Bool) (hh : hint < n)
    (hp : ∀ i, i < n -> ∀ Q : Option Bool -> SortSt -> Prop, Q (some (g i)) st -> wpS M A E s (past left key arr base i) Q st) (hm : ∀ i j, i <= j -> j < n -> g j = true -> g i = true)
    (h : ∀ k, k <= n -> (∀ i, i < k -> g i = true) -> (∀ i, k <= i -> i < n -> g i = false) -> Q (some k) st) : wpS M A E s (gal left key arr base n hint) Q st := by
  have hm' : ∀ i j, i <= j -> j < n -> g i = false -> g j = false := fun i j z1 z2 z3 => by
    cases e : g j with
    | false => rfl
    | true => rw [hm i j z1 z2 e] at z3; cases z3
  have last : ∀ p1 p2 : Nat, p1 <= p2 -> p2 <= n -> (∀ i, i < p1 -> g i = true) -> (∀ i, p2 <= i -> i < n -> g i = false) ->
      wpS M A E s (forIn [0:n] ((none, p1, p2) : Option (Option Nat) × Nat × Nat) fun _ c => if c.2.1 ≥ c.2.2 then pure (ForInStep.done (none, c.2.1, c.2.2)) else do
        let r <- past left key arr base (c.2.1 + (c.2.2 - c.2.1) / 2)
        match r with
        | some b => if b = true then pure (ForInStep.yield (none, c.2.1 + (c.2.2 - c.2.1) / 2 + 1, c.2.2)) else pure (ForInStep.yield (none, c.2.1, c.2.1 + (c.2.2 - c.2.1) / 2))
        | _ => pure (ForInStep.done (some none, c.2.1, c.2.2))) (fun c st' => ∃ k, c = (none, k, k) /\ st' = st /\ k <= n /\ (∀ i, i < k -> g i = true) /\ (∀ i, k <= i -> i < n -> g i = false)) st := by
    intro p1 p2 a1 a2 a3 a4
    refine wpS_forRange (I := fun x c st' => st' = st /\ ∃ p1 p2, c = (none, p1, p2) /\ p1 <= p2 /\ p2 <= n /\ p2 - p1 <= n - x /\ (∀ i, i < p1 -> g i = true) /\ (∀ i, p2 <= i -> i < n -> g i = false)) ?_ ?_ ⟨rfl, p1, p2, rfl, a1, a2, by omega, a3, a4⟩
    . rintro x c st' _ hx ⟨rfl, p1, p2, rfl, b1, b2, b3, b4, b5⟩
      dsimp only
      by_cases hge : p1 ≥ p2
      . rw [if_pos hge]
        have : p1 = p2 := by omega
        subst this
        exact wpS_pure ⟨p1, rfl, rfl, b2, b4, b5⟩
      rw [if_neg hge]
      refine wpS_bind (hp _ (by omega) _ ?_)
      cases e : g (p1 + (p2 - p1) / 2) with
      | true => exact wpS_pure ⟨rfl, _, _, rfl, by omega, b2, by omega, fun i hi => hm i _ (by omega) (by omega) e, b5⟩
      | false => exact wpS_pure ⟨rfl, _, _, rfl, by omega, by omega, by omega, b4, fun i i1 i2 => hm' _ i i1 i2 e⟩
    . rintro c st' ⟨rfl, p1, p2, rfl, b1, b2, b3, b4, b5⟩
      have : p1 = p2 := by omega
      subst this
      exact ⟨p1, rfl, rfl, b2, b4, b5⟩
  rw [gal_eq]
  refine wpS_bind (hp hint hh _ ?_)
  cases e0 : g hint with
  | true =>
    refine wpS_bind (wpS_mono (wpS_forRange (I := fun x c st' => st' = st /\ ∃ o1 o2, c = (none, o1, o2) /\ o1 < o2 /\ x + 1 <= o2 /\ hint + o1 < n /\ g (hint + o1) = true)
      (Q := fun c st' => st' = st /\ ∃ o1 o2, c = (none, o1, o2) /\ o1 < o2 /\ hint + o1 < n /\ g (hint + o1) = true /\ (o2 ≥ n - hint ∨ (hint + o2 < n /\ g (hint + o2) = false))) ?_ ?_ ⟨rfl, 0, 1, rfl, by omega, by omega, by omega, e0⟩) ?_)
    . rintro x c st' _ hx ⟨rfl, o1, o2, rfl, b1, b2, b3, b4⟩
      dsimp only
      by_cases hge : o2 ≥ n - hint
      . rw [if_pos hge]
        exact wpS_pure ⟨rfl, o1, o2, rfl, b1, b3, b4, .inl hge⟩
      rw [if_neg hge]
      refine wpS_bind (hp _ (by omega) _ ?_)
      cases e : g (hint + o2) with
      | true => exact wpS_pure ⟨rfl, _, _, rfl, by omega, by omega, by omega, e⟩
      | false => exact wpS_pure ⟨rfl, _, _, rfl, b1, b3, b4, .inr ⟨by omega, e⟩⟩
    . rintro c st' ⟨rfl, o1, o2, rfl, b1, b2, b3, b4⟩
      exact ⟨rfl, o1, o2, rfl, b1, b3, b4, .inl (by omega)⟩
    . rintro c st' ⟨rfl, o1, o2, rfl, b1, b3, b4, b5⟩
      dsimp only
      refine wpS_bind (wpS_mono (last (hint + o1 + 1) (hint + min o2 (n - hint)) (by omega) (by omega) (fun i hi => hm i _ (by omega) b3 b4) fun i i1 i2 => ?_) ?_)
      . rcases b5 with z | ⟨z1, z2⟩
        . omega
        . exact hm' _ i (by omega) i2 z2
      . rintro c st' ⟨k, rfl, rfl, k1, k2, k3⟩
        exact wpS_pure (h k k1 k2 k3)
  | false =>
    refine wpS_bind (wpS_mono (wpS_forRange (I := fun x c st' => st' = st /\ ∃ o1 o2, c = (none, o1, o2) /\ o1 < o2 /\ x + 1 <= o2 /\ o1 <= hint /\ g (hint - o1) = false)
      (Q := fun c st' => st' = st /\ ∃ o1 o2, c = (none, o1, o2) /\ o1 < o2 /\ o1 <= hint /\ g (hint - o1) = false /\ (o2 ≥ hint + 1 ∨ (o2 < hint + 1 /\ g (hint - o2) = true))) ?_ ?_ ⟨rfl, 0, 1, rfl, by omega, by omega, by omega, e0⟩) ?_)
    . rintro x c st' _ hx ⟨rfl, o1, o2, rfl, b1, b2, b3, b4⟩
      dsimp only
      by_cases hge : o2 ≥ hint + 1
      . rw [if_pos hge]
        exact wpS_pure ⟨rfl, o1, o2, rfl, b1, b3, b4, .inl hge⟩
      rw [if_neg hge]
      refine wpS_bind (hp _ (by omega) _ ?_)
      cases e : g (hint - o2) with
      | true => exact wpS_pure ⟨rfl, _, _, rfl, b1, b3, b4, .inr ⟨by omega, e⟩⟩
      | false => exact wpS_pure ⟨rfl, _, _, rfl, by omega, by omega, by omega, e⟩
    . rintro c st' ⟨rfl, o1, o2, rfl, b1, b2, b3, b4⟩
      exact ⟨rfl, o1, o2, rfl, b1, b3, b4, .inl (by omega)⟩
    . rintro c st' ⟨rfl, o1, o2, rfl, b1, b3, b4, b5⟩
      dsimp only
      refine wpS_bind (wpS_mono (last (hint + 1 - min o2 (hint + 1)) (hint - o1) (by omega) (by omega) (fun i hi => ?_) fun i i1 i2 => hm' _ i i1 i2 b4) ?_)
      . rcases b5 with z | ⟨z1, z2⟩
        . omega
        . exact hm i _ (by omega) (by omega) z2
      . rintro c st' ⟨k, rfl, rfl, k1, k2, k3⟩
        exact wpS_pure (h k k1 k2 k3)
end
end L2S
namespace L2S
open PySem PyProof.Rows
def mLo : Array Keyed -> Array Keyed -> StateT SortSt Sem (Array Keyed) := sortPriv% PySem.Builtin.mergeLo
abbrev setG (st : SortSt) (g : Nat) : SortSt := SortSt.mk' (kindOf st) (arrOf st) (pendingOf st) g (failedOf st)
theorem mLo_eq (a b : Array Keyed) : mLo a b = (do
  rule "list.sort.merge-lo"
  let tt := a.size + b.size
  let dn (o : Array Keyed) (i j : Nat) := o ++ a.extract i a.size ++ b.extract j b.size
  let la (o : Array Keyed) (i j : Nat) := o ++ b.extract j b.size ++ a.extract i a.size
  let mut o : Array Keyed := #[<- elem' b 0]
  let mut i := 0
  let mut j := 1
  if j == b.size then return dn o i j
  if i + 1 == a.size then return la o i j
  let mut mg := gallopOf (<- get)
  for _ in [0:tt] do
    let mut ac := 0
    let mut bc := 0
    for _ in [0:tt] do
      let some w <- lt' (<- elem' b j) (<- elem' a i) | return dn o i j
      if w then
        o := o.push (<- elem' b j); j := j + 1; bc := bc + 1; ac := 0
        if j == b.size then return dn o i j
        if bc ≥ mg then break
      else
        o := o.push (<- elem' a i); i := i + 1; ac := ac + 1; bc := 0
        if i + 1 == a.size then return la o i j
        if ac ≥ mg then break
    rule "list.sort.gallop"
    mg := mg + 1
    for _ in [0:tt] do
      if mg > 1 then mg := mg - 1
      modify fun st => setG st mg
      let some k <- gal false (<- elem' b j) a i (a.size - i) 0 | return dn o i j
      ac := k
      if k > 0 then
        o := o ++ a.extract i (i + k); i := i + k
        if i + 1 == a.size then return la o i j
        if i == a.size then return dn o i j
      o := o.push (<- elem' b j); j := j + 1
      if j == b.size then return dn o i j
      let some k <- gal true (<- elem' a i) b j (b.size - j) 0 | return dn o i j
      bc := k
      if k > 0 then
        o := o ++ b.extract j (j + k); j := j + k
        if j == b.size then return dn o i j
      o := o.push (<- elem' a i); i := i + 1
      if i + 1 == a.size then return la o i j
      if ac < 7 && bc < 7 then break
    mg := mg + 1
    modify fun st => setG st mg
  unsupported "internal:list.sort.merge-bound") := rfl
def leK (f : Keyed -> Int) (x y : Keyed) : Prop := f x <= f y
structure Jm (f : Keyed -> Int) (as bs o : List Keyed) (i j : Nat) : Prop where
  perm : o.Perm (as.take i ++ bs.take j)
  sa : (o ++ as.drop i).Pairwise (leK f)
  sb : (o ++ bs.drop j).Pairwise (leK f)
def Good (f : Keyed -> Int) (as bs r : List Keyed) : Prop := r.Perm (as ++ bs) /\ r.Pairwise (leK f)
theorem take_more (as : List Keyed) (i k : Nat) : as.take (i + k) = as.take i ++ (as.drop i).take k := List.take_add
theorem drop_more (as : List Keyed) (i k : Nat) : as.drop i = (as.drop i).take k ++ as.drop (i + k) := by rw [<- List.drop_drop, yBK]
section
variable {f : Keyed -> Int} {as bs o : List Keyed} {i j : Nat}
theorem Jm.swap (h : Jm f as bs o i j) : Jm f bs as o j i := ⟨h.perm.trans yCH, h.sb, h.sa⟩
theorem Jm.chunk (h : Jm f as bs o i j) (k : Nat) (hc : ∀ x ∈ (as.drop i).take k, ∀ y ∈ bs.drop j, f x <= f y) : Jm f as bs (o ++ (as.drop i).take k) (i + k) j := by
  have sa := h.sa
  rw [drop_more as i k, <- yAJ] at sa
  refine ⟨?_, sa, ?_⟩
  . rw [take_more]
    refine (List.Perm.append_right _ h.perm).trans ?_
    rw [yAJ, yAJ]
    exact List.Perm.append_left _ yCH
  . obtain ⟨p1, p2, p3⟩ := yBW.mp h.sb
    obtain ⟨q1, q2, q3⟩ := yBW.mp sa
    refine yBW.mpr ⟨q1, p2, fun x hx y hy => ?_⟩
    rcases yBC.mp hx with z | z
    . exact p3 x z y hy
    . exact hc x z y hy
theorem Jm.dn (h : Jm f as bs o i j) (e : as.drop i = [] ∨ bs.drop j = []) : Good f as bs (o ++ as.drop i ++ bs.drop j) := by
  refine ⟨?_, ?_⟩
  . have p : (o ++ as.drop i ++ bs.drop j).Perm ((as.take i ++ bs.take j) ++ as.drop i ++ bs.drop j) := List.Perm.append_right _ (List.Perm.append_right _ h.perm)
    refine p.trans ?_
    have e1 : (as.take i ++ bs.take j ++ as.drop i ++ bs.drop j).Perm (as.take i ++ as.drop i ++ (bs.take j ++ bs.drop j)) := by
      rw [yAJ, yAJ, yAJ]
      refine List.Perm.append_left _ ?_
      rw [<- yAJ, <- yAJ]
      exact List.Perm.append_right _ yCH
    rw [yBK, yBK] at e1
    exact e1
  . rcases e with e | e
    . rw [e, yAT]; exact h.sb
    . rw [e, yAT]; exact h.sa
theorem Jm.la (h : Jm f as bs o i j) (hl : ∀ x ∈ as.drop i, ∀ y ∈ bs.drop j, f y <= f x) : Good f as bs (o ++ bs.drop j ++ as.drop i) := by
  have c := h.swap.chunk (bs.length - j) (fun x hx y hy => hl y hy x (List.mem_of_mem_take hx))
  rw [yCF (by rw [yAU]; exact yAB _)] at c
  have g := c.dn (.inl (List.drop_eq_nil_of_le (by omega)))
  rw [List.drop_eq_nil_of_le (as := bs) (i := j + (bs.length - j)) (by omega), yAT] at g
  exact ⟨g.1.trans yCH, g.2⟩
end
theorem ZDO (a : Array Keyed) (i : Nat) : (a.extract i a.size).toList = a.toList.drop i := by
  rw [yBX, yBY]
  exact yCF (by rw [yAU]; simp)
theorem ZDp (a : Array Keyed) (i k : Nat) : (a.extract i (i + k)).toList = (a.toList.drop i).take k := by
  rw [yBX, yBY, show i + k - i = k by omega]
theorem ZEH {a : Array Keyed} {i : Nat} {x : Keyed} (h : a[i]? = some x) : (a.toList.drop i).take 1 = [x] := by
  have hi : i < a.toList.length := by
    rw [yAN]
    exact (yBP.mp h).1
  rw [yCI hi]
  have : a.toList[i] = x := by
    rw [yBP] at h
    obtain ⟨_, e⟩ := h
    simpa using e
  rw [this]
  simp
structure Ev (st st' : SortSt) : Prop where
  k : kindOf st' = kindOf st
  a : arrOf st' = arrOf st
  p : pendingOf st' = pendingOf st
  f : failedOf st' = failedOf st
theorem Ev.refl {st : SortSt} : Ev st st := ⟨rfl, rfl, rfl, rfl⟩
theorem Ev.setG {st st' : SortSt} (h : Ev st st') (g : Nat) : Ev st (setG st' g) := ⟨h.k, h.a, h.p, h.f⟩
section
variable {M : Model} {A : Around} {E : Value -> Shared -> Prop} {s : Shared} {κ : SortKind} {a₀ : Array Keyed} {f : Keyed -> Int}
theorem ZAr {a : Array Keyed} {i : Nat} {x : Keyed} {st : SortSt} {Q : Keyed -> SortSt -> Prop} (h : a[i]? = some x) (q : Q x st) : wpS M A E s (elem' a i) Q st := by
  rw [elem'_eq, h]
  exact wpS_pure q
def InA (a₀ a : Array Keyed) : Prop := ∀ x ∈ a.toList, x ∈ a₀.toList
theorem InA.get {a : Array Keyed} (h : InA a₀ a) {i : Nat} {x : Keyed} (e : a[i]? = some x) : x ∈ a₀.toList := h x (by rw [yBP] at e; obtain ⟨_, rfl⟩ := e; simp)
theorem ZBI {a : Array Keyed} {i : Nat} {x : Keyed} (e : a[i]? = some x) : kn f a i = f x := by unfold kn; rw [e]; rfl
theorem ZCJ {a : Array Keyed} {i : Nat} (h : i < a.size) : ∃ x, a[i]? = some x := ⟨_, getElem?_pos a i h⟩
theorem past_at {left : Bool} {key x : Keyed} {arr : Array Keyed} {base i : Nat} {st : SortSt} {Q : Option Bool -> SortSt -> Prop} (L : Asks M A E s κ a₀ f) (hk : kindOf st = κ) (hx : arr[base + i]? = some x) (h1 : x ∈ a₀.toList) (h2 : key ∈ a₀.toList)
    (q : Q (some (if left = true then decide (f x < f key) else !decide (f key < f x))) st) : wpS M A E s (past left key arr base i) Q st := by
  unfold past
  refine wpS_bind (ZAr hx ?_)
  cases left with
  | true => exact L.lt x key h1 h2 st _ hk q
  | false =>
    refine wpS_bind (L.lt key x h2 h1 st _ hk ?_)
    exact wpS_pure q
theorem ZEK {key : Keyed} {arr : Array Keyed} {base n hint : Nat} {st : SortSt} {Q : Option Nat -> SortSt -> Prop} (L : Asks M A E s κ a₀ f) (hk : kindOf st = κ) (hi : InA a₀ arr) (hkey : key ∈ a₀.toList) (hh : hint < n) (hs : base + n <= arr.size) (hu : Up f arr base n)
    (h : ∀ k, k <= n -> (∀ i, i < k -> kn f arr (base + i) <= f key) -> (∀ i, k <= i -> i < n -> f key < kn f arr (base + i)) -> Q (some k) st) : wpS M A E s (gal false key arr base n hint) Q st := by
  refine gal_ok (fun i => !decide (f key < kn f arr (base + i))) hh (fun i hin Q q => ?_) (fun i j z1 z2 z3 => ?_) fun k k1 k2 k3 => h k k1 (fun i z => ?_) fun i z1 z2 => ?_
  . obtain ⟨x, hx⟩ := ZCJ (a := arr) (i := base + i) (by omega)
    refine past_at L hk hx (hi.get hx) hkey ?_
    rw [ZBI hx] at q
    exact q
  . have := hu (base + i) (base + j) (by omega) (by omega) (by omega)
    simp at z3 ⊢
    omega
  . have := k2 i z
    simp at this
    exact this
  . have := k3 i z1 z2
    simp at this
    exact this
theorem ZDo {key : Keyed} {arr : Array Keyed} {base n hint : Nat} {st : SortSt} {Q : Option Nat -> SortSt -> Prop} (L : Asks M A E s κ a₀ f) (hk : kindOf st = κ) (hi : InA a₀ arr) (hkey : key ∈ a₀.toList) (hh : hint < n) (hs : base + n <= arr.size) (hu : Up f arr base n)
    (h : ∀ k, k <= n -> (∀ i, i < k -> kn f arr (base + i) < f key) -> (∀ i, k <= i -> i < n -> f key <= kn f arr (base + i)) -> Q (some k) st) : wpS M A E s (gal true key arr base n hint) Q st := by
  refine gal_ok (fun i => decide (kn f arr (base + i) < f key)) hh (fun i hin Q q => ?_) (fun i j z1 z2 z3 => ?_) fun k k1 k2 k3 => h k k1 (fun i z => ?_) fun i z1 z2 => ?_
  . obtain ⟨x, hx⟩ := ZCJ (a := arr) (i := base + i) (by omega)
    refine past_at L hk hx (hi.get hx) hkey ?_
    rw [ZBI hx] at q
    exact q
  . have := hu (base + i) (base + j) (by omega) (by omega) (by omega)
    simp at z3 ⊢
    omega
  . have := k2 i z
    simp at this
    exact this
  . have := k3 i z1 z2
    simp at this
    exact this
theorem ZCl {a : Array Keyed} {i : Nat} {x : Keyed} (h : x ∈ a.toList.drop i) : ∃ k, i <= k /\ k < a.size /\ kn f a k = f x /\ a[k]? = some x := by
  obtain ⟨n, hn⟩ := yBF h
  rw [yBT] at hn
  rw [yBD] at hn
  exact ⟨i + n, by omega, (yBP.mp hn).1, ZBI hn, hn⟩
theorem mem_take {a : Array Keyed} {i k : Nat} {x : Keyed} (h : x ∈ (a.toList.drop i).take k) : ∃ n, i <= n /\ n < i + k /\ n < a.size /\ kn f a n = f x := by
  obtain ⟨n, hn⟩ := yBF h
  have hl := (yAH.mp hn).1
  rw [yAL] at hl
  rw [yBR (by omega), yBT, yBD] at hn
  exact ⟨i + n, by omega, by omega, (yBP.mp hn).1, ZBI hn⟩
structure Two (a₀ : Array Keyed) (f : Keyed -> Int) (a b : Array Keyed) : Prop where
  ia : InA a₀ a
  ib : InA a₀ b
  ua : Up f a 0 a.size
  ub : Up f b 0 b.size
  na : 1 <= a.size
  nb : 1 <= b.size
  lo : ∀ i, i < a.size -> kn f b 0 <= kn f a i
  hi : ∀ j, j < b.size -> kn f b j <= kn f a (a.size - 1)
end
end L2S
namespace L2S
open PySem PyProof.Rows
abbrev C5 := Option (Array Keyed) × Array Keyed × Nat × Nat × Nat
abbrev C6 := Option (Array Keyed) × Array Keyed × Nat × Nat × Nat × Nat
abbrev C7 := Option (Array Keyed) × Array Keyed × Nat × Nat × Nat × Nat × Nat
abbrev SM (α : Type) := StateT SortSt Sem α
abbrev dnA (a b o : Array Keyed) (i j : Nat) : Array Keyed := o ++ a.extract i a.size ++ b.extract j b.size
abbrev laA (a b o : Array Keyed) (i j : Nat) : Array Keyed := o ++ b.extract j b.size ++ a.extract i a.size
def lo1 (a b : Array Keyed) (mg : Nat) (c : C6) : SM (ForInStep C6) := do
  let y <- elem' b c.2.2.2.1
  let x <- elem' a c.2.2.1
  let r <- lt' y x
  match r with
  | some w =>
    if w = true then do
      let y <- elem' b c.2.2.2.1
      if (c.2.2.2.1 + 1 == b.size) = true then pure (.done (some (dnA a b (c.2.1.push y) c.2.2.1 (c.2.2.2.1 + 1)), c.2.1.push y, c.2.2.1, c.2.2.2.1 + 1, 0, c.2.2.2.2.2 + 1))
      else if c.2.2.2.2.2 + 1 ≥ mg then pure (.done (none, c.2.1.push y, c.2.2.1, c.2.2.2.1 + 1, 0, c.2.2.2.2.2 + 1))
      else pure (.yield (none, c.2.1.push y, c.2.2.1, c.2.2.2.1 + 1, 0, c.2.2.2.2.2 + 1))
    else do
      let x <- elem' a c.2.2.1
      if (c.2.2.1 + 1 + 1 == a.size) = true then pure (.done (some (laA a b (c.2.1.push x) (c.2.2.1 + 1) c.2.2.2.1), c.2.1.push x, c.2.2.1 + 1, c.2.2.2.1, c.2.2.2.2.1 + 1, 0))
      else if c.2.2.2.2.1 + 1 ≥ mg then pure (.done (none, c.2.1.push x, c.2.2.1 + 1, c.2.2.2.1, c.2.2.2.2.1 + 1, 0))
      else pure (.yield (none, c.2.1.push x, c.2.2.1 + 1, c.2.2.2.1, c.2.2.2.2.1 + 1, 0))
  | _ => pure (.done (some (dnA a b c.2.1 c.2.2.1 c.2.2.2.1), c.2.1, c.2.2.1, c.2.2.2.1, c.2.2.2.2.1, c.2.2.2.2.2))
def lo4 (a b : Array Keyed) (g ac bc : Nat) (o : Array Keyed) (i j : Nat) : SM (ForInStep C7) := do
  let x <- elem' a i
  if (i + 1 + 1 == a.size) = true then pure (.done (some (laA a b (o.push x) (i + 1) j), o.push x, i + 1, j, g, ac, bc))
  else if (decide (ac < 7) && decide (bc < 7)) = true then pure (.done (none, o.push x, i + 1, j, g, ac, bc))
  else pure (.yield (none, o.push x, i + 1, j, g, ac, bc))
def lo3 (a b : Array Keyed) (g ac bc : Nat) (o : Array Keyed) (i j : Nat) : SM (ForInStep C7) := do
  let y <- elem' b j
  if (j + 1 == b.size) = true then pure (.done (some (dnA a b (o.push y) i (j + 1)), o.push y, i, j + 1, g, ac, bc))
  else do
    let x <- elem' a i
    let r <- gal true x b (j + 1) (b.size - (j + 1)) 0
    match r with
    | some k =>
      if k > 0 then
        if (j + 1 + k == b.size) = true then pure (.done (some (dnA a b (o.push y ++ b.extract (j + 1) (j + 1 + k)) i (j + 1 + k)), o.push y ++ b.extract (j + 1) (j + 1 + k), i, j + 1 + k, g, ac, k))
        else lo4 a b g ac k (o.push y ++ b.extract (j + 1) (j + 1 + k)) i (j + 1 + k)
      else lo4 a b g ac k (o.push y) i (j + 1)
    | _ => pure (.done (some (dnA a b (o.push y) i (j + 1)), o.push y, i, j + 1, g, ac, bc))
def lo2 (a b : Array Keyed) (g ac bc : Nat) (o : Array Keyed) (i j : Nat) : SM (ForInStep C7) := do
  modify fun st => setG st g
  let y <- elem' b j
  let r <- gal false y a i (a.size - i) 0
  match r with
  | some k =>
    if k > 0 then
      if (i + k + 1 == a.size) = true then pure (.done (some (laA a b (o ++ a.extract i (i + k)) (i + k) j), o ++ a.extract i (i + k), i + k, j, g, k, bc))
      else if (i + k == a.size) = true then pure (.done (some (dnA a b (o ++ a.extract i (i + k)) (i + k) j), o ++ a.extract i (i + k), i + k, j, g, k, bc))
      else lo3 a b g k bc (o ++ a.extract i (i + k)) (i + k) j
    else lo3 a b g k bc o i j
  | _ => pure (.done (some (dnA a b o i j), o, i, j, g, ac, bc))
def loB (a b : Array Keyed) (c : C7) : SM (ForInStep C7) :=
  if c.2.2.2.2.1 > 1 then lo2 a b (c.2.2.2.2.1 - 1) c.2.2.2.2.2.1 c.2.2.2.2.2.2 c.2.1 c.2.2.1 c.2.2.2.1
  else lo2 a b c.2.2.2.2.1 c.2.2.2.2.2.1 c.2.2.2.2.2.2 c.2.1 c.2.2.1 c.2.2.2.1
def loO (a b : Array Keyed) (c : C5) : SM (ForInStep C5) := do
  let c1 <- forIn [0:a.size + b.size] ((none, c.2.1, c.2.2.1, c.2.2.2.1, 0, 0) : C6) fun _ d => lo1 a b c.2.2.2.2 d
  match c1.1 with
  | some r => pure (.done (some r, c1.2.1, c1.2.2.1, c1.2.2.2.1, c.2.2.2.2))
  | none => do
    liftM (rule "list.sort.gallop")
    let c2 <- forIn [0:a.size + b.size] ((none, c1.2.1, c1.2.2.1, c1.2.2.2.1, c.2.2.2.2 + 1, c1.2.2.2.2.1, c1.2.2.2.2.2) : C7) fun _ d => loB a b d
    match c2.1 with
    | some r => pure (.done (some r, c2.2.1, c2.2.2.1, c2.2.2.2.1, c2.2.2.2.2.1))
    | none => do
      modify fun st => setG st (c2.2.2.2.2.1 + 1)
      pure (.yield (none, c2.2.1, c2.2.2.1, c2.2.2.2.1, c2.2.2.2.2.1 + 1))
theorem bnd2 {α β : Type} {m m' : StateT SortSt Sem α} {g h : α -> StateT SortSt Sem β} (e0 : m = m') (e : ∀ a, g a = h a) : (m >>= g) = (m' >>= h) := by rw [e0, show g = h from funext e]
theorem for2 {β : Type} {r : Std.Legacy.Range} {c : β} {g h : Nat -> β -> StateT SortSt Sem (ForInStep β)} (e : ∀ x c, g x c = h x c) : forIn r c g = forIn r c h := by rw [show g = h from funext fun x => funext (e x)]
theorem if2 {α : Type} {c : Prop} [Decidable c] {x y x' y' : α} (e1 : x = x') (e2 : y = y') : (if c then x else y) = (if c then x' else y') := by rw [e1, e2]
theorem mLo_low (a b : Array Keyed) : mLo a b = (do
  liftM (rule "list.sort.merge-lo")
  let y <- elem' b 0
  if (1 == b.size) = true then pure (dnA a b #[y] 0 1)
  else if (0 + 1 == a.size) = true then pure (laA a b #[y] 0 1)
  else do
    let st <- get
    let c <- forIn [0:a.size + b.size] ((none, #[y], 0, 1, gallopOf st) : C5) fun _ d => loO a b d
    match c.1 with
    | some r => pure r
    | none => liftM (unsupported "internal:list.sort.merge-bound" : Sem (Array Keyed))) := by
  rw [mLo_eq]
  refine bnd _ fun _ => bnd _ fun y => ?_
  refine if2 rfl (if2 rfl ?_)
  refine bnd _ fun st => bnd2 (for2 fun _ c => ?_) fun c => ?_
  . unfold loO
    refine bnd2 (for2 fun _ d => ?_) fun c1 => ?_
    . rfl
    . obtain ⟨r, o, i, j, ac, bc⟩ := c1
      cases r with
      | some r => rfl
      | none =>
        refine bnd2 rfl fun _ => bnd2 (for2 fun _ d => ?_) fun c2 => ?_
        . unfold loB
          refine if2 ?_ ?_
          all_goals
            unfold lo2
            refine bnd2 rfl fun _ => bnd2 rfl fun y => bnd2 rfl fun r => ?_
            cases r with
            | none => rfl
            | some k =>
              refine if2 (if2 rfl (if2 rfl ?_)) ?_
              all_goals
                unfold lo3
                refine bnd2 rfl fun y2 => if2 rfl (bnd2 rfl fun x2 => bnd2 rfl fun r2 => ?_)
                cases r2 with
                | none => rfl
                | some k2 =>
                  refine if2 (if2 rfl ?_) ?_
                  all_goals
                    unfold lo4
                    refine bnd2 rfl fun x3 => if2 rfl (if2 rfl rfl)
        . obtain ⟨r, o, i, j, g, ac, bc⟩ := c2
          cases r with
          | some r => rfl
          | none => rfl
  . obtain ⟨r, o, i, j, g⟩ := c
    cases r with
    | some r => rfl
    | none => rfl
end L2S
namespace L2S
open PySem PyProof.Rows
section
variable {M : Model} {A : Around} {E : Value -> Shared -> Prop} {s : Shared} {κ : SortKind} {a₀ : Array Keyed} {f : Keyed -> Int} {a b o : Array Keyed} {i j : Nat}
theorem ZEO {a : Array Keyed} (h : Up f a 0 a.size) : a.toList.Pairwise (leK f) := by
  rw [List.pairwise_iff_getElem]
  intro i j hi hj hij
  rw [yAN] at hi hj
  have := h i j (yAG _) (yBI hij) (by omega)
  rw [ZBI (getElem?_pos a i hi), ZBI (getElem?_pos a j hj)] at this
  simpa [leK] using this
abbrev JA (f : Keyed -> Int) (a b o : Array Keyed) (i j : Nat) : Prop := Jm f a.toList b.toList o.toList i j
abbrev Fin (f : Keyed -> Int) (a b r : Array Keyed) : Prop := Good f a.toList b.toList r.toList
theorem JA.dn (h : JA f a b o i j) (e : a.size <= i ∨ b.size <= j) : Fin f a b (dnA a b o i j) := by
  have g := Jm.dn h (e.imp (fun z => List.drop_eq_nil_of_le (by rw [yAN]; exact z)) (fun z => List.drop_eq_nil_of_le (by rw [yAN]; exact z)))
  unfold Fin dnA
  rw [yBM, yBM, ZDO, ZDO]
  exact g
theorem JA.la (h : JA f a b o i j) (T : Two a₀ f a b) (e : i + 1 = a.size) : Fin f a b (laA a b o i j) := by
  have g := Jm.la h fun x hx y hy => by
    obtain ⟨k, k1, k2, k3, _⟩ := ZCl (f := f) hx
    obtain ⟨n, n1, n2, n3, _⟩ := ZCl (f := f) hy
    have := T.hi n n2
    rw [show a.size - 1 = k by omega, k3, n3] at this
    exact this
  unfold Fin laA
  rw [yBM, yBM, ZDO, ZDO]
  exact g
theorem JA.pushA {x : Keyed} (h : JA f a b o i j) (hx : a[i]? = some x) (hc : ∀ n, j <= n -> n < b.size -> f x <= kn f b n) : JA f a b (o.push x) (i + 1) j := by
  have g := Jm.chunk h 1 fun u hu y hy => by
    rw [ZEH hx, yAR] at hu
    obtain ⟨n, n1, n2, n3, _⟩ := ZCl (f := f) hy
    rw [hu, <- n3]
    exact hc n n1 n2
  rw [ZEH hx] at g
  unfold JA
  rw [Array.toList_push]
  exact g
theorem JA.pushB {x : Keyed} (h : JA f a b o i j) (hx : b[j]? = some x) (hc : ∀ n, i <= n -> n < a.size -> f x <= kn f a n) : JA f a b (o.push x) i (j + 1) :=
  (JA.pushA (Jm.swap h) hx hc).swap
theorem JA.chunkA (h : JA f a b o i j) (k : Nat) (hc : ∀ n m, i <= n -> n < i + k -> n < a.size -> j <= m -> m < b.size -> kn f a n <= kn f b m) : JA f a b (o ++ a.extract i (i + k)) (i + k) j := by
  have g := Jm.chunk h k fun u hu y hy => by
    obtain ⟨n, n1, n2, n3, n4⟩ := mem_take (f := f) hu
    obtain ⟨m, m1, m2, m3, _⟩ := ZCl (f := f) hy
    rw [<- n4, <- m3]
    exact hc n m n1 n2 n3 m1 m2
  unfold JA
  rw [yBM, ZDp]
  exact g
theorem JA.chunkB (h : JA f a b o i j) (k : Nat) (hc : ∀ n m, j <= n -> n < j + k -> n < b.size -> i <= m -> m < a.size -> kn f b n <= kn f a m) : JA f a b (o ++ b.extract j (j + k)) i (j + k) :=
  (JA.chunkA (Jm.swap h) k hc).swap
theorem Up.sub {xs : Array Keyed} {n : Nat} (h : Up f xs 0 n) {lo m : Nat} (e : lo + m <= n) : Up f xs lo m := fun i j z1 z2 z3 => h i j (yAG _) z2 (by omega)
def R7 (f : Keyed -> Int) (a b : Array Keyed) (st : SortSt) (x : Nat) : ForInStep C7 -> SortSt -> Prop
  | .done c, st' => Ev st st' /\ ((∃ r z, c = (some r, z) /\ Fin f a b r) ∨ ∃ o i j g ac bc, c = (none, o, i, j, g, ac, bc) /\ JA f a b o i j /\ i + 1 < a.size /\ j < b.size /\ x + 2 <= i + j)
  | .yield c, st' => Ev st st' /\ ∃ o i j g ac bc, c = (none, o, i, j, g, ac, bc) /\ JA f a b o i j /\ i + 1 < a.size /\ j < b.size /\ x + 2 <= i + j
theorem mLo_ok {st : SortSt} {Q : Array Keyed -> SortSt -> Prop} (L : Asks M A E s κ a₀ f) (hk : kindOf st = κ) (T : Two a₀ f a b) (h : ∀ r st', Ev st st' -> Fin f a b r -> Q r st') : wpS M A E s (mLo a b) Q st := by
  have ta := T.na
  have tb := T.nb
  have ua : ∀ n m, n <= m -> m < a.size -> kn f a n <= kn f a m := fun n m z1 z2 => T.ua n m (yAG _) z1 (by omega)
  have ub : ∀ n m, n <= m -> m < b.size -> kn f b n <= kn f b m := fun n m z1 z2 => T.ub n m (yAG _) z1 (by omega)
  rw [mLo_low]
  refine wpS_bind (wpS_lift (wpAny_rule ⟨rfl, ?_⟩))
  obtain ⟨y0, hy0⟩ := ZCJ (a := b) (i := 0) (by omega)
  refine wpS_bind (ZAr hy0 ?_)
  have J0 : JA f a b #[y0] 0 1 := by
    have e : JA f a b #[] 0 0 := ⟨by simp, by simpa using ZEO T.ua, by simpa using ZEO T.ub⟩
    have := JA.pushB e hy0 fun n _ n2 => by rw [<- ZBI (f := f) hy0]; exact T.lo n n2
    exact this
  by_cases c1 : 1 = b.size
  . rw [if_pos (by simpa using c1)]
    exact wpS_pure (h _ st .refl (J0.dn (.inr (by omega))))
  rw [if_neg (by simpa using c1)]
  by_cases c2 : 0 + 1 = a.size
  . rw [if_pos (by simpa using c2)]
    exact wpS_pure (h _ st .refl (J0.la T c2))
  rw [if_neg (by simpa using c2)]
  refine wpS_bind (wpS_get ?_)
  refine wpS_bind (wpS_mono (wpS_forRange (I := fun x c st' => Ev st st' /\ ∃ o i j g, c = (none, o, i, j, g) /\ JA f a b o i j /\ i + 1 < a.size /\ j < b.size /\ x + 1 <= i + j) (Q := fun c st' => Ev st st' /\ ∃ r z, c = (some r, z) /\ Fin f a b r) ?_ ?_ ⟨.refl, _, 0, 1, _, rfl, J0, by omega, by omega, by omega⟩) ?_)
  . rintro x c st1 _ hx ⟨e1, o, i, j, g, rfl, J, hi, hj, hp⟩
    unfold loO
    dsimp only
    refine wpS_bind (wpS_mono (wpS_forRange (I := fun y c st' => Ev st st' /\ ∃ o i j ac bc, c = (none, o, i, j, ac, bc) /\ JA f a b o i j /\ i + 1 < a.size /\ j < b.size /\ x + 1 + y <= i + j)
      (Q := fun c st' => Ev st st' /\ ((∃ r z, c = (some r, z) /\ Fin f a b r) ∨ ∃ o i j ac bc, c = (none, o, i, j, ac, bc) /\ JA f a b o i j /\ i + 1 < a.size /\ j < b.size /\ x + 2 <= i + j)) ?_ ?_ ⟨e1, o, i, j, 0, 0, rfl, J, hi, hj, by omega⟩) ?_)
    . rintro y c st2 _ hy ⟨e2, o, i, j, ac, bc, rfl, J, hi, hj, hp⟩
      unfold lo1
      dsimp only
      obtain ⟨yb, hyb⟩ := ZCJ (a := b) hj
      obtain ⟨xa, hxa⟩ := ZCJ (a := a) (i := i) (by omega)
      refine wpS_bind (ZAr hyb ?_)
      refine wpS_bind (ZAr hxa ?_)
      refine wpS_bind (L.lt yb xa (T.ib.get hyb) (T.ia.get hxa) st2 _ (e2.k.trans hk) ?_)
      by_cases hw : f yb < f xa
      . rw [decide_eq_true hw]
        dsimp only
        rw [if_pos rfl]
        refine wpS_bind (ZAr hyb ?_)
        have J2 := J.pushB hyb fun n n1 n2 => by
          have := ua i n n1 n2
          rw [ZBI hxa] at this
          omega
        by_cases c3 : j + 1 = b.size
        . rw [if_pos (by simpa using c3)]
          exact wpS_pure ⟨e2, .inl ⟨_, _, rfl, J2.dn (.inr (by omega))⟩⟩
        rw [if_neg (by simpa using c3)]
        split
        . exact wpS_pure ⟨e2, .inr ⟨_, _, _, _, _, rfl, J2, hi, by omega, by omega⟩⟩
        . exact wpS_pure ⟨e2, _, _, _, _, _, rfl, J2, hi, by omega, by omega⟩
      . rw [decide_eq_false hw]
        dsimp only
        rw [if_neg (by decide)]
        refine wpS_bind (ZAr hxa ?_)
        have J2 := J.pushA hxa fun n n1 n2 => by
          have := ub j n n1 n2
          rw [ZBI hyb] at this
          omega
        by_cases c3 : i + 1 + 1 = a.size
        . rw [if_pos (by simpa using c3)]
          exact wpS_pure ⟨e2, .inl ⟨_, _, rfl, J2.la T c3⟩⟩
        rw [if_neg (by simpa using c3)]
        split
        . exact wpS_pure ⟨e2, .inr ⟨_, _, _, _, _, rfl, J2, by omega, hj, by omega⟩⟩
        . exact wpS_pure ⟨e2, _, _, _, _, _, rfl, J2, by omega, hj, by omega⟩
    . rintro c st2 ⟨e2, o, i, j, ac, bc, rfl, J, hi, hj, hp⟩
      exact ⟨e2, .inr ⟨_, _, _, _, _, rfl, J, hi, hj, by omega⟩⟩
    . rintro c st2 ⟨e2, ⟨r, z, rfl, hr⟩ | ⟨o, i, j, ac, bc, rfl, J, hi, hj, hp⟩⟩
      . exact wpS_pure ⟨e2, r, _, rfl, hr⟩
      dsimp only
      refine wpS_bind (wpS_lift (wpAny_rule ⟨rfl, ?_⟩))
      refine wpS_bind (wpS_mono (wpS_forRange (I := fun y c st' => Ev st st' /\ ∃ o i j g ac bc, c = (none, o, i, j, g, ac, bc) /\ JA f a b o i j /\ i + 1 < a.size /\ j < b.size /\ x + 2 <= i + j)
        (Q := fun c st' => Ev st st' /\ ((∃ r z, c = (some r, z) /\ Fin f a b r) ∨ ∃ o i j g ac bc, c = (none, o, i, j, g, ac, bc) /\ JA f a b o i j /\ i + 1 < a.size /\ j < b.size /\ x + 2 <= i + j)) ?_ ?_ ⟨e2, o, i, j, _, ac, bc, rfl, J, hi, hj, hp⟩) ?_)
      . rintro y c st3 _ hy ⟨e3, o, i, j, g, ac, bc, rfl, J, hi, hj, hp⟩
        have four : ∀ (g ac bc : Nat) (o : Array Keyed) (i j : Nat) (st4 : SortSt) (xa : Keyed), Ev st st4 -> JA f a b o i j -> i + 1 < a.size -> j < b.size -> x + 2 <= i + j -> a[i]? = some xa -> (∀ n, j <= n -> n < b.size -> f xa <= kn f b n) ->
            wpS M A E s (lo4 a b g ac bc o i j) (R7 f a b st x) st4 := by
          intro g ac bc o i j st4 xa e4 J hi hj hp hxa hle
          unfold lo4
          refine wpS_bind (ZAr hxa ?_)
          have J2 := J.pushA hxa hle
          by_cases c3 : i + 1 + 1 = a.size
          . rw [if_pos (by simpa using c3)]
            exact wpS_pure ⟨e4, .inl ⟨_, _, rfl, J2.la T c3⟩⟩
          rw [if_neg (by simpa using c3)]
          split
          . exact wpS_pure ⟨e4, .inr ⟨_, _, _, _, _, _, rfl, J2, by omega, hj, by omega⟩⟩
          . exact wpS_pure ⟨e4, _, _, _, _, _, _, rfl, J2, by omega, hj, by omega⟩
        have three : ∀ (g ac bc : Nat) (o : Array Keyed) (i j : Nat) (st4 : SortSt) (yb : Keyed), Ev st st4 -> JA f a b o i j -> i + 1 < a.size -> j < b.size -> x + 2 <= i + j -> b[j]? = some yb -> (∀ n, i <= n -> n < a.size -> f yb <= kn f a n) ->
            wpS M A E s (lo3 a b g ac bc o i j) (R7 f a b st x) st4 := by
          intro g ac bc o i j st4 yb e4 J hi hj hp hyb hle
          unfold lo3
          refine wpS_bind (ZAr hyb ?_)
          have J2 := J.pushB hyb hle
          by_cases c3 : j + 1 = b.size
          . rw [if_pos (by simpa using c3)]
            exact wpS_pure ⟨e4, .inl ⟨_, _, rfl, J2.dn (.inr (by omega))⟩⟩
          rw [if_neg (by simpa using c3)]
          obtain ⟨xa, hxa⟩ := ZCJ (a := a) (i := i) (by omega)
          refine wpS_bind (ZAr hxa ?_)
          refine wpS_bind (ZDo L (e4.k.trans hk) T.ib (T.ia.get hxa) (by omega) (by omega) (T.ub.sub (by omega)) fun k k1 k2 k3 => ?_)
          dsimp only
          have rest : ∀ n, j + 1 + k <= n -> n < b.size -> f xa <= kn f b n := fun n n1 n2 => by
            have := k3 (n - (j + 1)) (by omega) (by omega)
            rw [show j + 1 + (n - (j + 1)) = n by omega] at this
            exact this
          by_cases hk0 : k > 0
          . rw [if_pos hk0]
            have J3 := J2.chunkB k fun n m n1 n2 n3 m1 m2 => by
              have z := k2 (n - (j + 1)) (by omega)
              rw [show j + 1 + (n - (j + 1)) = n by omega] at z
              have z2 := ua i m m1 m2
              rw [ZBI hxa] at z2
              omega
            by_cases c4 : j + 1 + k = b.size
            . rw [if_pos (by simpa using c4)]
              exact wpS_pure ⟨e4, .inl ⟨_, _, rfl, J3.dn (.inr (by omega))⟩⟩
            rw [if_neg (by simpa using c4)]
            exact four _ _ _ _ _ _ _ xa e4 J3 hi (by omega) (by omega) hxa rest
          . rw [if_neg hk0]
            have : k = 0 := by omega
            subst this
            exact four _ _ _ _ _ _ _ xa e4 J2 hi (by omega) (by omega) hxa rest
        have two : ∀ (g ac bc : Nat), wpS M A E s (lo2 a b g ac bc o i j) (R7 f a b st x) st3 := by
          intro g ac bc
          unfold lo2
          obtain ⟨yb, hyb⟩ := ZCJ (a := b) hj
          refine wpS_bind (wpS_modify ?_)
          have e4 := e3.setG g
          refine wpS_bind (ZAr hyb ?_)
          refine wpS_bind (ZEK L (e4.k.trans hk) T.ia (T.ib.get hyb) (by omega) (by omega) (T.ua.sub (by omega)) fun k k1 k2 k3 => ?_)
          dsimp only
          have rest : ∀ n, i + k <= n -> n < a.size -> f yb <= kn f a n := fun n n1 n2 => by
            have := k3 (n - i) (by omega) (by omega)
            rw [show i + (n - i) = n by omega] at this
            omega
          by_cases hk0 : k > 0
          . rw [if_pos hk0]
            have J3 := J.chunkA k fun n m n1 n2 n3 m1 m2 => by
              have z := k2 (n - i) (by omega)
              rw [show i + (n - i) = n by omega] at z
              have z2 := ub j m m1 m2
              rw [ZBI hyb] at z2
              omega
            by_cases c4 : i + k + 1 = a.size
            . rw [if_pos (by simpa using c4)]
              exact wpS_pure ⟨e4, .inl ⟨_, _, rfl, J3.la T c4⟩⟩
            rw [if_neg (by simpa using c4)]
            by_cases c5 : i + k = a.size
            . rw [if_pos (by simpa using c5)]
              exact wpS_pure ⟨e4, .inl ⟨_, _, rfl, J3.dn (.inl (by omega))⟩⟩
            rw [if_neg (by simpa using c5)]
            exact three _ _ _ _ _ _ _ yb e4 J3 (by omega) hj (by omega) hyb rest
          . rw [if_neg hk0]
            have : k = 0 := by omega
            subst this
            exact three _ _ _ _ _ _ _ yb e4 J hi hj hp hyb rest
        unfold loB
        dsimp only
        split
        . exact wpS_mono (two _ _ _) fun r st' z => by cases r <;> exact z
        . exact wpS_mono (two _ _ _) fun r st' z => by cases r <;> exact z
      . rintro c st3 ⟨e3, o, i, j, g, ac, bc, rfl, J, hi, hj, hp⟩
        exact ⟨e3, .inr ⟨_, _, _, _, _, _, rfl, J, hi, hj, hp⟩⟩
      . rintro c st3 ⟨e3, ⟨r, z, rfl, hr⟩ | ⟨o, i, j, g, ac, bc, rfl, J, hi, hj, hp⟩⟩
        . exact wpS_pure ⟨e3, r, _, rfl, hr⟩
        . dsimp only
          exact wpS_bind (wpS_modify (wpS_pure ⟨e3.setG _, _, _, _, _, rfl, J, hi, hj, by omega⟩))
  . rintro c st1 ⟨e1, o, i, j, g, rfl, J, hi, hj, hp⟩
    omega
  . rintro c st1 ⟨e1, r, z, rfl, hr⟩
    exact wpS_pure (h r st1 e1 hr)
end
end L2S
namespace L2S
open PySem PyProof.Rows
def mHi : Array Keyed -> Array Keyed -> StateT SortSt Sem (Array Keyed) := sortPriv% PySem.Builtin.mergeHi
theorem mHi_eq (a b : Array Keyed) : mHi a b = (do
  rule "list.sort.merge-hi"
  let tt := a.size + b.size
  let dn (o : Array Keyed) (i j : Nat) := a.extract 0 i ++ b.extract 0 j ++ o.reverse
  let fb (o : Array Keyed) (i j : Nat) := b.extract 0 j ++ a.extract 0 i ++ o.reverse
  let mut i := a.size - 1
  let mut j := b.size
  let mut o : Array Keyed := #[<- elem' a i]
  if i == 0 then return dn o i j
  if j == 1 then return fb o i j
  let mut mg := gallopOf (<- get)
  for _ in [0:tt] do
    let mut ac := 0
    let mut bc := 0
    for _ in [0:tt] do
      let some w <- lt' (<- elem' b (j - 1)) (<- elem' a (i - 1)) | return dn o i j
      if w then
        i := i - 1; o := o.push (<- elem' a i); ac := ac + 1; bc := 0
        if i == 0 then return dn o i j
        if ac ≥ mg then break
      else
        j := j - 1; o := o.push (<- elem' b j); bc := bc + 1; ac := 0
        if j == 1 then return fb o i j
        if bc ≥ mg then break
    rule "list.sort.gallop"
    mg := mg + 1
    for _ in [0:tt] do
      if mg > 1 then mg := mg - 1
      modify fun st => setG st mg
      let some t <- gal false (<- elem' b (j - 1)) a 0 i (i - 1) | return dn o i j
      let k := i - t
      ac := k
      if k > 0 then
        o := o ++ (a.extract t i).reverse; i := t
        if i == 0 then return dn o i j
      j := j - 1; o := o.push (<- elem' b j)
      if j == 1 then return fb o i j
      let some t <- gal true (<- elem' a (i - 1)) b 0 j (j - 1) | return dn o i j
      let k := j - t
      bc := k
      if k > 0 then
        o := o ++ (b.extract t j).reverse; j := t
        if j == 1 then return fb o i j
        if j == 0 then return dn o i j
      i := i - 1; o := o.push (<- elem' a i)
      if i == 0 then return dn o i j
      if ac < 7 && bc < 7 then break
    mg := mg + 1
    modify fun st => setG st mg
  unsupported "internal:list.sort.merge-bound") := rfl
abbrev D5 := Option (Array Keyed) × Nat × Nat × Array Keyed × Nat
abbrev D6 := Option (Array Keyed) × Nat × Nat × Array Keyed × Nat × Nat
abbrev D7 := Option (Array Keyed) × Nat × Nat × Array Keyed × Nat × Nat × Nat
abbrev dnH (a b o : Array Keyed) (i j : Nat) : Array Keyed := a.extract 0 i ++ b.extract 0 j ++ o.reverse
abbrev fbH (a b o : Array Keyed) (i j : Nat) : Array Keyed := b.extract 0 j ++ a.extract 0 i ++ o.reverse
def hi1 (a b : Array Keyed) (mg : Nat) (c : D6) : SM (ForInStep D6) := do
  let y <- elem' b (c.2.2.1 - 1)
  let x <- elem' a (c.2.1 - 1)
  let r <- lt' y x
  match r with
  | some w =>
    if w = true then do
      let x <- elem' a (c.2.1 - 1)
      if (c.2.1 - 1 == 0) = true then pure (.done (some (dnH a b (c.2.2.2.1.push x) (c.2.1 - 1) c.2.2.1), c.2.1 - 1, c.2.2.1, c.2.2.2.1.push x, c.2.2.2.2.1 + 1, 0))
      else if c.2.2.2.2.1 + 1 ≥ mg then pure (.done (none, c.2.1 - 1, c.2.2.1, c.2.2.2.1.push x, c.2.2.2.2.1 + 1, 0))
      else pure (.yield (none, c.2.1 - 1, c.2.2.1, c.2.2.2.1.push x, c.2.2.2.2.1 + 1, 0))
    else do
      let y <- elem' b (c.2.2.1 - 1)
      if (c.2.2.1 - 1 == 1) = true then pure (.done (some (fbH a b (c.2.2.2.1.push y) c.2.1 (c.2.2.1 - 1)), c.2.1, c.2.2.1 - 1, c.2.2.2.1.push y, 0, c.2.2.2.2.2 + 1))
      else if c.2.2.2.2.2 + 1 ≥ mg then pure (.done (none, c.2.1, c.2.2.1 - 1, c.2.2.2.1.push y, 0, c.2.2.2.2.2 + 1))
      else pure (.yield (none, c.2.1, c.2.2.1 - 1, c.2.2.2.1.push y, 0, c.2.2.2.2.2 + 1))
  | _ => pure (.done (some (dnH a b c.2.2.2.1 c.2.1 c.2.2.1), c.2.1, c.2.2.1, c.2.2.2.1, c.2.2.2.2.1, c.2.2.2.2.2))
def hi4 (a b : Array Keyed) (g ac bc : Nat) (o : Array Keyed) (i j : Nat) : SM (ForInStep D7) := do
  let x <- elem' a (i - 1)
  if (i - 1 == 0) = true then pure (.done (some (dnH a b (o.push x) (i - 1) j), i - 1, j, o.push x, g, ac, bc))
  else if (decide (ac < 7) && decide (bc < 7)) = true then pure (.done (none, i - 1, j, o.push x, g, ac, bc))
  else pure (.yield (none, i - 1, j, o.push x, g, ac, bc))
def hi3 (a b : Array Keyed) (g ac bc : Nat) (o : Array Keyed) (i j : Nat) : SM (ForInStep D7) := do
  let y <- elem' b (j - 1)
  if (j - 1 == 1) = true then pure (.done (some (fbH a b (o.push y) i (j - 1)), i, j - 1, o.push y, g, ac, bc))
  else do
    let x <- elem' a (i - 1)
    let r <- gal true x b 0 (j - 1) (j - 1 - 1)
    match r with
    | some t =>
      if j - 1 - t > 0 then
        if (t == 1) = true then pure (.done (some (fbH a b (o.push y ++ (b.extract t (j - 1)).reverse) i t), i, t, o.push y ++ (b.extract t (j - 1)).reverse, g, ac, j - 1 - t))
        else if (t == 0) = true then pure (.done (some (dnH a b (o.push y ++ (b.extract t (j - 1)).reverse) i t), i, t, o.push y ++ (b.extract t (j - 1)).reverse, g, ac, j - 1 - t))
        else hi4 a b g ac (j - 1 - t) (o.push y ++ (b.extract t (j - 1)).reverse) i t
      else hi4 a b g ac (j - 1 - t) (o.push y) i (j - 1)
    | _ => pure (.done (some (dnH a b (o.push y) i (j - 1)), i, j - 1, o.push y, g, ac, bc))
def hi2 (a b : Array Keyed) (g ac bc : Nat) (o : Array Keyed) (i j : Nat) : SM (ForInStep D7) := do
  modify fun st => setG st g
  let y <- elem' b (j - 1)
  let r <- gal false y a 0 i (i - 1)
  match r with
  | some t =>
    if i - t > 0 then
      if (t == 0) = true then pure (.done (some (dnH a b (o ++ (a.extract t i).reverse) t j), t, j, o ++ (a.extract t i).reverse, g, i - t, bc))
      else hi3 a b g (i - t) bc (o ++ (a.extract t i).reverse) t j
    else hi3 a b g (i - t) bc o i j
  | _ => pure (.done (some (dnH a b o i j), i, j, o, g, ac, bc))
def hiB (a b : Array Keyed) (c : D7) : SM (ForInStep D7) :=
  if c.2.2.2.2.1 > 1 then hi2 a b (c.2.2.2.2.1 - 1) c.2.2.2.2.2.1 c.2.2.2.2.2.2 c.2.2.2.1 c.2.1 c.2.2.1
  else hi2 a b c.2.2.2.2.1 c.2.2.2.2.2.1 c.2.2.2.2.2.2 c.2.2.2.1 c.2.1 c.2.2.1
def hiO (a b : Array Keyed) (c : D5) : SM (ForInStep D5) := do
  let c1 <- forIn [0:a.size + b.size] ((none, c.2.1, c.2.2.1, c.2.2.2.1, 0, 0) : D6) fun _ d => hi1 a b c.2.2.2.2 d
  match c1.1 with
  | some r => pure (.done (some r, c1.2.1, c1.2.2.1, c1.2.2.2.1, c.2.2.2.2))
  | none => do
    liftM (rule "list.sort.gallop")
    let c2 <- forIn [0:a.size + b.size] ((none, c1.2.1, c1.2.2.1, c1.2.2.2.1, c.2.2.2.2 + 1, c1.2.2.2.2.1, c1.2.2.2.2.2) : D7) fun _ d => hiB a b d
    match c2.1 with
    | some r => pure (.done (some r, c2.2.1, c2.2.2.1, c2.2.2.2.1, c2.2.2.2.2.1))
    | none => do
      modify fun st => setG st (c2.2.2.2.2.1 + 1)
      pure (.yield (none, c2.2.1, c2.2.2.1, c2.2.2.2.1, c2.2.2.2.2.1 + 1))
theorem mHi_low (a b : Array Keyed) : mHi a b = (do
  liftM (rule "list.sort.merge-hi")
  let x <- elem' a (a.size - 1)
  if (a.size - 1 == 0) = true then pure (dnH a b #[x] (a.size - 1) b.size)
  else if (b.size == 1) = true then pure (fbH a b #[x] (a.size - 1) b.size)
  else do
    let st <- get
    let c <- forIn [0:a.size + b.size] ((none, a.size - 1, b.size, #[x], gallopOf st) : D5) fun _ d => hiO a b d
    match c.1 with
    | some r => pure r
    | none => liftM (unsupported "internal:list.sort.merge-bound" : Sem (Array Keyed))) := by
  rw [mHi_eq]
  refine bnd _ fun _ => bnd _ fun y => ?_
  refine if2 rfl (if2 rfl ?_)
  refine bnd _ fun st => bnd2 (for2 fun _ c => ?_) fun c => ?_
  . unfold hiO
    refine bnd2 (for2 fun _ d => ?_) fun c1 => ?_
    . rfl
    . obtain ⟨r, i, j, o, ac, bc⟩ := c1
      cases r with
      | some r => rfl
      | none =>
        refine bnd2 rfl fun _ => bnd2 (for2 fun _ d => ?_) fun c2 => ?_
        . unfold hiB
          refine if2 ?_ ?_
          all_goals
            unfold hi2
            refine bnd2 rfl fun _ => bnd2 rfl fun y => bnd2 rfl fun r => ?_
            cases r with
            | none => rfl
            | some k =>
              refine if2 (if2 rfl ?_) ?_
              all_goals
                unfold hi3
                refine bnd2 rfl fun y2 => if2 rfl (bnd2 rfl fun x2 => bnd2 rfl fun r2 => ?_)
                cases r2 with
                | none => rfl
                | some k2 =>
                  refine if2 (if2 rfl (if2 rfl ?_)) ?_
                  all_goals
                    unfold hi4
                    refine bnd2 rfl fun x3 => if2 rfl (if2 rfl rfl)
        . obtain ⟨r, i, j, o, g, ac, bc⟩ := c2
          cases r with
          | some r => rfl
          | none => rfl
  . obtain ⟨r, i, j, o, g⟩ := c
    cases r with
    | some r => rfl
    | none => rfl
end L2S
namespace L2S
open PySem PyProof.Rows
section
variable {M : Model} {A : Around} {E : Value -> Shared -> Prop} {s : Shared} {κ : SortKind} {a₀ : Array Keyed} {f : Keyed -> Int} {a b o : Array Keyed} {i j : Nat}
abbrev JH (f : Keyed -> Int) (a b o : Array Keyed) (i j : Nat) : Prop := Jm (fun x => - f x) a.toList.reverse b.toList.reverse o.toList (a.size - i) (b.size - j)
theorem ZBW {a : Array Keyed} {i : Nat} (h : i <= a.size) : a.toList.reverse.drop (a.size - i) = (a.toList.take i).reverse := by
  rw [List.drop_reverse, yAN, show a.size - (a.size - i) = i by omega]
theorem ZDy (a : Array Keyed) (i : Nat) : (a.extract 0 i).toList = a.toList.take i := by
  rw [yBX, yBY, Nat.sub_zero]
  rfl
theorem ZDi {a : Array Keyed} {i : Nat} {x : Keyed} (h : i <= a.size) (hx : x ∈ a.toList.reverse.drop (a.size - i)) : ∃ k, k < i /\ kn f a k = f x := by
  rw [ZBW h, List.mem_reverse] at hx
  obtain ⟨n, hn⟩ := yBF hx
  have hl := (yAH.mp hn).1
  rw [yAL] at hl
  rw [yBR (by omega), yBD] at hn
  exact ⟨n, by omega, ZBI hn⟩
theorem good_rev {as bs r : List Keyed} (h : Good (fun x => - f x) as.reverse bs.reverse r) : Good f as bs r.reverse := by
  refine ⟨?_, ?_⟩
  . refine (List.reverse_perm r).trans (h.1.trans ?_)
    exact List.Perm.append (List.reverse_perm as) (List.reverse_perm bs)
  . rw [List.pairwise_reverse]
    refine h.2.imp fun {x y} z => ?_
    have w : - f x <= - f y := z
    show f y <= f x
    omega
theorem JH.dn (h : JH f a b o i j) (hi : i <= a.size) (hj : j <= b.size) (e : i = 0 ∨ j = 0) : Fin f a b (dnH a b o i j) := by
  have g := Jm.dn (Jm.swap h) (e.symm.imp (fun z => by rw [ZBW hj, z]; rfl) (fun z => by rw [ZBW hi, z]; rfl))
  have g2 := good_rev g
  rw [ZBW hi, ZBW hj, List.reverse_append, List.reverse_append, List.reverse_reverse, List.reverse_reverse, <- yAJ] at g2
  unfold Fin dnH
  rw [yBM, yBM, ZDy, ZDy, Array.toList_reverse]
  exact ⟨g2.1.trans yCH, g2.2⟩
theorem JH.fb (h : JH f a b o i j) (T : Two a₀ f a b) (hi : i <= a.size) (hj : j <= b.size) (e : j = 1) : Fin f a b (fbH a b o i j) := by
  have g := Jm.la (Jm.swap h) fun x hx y hy => by
    obtain ⟨k, k1, k2⟩ := ZDi (f := f) hj hx
    obtain ⟨n, n1, n2⟩ := ZDi (f := f) hi hy
    have := T.lo n (by omega)
    rw [show k = 0 by omega] at k2
    rw [k2, n2] at this
    show - f y <= - f x
    omega
  have g2 := good_rev g
  rw [ZBW hi, ZBW hj, List.reverse_append, List.reverse_append, List.reverse_reverse, List.reverse_reverse, <- yAJ] at g2
  unfold Fin fbH
  rw [yBM, yBM, ZDy, ZDy, Array.toList_reverse]
  exact ⟨g2.1.trans yCH, g2.2⟩
theorem JH.chunkA (h : JH f a b o i j) {t : Nat} (ht : t <= i) (hi : i <= a.size) (hj : j <= b.size) (hc : ∀ n m, t <= n -> n < i -> m < j -> kn f b m <= kn f a n) : JH f a b (o ++ (a.extract t i).reverse) t j := by
  have e : (a.toList.reverse.drop (a.size - i)).take (i - t) = (a.extract t i).reverse.toList := by
    rw [ZBW hi, List.take_reverse, Array.toList_reverse, yBX, yBY, yAL, yAN, yBG hi, show i - (i - t) = t by omega, List.drop_take]
  have g := Jm.chunk h (i - t) fun u hu y hy => by
    obtain ⟨m, m1, m2⟩ := ZDi (f := f) hj hy
    rw [e, Array.toList_reverse, List.mem_reverse, show i = t + (i - t) by omega, ZDp] at hu
    obtain ⟨n, n1, n2, n3, n4⟩ := mem_take (f := f) hu
    have := hc n m n1 (by omega) m1
    show - f u <= - f y
    omega
  rw [e] at g
  unfold JH
  rw [yBM, show a.size - t = a.size - i + (i - t) by omega]
  exact g
theorem JH.chunkB (h : JH f a b o i j) {t : Nat} (ht : t <= j) (hi : i <= a.size) (hj : j <= b.size) (hc : ∀ n m, t <= n -> n < j -> m < i -> kn f a m <= kn f b n) : JH f a b (o ++ (b.extract t j).reverse) i t :=
  (JH.chunkA (Jm.swap h) ht hj hi hc).swap
theorem one_rev {x : Keyed} (hx : a[i - 1]? = some x) (hi : 1 <= i) : (a.extract (i - 1) i).reverse = #[x] := by
  have e : (a.extract (i - 1) i).toList = [x] := by
    have := ZDp a (i - 1) 1
    rw [show i - 1 + 1 = i by omega] at this
    rw [this]
    exact ZEH hx
  apply Array.toList_inj.mp
  rw [Array.toList_reverse, e]
  rfl
theorem JH.pushA {x : Keyed} (h : JH f a b o i j) (hx : a[i - 1]? = some x) (h1 : 1 <= i) (hi : i <= a.size) (hj : j <= b.size) (hc : ∀ m, m < j -> kn f b m <= f x) : JH f a b (o.push x) (i - 1) j := by
  have g := JH.chunkA h (t := i - 1) (by omega) hi hj fun n m n1 n2 m1 => by
    rw [show n = i - 1 by omega, ZBI hx]
    exact hc m m1
  rw [one_rev hx h1] at g
  rw [show o.push x = o ++ #[x] from rfl]
  exact g
theorem JH.pushB {x : Keyed} (h : JH f a b o i j) (hx : b[j - 1]? = some x) (h1 : 1 <= j) (hi : i <= a.size) (hj : j <= b.size) (hc : ∀ m, m < i -> kn f a m <= f x) : JH f a b (o.push x) i (j - 1) :=
  (JH.pushA (Jm.swap h) hx h1 hj hi hc).swap
structure At (f : Keyed -> Int) (a b : Array Keyed) (x : Nat) (i j : Nat) (o : Array Keyed) : Prop where
  J : JH f a b o i j
  i1 : 1 <= i
  i2 : i <= a.size
  j1 : 2 <= j
  j2 : j <= b.size
  p : x + i + j <= a.size + b.size
def R7h (f : Keyed -> Int) (a b : Array Keyed) (st : SortSt) (x : Nat) : ForInStep D7 -> SortSt -> Prop
  | .done c, st' => Ev st st' /\ ((∃ r z, c = (some r, z) /\ Fin f a b r) ∨ ∃ i j o g ac bc, c = (none, i, j, o, g, ac, bc) /\ At f a b x i j o)
  | .yield c, st' => Ev st st' /\ ∃ i j o g ac bc, c = (none, i, j, o, g, ac, bc) /\ At f a b x i j o
theorem mHi_ok {st : SortSt} {Q : Array Keyed -> SortSt -> Prop} (L : Asks M A E s κ a₀ f) (hk : kindOf st = κ) (T : Two a₀ f a b) (h : ∀ r st', Ev st st' -> Fin f a b r -> Q r st') : wpS M A E s (mHi a b) Q st := by
  have ta := T.na
  have tb := T.nb
  have ua : ∀ n m, n <= m -> m < a.size -> kn f a n <= kn f a m := fun n m z1 z2 => T.ua n m (yAG _) z1 (by omega)
  have ub : ∀ n m, n <= m -> m < b.size -> kn f b n <= kn f b m := fun n m z1 z2 => T.ub n m (yAG _) z1 (by omega)
  have pr : ∀ l : List Keyed, l.Pairwise (leK f) -> l.reverse.Pairwise (leK fun x => - f x) := fun l z => by
    rw [List.pairwise_reverse]
    refine z.imp fun {x y} w => ?_
    have w' : f x <= f y := w
    show - f y <= - f x
    omega
  rw [mHi_low]
  refine wpS_bind (wpS_lift (wpAny_rule ⟨rfl, ?_⟩))
  obtain ⟨x0, hx0⟩ := ZCJ (a := a) (i := a.size - 1) (by omega)
  refine wpS_bind (ZAr hx0 ?_)
  have J0 : JH f a b #[x0] (a.size - 1) b.size := by
    have e : JH f a b #[] a.size b.size := ⟨by simp, by simpa using pr _ (ZEO T.ua), by simpa using pr _ (ZEO T.ub)⟩
    exact JH.pushA e hx0 ta (yAB _) (yAB _) fun m m1 => by rw [<- ZBI (f := f) hx0]; exact T.hi m m1
  by_cases c1 : a.size - 1 = 0
  . rw [if_pos (by simpa using c1)]
    exact wpS_pure (h _ st .refl (J0.dn (by omega) (yAB _) (.inl c1)))
  rw [if_neg (by simpa using c1)]
  by_cases c2 : b.size = 1
  . rw [if_pos (by simpa using c2)]
    exact wpS_pure (h _ st .refl (J0.fb T (by omega) (yAB _) c2))
  rw [if_neg (by simpa using c2)]
  refine wpS_bind (wpS_get ?_)
  refine wpS_bind (wpS_mono (wpS_forRange (I := fun x c st' => Ev st st' /\ ∃ i j o g, c = (none, i, j, o, g) /\ At f a b (x + 1) i j o) (Q := fun c st' => Ev st st' /\ ∃ r z, c = (some r, z) /\ Fin f a b r) ?_ ?_ ⟨.refl, _, _, _, _, rfl, J0, by omega, by omega, by omega, by omega, by omega⟩) ?_)
  . rintro x c st1 _ hx ⟨e1, i, j, o, g, rfl, W⟩
    unfold hiO
    dsimp only
    refine wpS_bind (wpS_mono (wpS_forRange (I := fun y c st' => Ev st st' /\ ∃ i j o ac bc, c = (none, i, j, o, ac, bc) /\ At f a b (x + 1 + y) i j o)
      (Q := fun c st' => Ev st st' /\ ((∃ r z, c = (some r, z) /\ Fin f a b r) ∨ ∃ i j o ac bc, c = (none, i, j, o, ac, bc) /\ At f a b (x + 2) i j o)) ?_ ?_ ⟨e1, i, j, o, 0, 0, rfl, W⟩) ?_)
    . rintro y c st2 _ hy ⟨e2, i, j, o, ac, bc, rfl, J, i1, i2, j1, j2, hp⟩
      unfold hi1
      dsimp only
      obtain ⟨yb, hyb⟩ := ZCJ (a := b) (i := j - 1) (by omega)
      obtain ⟨xa, hxa⟩ := ZCJ (a := a) (i := i - 1) (by omega)
      refine wpS_bind (ZAr hyb ?_)
      refine wpS_bind (ZAr hxa ?_)
      refine wpS_bind (L.lt yb xa (T.ib.get hyb) (T.ia.get hxa) st2 _ (e2.k.trans hk) ?_)
      by_cases hw : f yb < f xa
      . rw [decide_eq_true hw]
        dsimp only
        rw [if_pos rfl]
        refine wpS_bind (ZAr hxa ?_)
        have J2 := J.pushA hxa i1 i2 j2 fun m m1 => by
          have := ub m (j - 1) (by omega) (by omega)
          rw [ZBI hyb] at this
          omega
        by_cases c3 : i - 1 = 0
        . rw [if_pos (by simpa using c3)]
          exact wpS_pure ⟨e2, .inl ⟨_, _, rfl, J2.dn (by omega) j2 (.inl c3)⟩⟩
        rw [if_neg (by simpa using c3)]
        split
        . exact wpS_pure ⟨e2, .inr ⟨_, _, _, _, _, rfl, J2, by omega, by omega, j1, j2, by omega⟩⟩
        . exact wpS_pure ⟨e2, _, _, _, _, _, rfl, J2, by omega, by omega, j1, j2, by omega⟩
      . rw [decide_eq_false hw]
        dsimp only
        rw [if_neg (by decide)]
        refine wpS_bind (ZAr hyb ?_)
        have J2 := J.pushB hyb (by omega) i2 j2 fun m m1 => by
          have := ua m (i - 1) (by omega) (by omega)
          rw [ZBI hxa] at this
          omega
        by_cases c3 : j - 1 = 1
        . rw [if_pos (by simpa using c3)]
          exact wpS_pure ⟨e2, .inl ⟨_, _, rfl, J2.fb T i2 (by omega) c3⟩⟩
        rw [if_neg (by simpa using c3)]
        split
        . exact wpS_pure ⟨e2, .inr ⟨_, _, _, _, _, rfl, J2, i1, i2, by omega, by omega, by omega⟩⟩
        . exact wpS_pure ⟨e2, _, _, _, _, _, rfl, J2, i1, i2, by omega, by omega, by omega⟩
    . rintro c st2 ⟨e2, i, j, o, ac, bc, rfl, J, i1, i2, j1, j2, hp⟩
      exact ⟨e2, .inr ⟨_, _, _, _, _, rfl, J, i1, i2, j1, j2, by omega⟩⟩
    . rintro c st2 ⟨e2, ⟨r, z, rfl, hr⟩ | ⟨i, j, o, ac, bc, rfl, W⟩⟩
      . exact wpS_pure ⟨e2, r, _, rfl, hr⟩
      dsimp only
      refine wpS_bind (wpS_lift (wpAny_rule ⟨rfl, ?_⟩))
      refine wpS_bind (wpS_mono (wpS_forRange (I := fun y c st' => Ev st st' /\ ∃ i j o g ac bc, c = (none, i, j, o, g, ac, bc) /\ At f a b (x + 2) i j o)
        (Q := fun c st' => Ev st st' /\ ((∃ r z, c = (some r, z) /\ Fin f a b r) ∨ ∃ i j o g ac bc, c = (none, i, j, o, g, ac, bc) /\ At f a b (x + 2) i j o)) ?_ ?_ ⟨e2, i, j, o, _, ac, bc, rfl, W⟩) ?_)
      . rintro y c st3 _ hy ⟨e3, i, j, o, g, ac, bc, rfl, J, i1, i2, j1, j2, hp⟩
        have four : ∀ (g ac bc : Nat) (o : Array Keyed) (i j : Nat) (st4 : SortSt) (xa : Keyed), Ev st st4 -> At f a b (x + 2) i j o -> a[i - 1]? = some xa -> (∀ n, n < j -> kn f b n <= f xa) -> wpS M A E s (hi4 a b g ac bc o i j) (R7h f a b st (x + 2)) st4 := by
          rintro g ac bc o i j st4 xa e4 ⟨J, i1, i2, j1, j2, hp⟩ hxa hle
          unfold hi4
          refine wpS_bind (ZAr hxa ?_)
          have J2 := J.pushA hxa i1 i2 j2 hle
          by_cases c3 : i - 1 = 0
          . rw [if_pos (by simpa using c3)]
            exact wpS_pure ⟨e4, .inl ⟨_, _, rfl, J2.dn (by omega) j2 (.inl c3)⟩⟩
          rw [if_neg (by simpa using c3)]
          split
          . exact wpS_pure ⟨e4, .inr ⟨_, _, _, _, _, _, rfl, J2, by omega, by omega, j1, j2, by omega⟩⟩
          . exact wpS_pure ⟨e4, _, _, _, _, _, _, rfl, J2, by omega, by omega, j1, j2, by omega⟩
        have three : ∀ (g ac bc : Nat) (o : Array Keyed) (i j : Nat) (st4 : SortSt) (yb : Keyed), Ev st st4 -> At f a b (x + 2) i j o -> b[j - 1]? = some yb -> (∀ n, n < i -> kn f a n <= f yb) -> wpS M A E s (hi3 a b g ac bc o i j) (R7h f a b st (x + 2)) st4 := by
          rintro g ac bc o i j st4 yb e4 ⟨J, i1, i2, j1, j2, hp⟩ hyb hle
          unfold hi3
          refine wpS_bind (ZAr hyb ?_)
          have J2 := J.pushB hyb (by omega) i2 j2 hle
          by_cases c3 : j - 1 = 1
          . rw [if_pos (by simpa using c3)]
            exact wpS_pure ⟨e4, .inl ⟨_, _, rfl, J2.fb T i2 (by omega) c3⟩⟩
          rw [if_neg (by simpa using c3)]
          obtain ⟨xa, hxa⟩ := ZCJ (a := a) (i := i - 1) (by omega)
          refine wpS_bind (ZAr hxa ?_)
          refine wpS_bind (ZDo L (e4.k.trans hk) T.ib (T.ia.get hxa) (by omega) (by omega) (T.ub.sub (by omega)) fun t k1 k2 k3 => ?_)
          dsimp only
          have rest : ∀ n, n < t -> kn f b n <= f xa := fun n n1 => by
            have := k2 n n1
            rw [yBZ] at this
            omega
          by_cases hk0 : j - 1 - t > 0
          . rw [if_pos hk0]
            have J3 := J2.chunkB k1 i2 (by omega) fun n m n1 n2 m1 => by
              have z := k3 n n1 n2
              rw [yBZ] at z
              have z2 := ua m (i - 1) (by omega) (by omega)
              rw [ZBI hxa] at z2
              omega
            by_cases c4 : t = 1
            . rw [if_pos (by simpa using c4)]
              exact wpS_pure ⟨e4, .inl ⟨_, _, rfl, J3.fb T i2 (by omega) c4⟩⟩
            rw [if_neg (by simpa using c4)]
            by_cases c5 : t = 0
            . rw [if_pos (by simpa using c5)]
              exact wpS_pure ⟨e4, .inl ⟨_, _, rfl, J3.dn i2 (by omega) (.inr c5)⟩⟩
            rw [if_neg (by simpa using c5)]
            exact four _ _ _ _ _ _ _ xa e4 ⟨J3, i1, i2, by omega, by omega, by omega⟩ hxa rest
          . rw [if_neg hk0]
            have : t = j - 1 := by omega
            subst this
            exact four _ _ _ _ _ _ _ xa e4 ⟨J2, i1, i2, by omega, by omega, by omega⟩ hxa rest
        have two : ∀ (g ac bc : Nat), wpS M A E s (hi2 a b g ac bc o i j) (R7h f a b st (x + 2)) st3 := by
          intro g ac bc
          unfold hi2
          obtain ⟨yb, hyb⟩ := ZCJ (a := b) (i := j - 1) (by omega)
          refine wpS_bind (wpS_modify ?_)
          have e4 := e3.setG g
          refine wpS_bind (ZAr hyb ?_)
          refine wpS_bind (ZEK L (e4.k.trans hk) T.ia (T.ib.get hyb) (by omega) (by omega) (T.ua.sub (by omega)) fun t k1 k2 k3 => ?_)
          dsimp only
          have rest : ∀ n, n < t -> kn f a n <= f yb := fun n n1 => by
            have := k2 n n1
            rw [yBZ] at this
            exact this
          by_cases hk0 : i - t > 0
          . rw [if_pos hk0]
            have J3 := J.chunkA k1 i2 j2 fun n m n1 n2 m1 => by
              have z := k3 n n1 n2
              rw [yBZ] at z
              have z2 := ub m (j - 1) (by omega) (by omega)
              rw [ZBI hyb] at z2
              omega
            by_cases c4 : t = 0
            . rw [if_pos (by simpa using c4)]
              exact wpS_pure ⟨e4, .inl ⟨_, _, rfl, J3.dn (by omega) j2 (.inl c4)⟩⟩
            rw [if_neg (by simpa using c4)]
            exact three _ _ _ _ _ _ _ yb e4 ⟨J3, by omega, by omega, j1, j2, by omega⟩ hyb rest
          . rw [if_neg hk0]
            have : t = i := by omega
            subst this
            exact three _ _ _ _ _ _ _ yb e4 ⟨J, i1, i2, j1, j2, hp⟩ hyb rest
        unfold hiB
        dsimp only
        split
        . exact wpS_mono (two _ _ _) fun r st' z => by cases r <;> exact z
        . exact wpS_mono (two _ _ _) fun r st' z => by cases r <;> exact z
      . rintro c st3 ⟨e3, i, j, o, g, ac, bc, rfl, W⟩
        exact ⟨e3, .inr ⟨_, _, _, _, _, _, rfl, W⟩⟩
      . rintro c st3 ⟨e3, ⟨r, z, rfl, hr⟩ | ⟨i, j, o, g, ac, bc, rfl, W⟩⟩
        . exact wpS_pure ⟨e3, r, _, rfl, hr⟩
        . dsimp only
          exact wpS_bind (wpS_modify (wpS_pure ⟨e3.setG _, _, _, _, _, rfl, W⟩))
  . rintro c st1 ⟨e1, i, j, o, g, rfl, J, i1, i2, j1, j2, hp⟩
    omega
  . rintro c st1 ⟨e1, r, z, rfl, hr⟩
    exact wpS_pure (h r st1 e1 hr)
end
end L2S
namespace L2S
open PySem PyProof.Rows
abbrev PT := Nat × Nat × Nat
def ZC4 (xs m : Array Keyed) (lo : Nat) : Array Keyed := m.toList.zipIdx.foldl (fun a (p, j) => a.setIfInBounds (lo + j) p) xs
theorem mAt_eq (i : Nat) : mergeAt' i = (do
  let z <- get
  let (some (s1, n1, w1), some (s2, n2, _)) := ((pendingOf z)[i]?, (pendingOf z)[i + 1]?) | unsupported "internal:list.sort.pending"
  set (setPending z (((pendingOf z).setIfInBounds i (s1, n1 + n2, w1)).eraseIdxIfInBounds (i + 1)))
  let some k <- gal false (<- elem' (arrOf z) s2) (arrOf z) s1 n1 0 | return false
  let (s1, n1) := (s1 + k, n1 - k)
  if n1 == 0 then return true
  let some n2 <- gal true (<- elem' (arrOf z) (s1 + n1 - 1)) (arrOf z) s2 n2 (n2 - 1) | return false
  if n2 == 0 then return true
  let x := (arrOf z).extract s1 s2
  let y := (arrOf z).extract s2 (s2 + n2)
  let m <- if n1 <= n2 then mLo x y else mHi x y
  modify fun z => setArr z (ZC4 (arrOf z) m s1)
  return (failedOf (<- get)).isNone) := rfl
theorem wpS_set {M : Model} {A : Around} {E : Value -> Shared -> Prop} {s : Shared} {σ : Type} {x : σ} {Q : PUnit -> σ -> Prop} {st : σ} (h : Q ⟨⟩ x) : wpS M A E s (set x : StateT σ Sem PUnit) Q st := by
  unfold wpS; rw [StateT.run_set]; exact wpAny_pure ⟨rfl, h⟩
theorem lay_go (lo : Nat) : ∀ (l : List Keyed) (k : Nat) (xs : Array Keyed), lo + k + l.length <= xs.size ->
    (((l.zipIdx k).foldl (fun a (p : Keyed × Nat) => a.setIfInBounds (lo + p.2) p.1) xs).size = xs.size) /\ ∀ n, ((l.zipIdx k).foldl (fun a (p : Keyed × Nat) => a.setIfInBounds (lo + p.2) p.1) xs)[n]? = if lo + k <= n /\ n < lo + k + l.length then l[n - (lo + k)]? else xs[n]?
  | [], k, xs, _ => by
    refine ⟨rfl, fun n => ?_⟩
    rw [if_neg (fun z => by rw [yBV] at z; omega)]
    rfl
  | x :: r, k, xs, h => by
    rw [yAI] at h
    rw [List.zipIdx_cons, List.foldl_cons]
    obtain ⟨i1, i2⟩ := lay_go lo r (k + 1) (xs.setIfInBounds (lo + k) x) (by rw [Array.size_setIfInBounds]; omega)
    refine ⟨by rw [i1, Array.size_setIfInBounds], fun n => ?_⟩
    rw [i2, yAI]
    by_cases c1 : lo + (k + 1) <= n /\ n < lo + (k + 1) + r.length
    . rw [if_pos c1, if_pos (by omega), show n - (lo + k) = (n - (lo + (k + 1))) + 1 by omega, List.getElem?_cons_succ]
    . rw [if_neg c1, Array.getElem?_setIfInBounds]
      by_cases c2 : lo + k = n
      . rw [if_pos c2, if_pos (by omega), if_pos (by omega), show n - (lo + k) = 0 by omega]
        rfl
      . rw [if_neg c2, if_neg (by omega)]
theorem ZDl {xs m : Array Keyed} {lo : Nat} (h : lo + m.size <= xs.size) (n : Nat) : (ZC4 xs m lo)[n]? = if lo <= n /\ n < lo + m.size then m[n - lo]? else xs[n]? := by
  have := (lay_go lo m.toList 0 xs (by rw [yAN]; omega)).2 n
  rw [yAN, Nat.add_zero, yBD] at this
  exact this
theorem lay_list {xs m : Array Keyed} {lo : Nat} (h : lo + m.size <= xs.size) : (ZC4 xs m lo).toList = xs.toList.take lo ++ m.toList ++ xs.toList.drop (lo + m.size) := by
  refine List.ext_getElem? fun n => ?_
  rw [yBD, ZDl h]
  by_cases c1 : n < lo
  . rw [if_neg (by omega), yAJ, yBB (by rw [yAL, yAN]; omega), yBR c1, yBD]
  . by_cases c2 : n < lo + m.size
    . rw [if_pos (by omega), yAJ, yBA (by rw [yAL, yAN]; omega), yAL, yAN, yBG (by omega), yBB (by rw [yAN]; omega), yBD]
    . rw [if_neg (by omega), yBA (by rw [yAA, yAL, yAN, yAN]; omega), yAA, yAL, yAN, yAN, yBG (by omega), yBT, yBD]
      congr 1
      omega
section
variable {M : Model} {A : Around} {E : Value -> Shared -> Prop} {s : Shared} {κ : SortKind} {a₀ : Array Keyed} {f : Keyed -> Int}
theorem SB.inA {st : SortSt} (h : SB κ a₀ st) : InA a₀ (arrOf st) := fun x hx => (Array.perm_iff_toList_perm.mp h.perm).mem_iff.mp hx
theorem ext_get {xs : Array Keyed} {i j n : Nat} (h : j <= xs.size) (hn : n < j - i) : (xs.extract i j)[n]? = xs[i + n]? := by
  rw [Array.getElem?_extract]
  rw [if_pos (by omega)]
theorem merge_at {st : SortSt} {i sa na w nb v : Nat} {Q : Bool -> SortSt -> Prop} (L : Asks M A E s κ a₀ f) (hB : SB κ a₀ st) (p1 : (pendingOf st)[i]? = some (sa, na, w)) (p2 : (pendingOf st)[i + 1]? = some (sa + na, nb, v)) (na1 : 1 <= na) (nb1 : 1 <= nb) (hz : sa + na + nb <= a₀.size)
    (ua : Up f (arrOf st) sa na) (ub : Up f (arrOf st) (sa + na) nb)
    (h : ∀ st', SB κ a₀ st' -> pendingOf st' = ((pendingOf st).setIfInBounds i (sa, na + nb, w)).eraseIdxIfInBounds (i + 1) -> Up f (arrOf st') sa (na + nb) -> (∀ k, k < sa ∨ sa + na + nb <= k -> (arrOf st')[k]? = (arrOf st)[k]?) -> Q true st') : wpS M A E s (mergeAt' i) Q st := by
  have hsz := hB.size
  rw [mAt_eq]
  refine wpS_bind (wpS_get ?_)
  rw [p1, p2]
  dsimp only
  refine wpS_bind (wpS_set ?_)
  have hB1 : SB κ a₀ (setPending st (((pendingOf st).setIfInBounds i (sa, na + nb, w)).eraseIdxIfInBounds (i + 1))) := ⟨hB.perm, hB.kind, hB.fail⟩
  obtain ⟨b0, hb0⟩ := ZCJ (a := arrOf st) (i := sa + na) (by omega)
  refine wpS_bind (ZAr hb0 ?_)
  refine wpS_bind (ZEK L hB1.kind hB.inA (hB.inA.get hb0) (by omega) (by omega) ua fun k k1 k2 k3 => ?_)
  dsimp only
  have lowA : ∀ n, sa <= n -> n < sa + k -> kn f (arrOf st) n <= f b0 := fun n n1 n2 => by
    have := k2 (n - sa) (by omega)
    rw [show sa + (n - sa) = n by omega] at this
    exact this
  have fromB : ∀ n, sa + na <= n -> n < sa + na + nb -> f b0 <= kn f (arrOf st) n := fun n n1 n2 => by
    have := ub (sa + na) n (yAB _) n1 n2
    rw [ZBI hb0] at this
    exact this
  by_cases c1 : na - k = 0
  . rw [if_pos (by simpa using c1)]
    refine wpS_pure (h _ hB1 rfl (fun n m n1 n2 n3 => ?_) fun _ _ => rfl)
    by_cases d1 : m < sa + na
    . exact ua n m n1 n2 d1
    . by_cases d2 : n < sa + na
      . have z1 := lowA n n1 (by omega)
        have z2 := fromB m (by omega) (by omega)
        show kn f (arrOf st) n <= kn f (arrOf st) m
        omega
      . exact ub n m (by omega) n2 (by omega)
  rw [if_neg (by simpa using c1)]
  rw [show sa + k + (na - k) - 1 = sa + na - 1 by omega]
  obtain ⟨aN, haN⟩ := ZCJ (a := arrOf st) (i := sa + na - 1) (by omega)
  refine wpS_bind (ZAr haN ?_)
  refine wpS_bind (ZDo L hB1.kind hB.inA (hB.inA.get haN) (by omega) (by omega) ub fun t t1 t2 t3 => ?_)
  dsimp only
  have highB : ∀ n, sa + na + t <= n -> n < sa + na + nb -> f aN <= kn f (arrOf st) n := fun n n1 n2 => by
    have := t3 (n - (sa + na)) (by omega) (by omega)
    rw [show sa + na + (n - (sa + na)) = n by omega] at this
    exact this
  have toA : ∀ n, sa <= n -> n < sa + na -> kn f (arrOf st) n <= f aN := fun n n1 n2 => by
    have := ua n (sa + na - 1) n1 (by omega) (by omega)
    rw [ZBI haN] at this
    exact this
  by_cases c2 : t = 0
  . rw [if_pos (by simpa using c2)]
    refine wpS_pure (h _ hB1 rfl (fun n m n1 n2 n3 => ?_) fun _ _ => rfl)
    by_cases d1 : m < sa + na
    . exact ua n m n1 n2 d1
    . by_cases d2 : n < sa + na
      . have z1 := toA n n1 d2
        have z2 := highB m (by omega) (by omega)
        show kn f (arrOf st) n <= kn f (arrOf st) m
        omega
      . exact ub n m (by omega) n2 (by omega)
  rw [if_neg (by simpa using c2)]
  have x1 : ((arrOf st).extract (sa + k) (sa + na)).size = na - k := by rw [Array.size_extract]; omega
  have y1 : ((arrOf st).extract (sa + na) (sa + na + t)).size = t := by rw [Array.size_extract]; omega
  have xg : ∀ n, n < na - k -> kn f ((arrOf st).extract (sa + k) (sa + na)) n = kn f (arrOf st) (sa + k + n) := fun n hn => ZA2 (ext_get (by omega) (by omega))
  have yg : ∀ n, n < t -> kn f ((arrOf st).extract (sa + na) (sa + na + t)) n = kn f (arrOf st) (sa + na + n) := fun n hn => ZA2 (ext_get (by omega) (by omega))
  have hiA : ∀ n, sa + k <= n -> n < sa + na -> f b0 < kn f (arrOf st) n := fun n n1 n2 => by
    have := k3 (n - sa) (by omega) (by omega)
    rw [show sa + (n - sa) = n by omega] at this
    exact this
  have inx : ∀ (lo hi : Nat), InA a₀ ((arrOf st).extract lo hi) := fun lo hi x hx => by
    rw [yBX, yBY] at hx
    exact hB.inA x (List.mem_of_mem_drop (List.mem_of_mem_take hx))
  have T : Two a₀ f ((arrOf st).extract (sa + k) (sa + na)) ((arrOf st).extract (sa + na) (sa + na + t)) := {
    ia := inx _ _
    ib := inx _ _
    ua := fun n m _ n2 n3 => by
      rw [xg n (by omega), xg m (by omega)]
      exact ua _ _ (by omega) (by omega) (by omega)
    ub := fun n m _ n2 n3 => by
      rw [yg n (by omega), yg m (by omega)]
      exact ub _ _ (by omega) (by omega) (by omega)
    na := by omega
    nb := by omega
    lo := fun n hn => by
      rw [xg n (by omega), yg 0 (by omega), Nat.add_zero, ZBI hb0]
      exact Int.le_of_lt (hiA _ (by omega) (by omega))
    hi := fun n hn => by
      rw [x1, xg _ (by omega), yg n (by omega), show sa + k + (na - k - 1) = sa + na - 1 by omega, ZBI haN]
      exact Int.le_of_lt (t2 n (by omega)) }
  have fin : ∀ m st', Ev (setPending st (((pendingOf st).setIfInBounds i (sa, na + nb, w)).eraseIdxIfInBounds (i + 1))) st' -> Fin f ((arrOf st).extract (sa + k) (sa + na)) ((arrOf st).extract (sa + na) (sa + na + t)) m ->
      wpS M A E s (modify (fun z => setArr z (ZC4 (arrOf z) m (sa + k))) >>= fun _ => get >>= fun z => pure (failedOf z).isNone) Q st' := by
    intro m st' ev g
    have ea : arrOf st' = arrOf st := ev.a
    have hm : m.size = na - k + t := by
      have := g.1.length_eq
      rw [yAN, yAA, yAN, yAN, x1, y1] at this
      exact this
    refine wpS_bind (wpS_modify (wpS_bind (wpS_get (wpS_pure ?_))))
    have hf : failedOf st' = none := ev.f.trans hB.fail
    show Q (failedOf st').isNone _
    rw [hf]
    have hl : sa + k + m.size <= (arrOf st).size := by omega
    have mel : ∀ n, n < m.size -> ∃ p, sa + k <= p /\ p < sa + na + t /\ kn f m n = kn f (arrOf st) p := fun n hn => by
      obtain ⟨x, hx⟩ := ZCJ (a := m) hn
      have hxm : x ∈ m.toList := by
        rw [yBP] at hx
        obtain ⟨_, rfl⟩ := hx
        simp
      have := g.1.mem_iff.mp hxm
      rw [ZBI hx]
      rcases yBC.mp this with z | z
      . obtain ⟨q, q1⟩ := yBF z
        rw [yBD] at q1
        have q2 := (yBP.mp q1).1
        refine ⟨sa + k + q, by omega, by omega, ?_⟩
        rw [<- xg q (by omega), ZBI q1]
      . obtain ⟨q, q1⟩ := yBF z
        rw [yBD] at q1
        have q2 := (yBP.mp q1).1
        refine ⟨sa + na + q, by omega, by omega, ?_⟩
        rw [<- yg q (by omega), ZBI q1]
    have ms : ∀ n q, n <= q -> q < m.size -> kn f m n <= kn f m q := fun n q n1 n2 => by
      by_cases e : n = q
      . rw [e]; exact Int.le_refl _
      . have := List.pairwise_iff_getElem.mp g.2 n q (by rw [yAN]; omega) (by rw [yAN]; omega) (by omega)
        rw [ZBI (getElem?_pos m n (by omega)), ZBI (getElem?_pos m q n2)]
        simpa [leK] using this
    have lk : ∀ n, kn f (ZC4 (arrOf st') m (sa + k)) n = if sa + k <= n /\ n < sa + na + t then kn f m (n - (sa + k)) else kn f (arrOf st) n := fun n => by
      rw [ea]
      have := ZDl hl n
      by_cases e : sa + k <= n /\ n < sa + na + t
      . rw [if_pos e]
        rw [if_pos (by omega)] at this
        exact ZA2 this
      . rw [if_neg e]
        rw [if_neg (by omega)] at this
        exact ZA2 this
    refine h (setArr st' (ZC4 (arrOf st') m (sa + k))) ⟨?_, ev.k.trans hB.kind, hf⟩ ev.p (fun n q n1 n2 n3 => ?_) fun n hn => ?_
    . show (ZC4 (arrOf st') m (sa + k)).Perm a₀
      rw [ea]
      refine Array.Perm.trans ?_ hB.perm
      rw [Array.perm_iff_toList_perm, lay_list hl]
      have e1 : (arrOf st).toList = (arrOf st).toList.take (sa + k) ++ (((arrOf st).extract (sa + k) (sa + na)).toList ++ ((arrOf st).extract (sa + na) (sa + na + t)).toList) ++ (arrOf st).toList.drop (sa + k + m.size) := by
        rw [yBX, yBX, yBY, yBY]
        have s1 : ((arrOf st).toList.drop (sa + k)).take (sa + na - (sa + k)) ++ ((arrOf st).toList.drop (sa + na)).take (sa + na + t - (sa + na)) = ((arrOf st).toList.drop (sa + k)).take m.size := by
          rw [show m.size = (sa + na - (sa + k)) + (sa + na + t - (sa + na)) by omega, List.take_add, List.drop_drop, show sa + k + (sa + na - (sa + k)) = sa + na by omega]
        rw [s1, yAJ, show (arrOf st).toList.drop (sa + k + m.size) = ((arrOf st).toList.drop (sa + k)).drop m.size by rw [List.drop_drop], yBK, yBK]
      conv => rhs; rw [e1]
      exact List.Perm.append_right _ (List.Perm.append_left _ g.1)
    . show kn f (ZC4 (arrOf st') m (sa + k)) n <= kn f (ZC4 (arrOf st') m (sa + k)) q
      rw [lk, lk]
      by_cases c3 : sa + k <= n /\ n < sa + na + t
      . rw [if_pos c3]
        by_cases c4 : sa + k <= q /\ q < sa + na + t
        . rw [if_pos c4]
          exact ms _ _ (by omega) (by omega)
        . rw [if_neg c4]
          obtain ⟨p, q1, q2, q3⟩ := mel (n - (sa + k)) (by omega)
          rw [q3]
          by_cases c5 : p < sa + na
          . have z1 := toA p (by omega) c5
            have z2 := highB q (by omega) (by omega)
            omega
          . exact ub p q (by omega) (by omega) (by omega)
      . rw [if_neg c3]
        by_cases c4 : sa + k <= q /\ q < sa + na + t
        . rw [if_pos c4]
          obtain ⟨p, q1, q2, q3⟩ := mel (q - (sa + k)) (by omega)
          rw [q3]
          have z1 := lowA n n1 (by omega)
          by_cases c5 : p < sa + na
          . exact ua n p n1 (by omega) c5
          . have z2 := fromB p (by omega) (by omega)
            omega
        . rw [if_neg c4]
          by_cases c5 : q < sa + na
          . exact ua n q n1 n2 c5
          . by_cases c6 : n < sa + na
            . have z1 := lowA n n1 (by omega)
              have z2 := fromB q (by omega) (by omega)
              omega
            . exact ub n q (by omega) n2 (by omega)
    . show (ZC4 (arrOf st') m (sa + k))[n]? = (arrOf st)[n]?
      rw [ea, ZDl hl, if_neg (by omega)]
  by_cases c3 : na - k <= t
  . rw [if_pos c3]
    exact wpS_bind (mLo_ok L hB1.kind T fin)
  . rw [if_neg c3]
    exact wpS_bind (mHi_ok L hB1.kind T fin)
end
end L2S
namespace L2S
open PySem PyProof.Rows
section
variable {M : Model} {A : Around} {E : Value -> Shared -> Prop} {s : Shared} {κ : SortKind} {a₀ : Array Keyed} {f : Keyed -> Int}
def Chn (f : Keyed -> Int) (xs : Array Keyed) : Nat -> List PT -> Nat -> Prop
  | a, [], e => a = e
  | a, (b, n, _) :: r, e => b = a /\ 1 <= n /\ Up f xs a n /\ Chn f xs (a + n) r e
theorem Chn.le {xs : Array Keyed} : ∀ {l : List PT} {a e : Nat}, Chn f xs a l e -> a + l.length <= e
  | [], a, e, h => by have : a = e := h; rw [yBV]; omega
  | (b, n, w) :: r, a, e, h => by
    obtain ⟨_, h1, _, h2⟩ := h
    have := h2.le
    rw [yAI]
    omega
theorem Chn.keep {xs ys : Array Keyed} : ∀ {l : List PT} {a e : Nat}, Chn f xs a l e -> (∀ k, a <= k -> k < e -> ys[k]? = xs[k]?) -> Chn f ys a l e
  | [], a, e, h, _ => h
  | (b, n, w) :: r, a, e, ⟨h0, h1, h2, h3⟩, k => by
    have hl := h3.le
    refine ⟨h0, h1, fun i j z1 z2 z3 => ?_, h3.keep fun m m1 m2 => k m (by omega) m2⟩
    rw [ZA2 (k i z1 (by omega)), ZA2 (k j (by omega) (by omega))]
    exact h2 i j z1 z2 z3
theorem Chn.app {xs : Array Keyed} : ∀ {l m : List PT} {a e : Nat}, Chn f xs a (l ++ m) e ↔ ∃ c, Chn f xs a l c /\ Chn f xs c m e
  | [], m, a, e => ⟨fun h => ⟨a, rfl, h⟩, fun ⟨c, h1, h2⟩ => by have : a = c := h1; rw [this]; exact h2⟩
  | (b, n, w) :: r, m, a, e => by
    constructor
    . rintro ⟨h0, h1, h2, h3⟩
      obtain ⟨c, h4, h5⟩ := Chn.app.mp h3
      exact ⟨c, ⟨h0, h1, h2, h4⟩, h5⟩
    . rintro ⟨c, ⟨h0, h1, h2, h4⟩, h5⟩
      exact ⟨h0, h1, h2, Chn.app.mpr ⟨c, h4, h5⟩⟩
theorem two_of {l : List PT} {i : Nat} (h : i + 1 < l.length) : ∃ l1 x y l2, l = l1 ++ x :: y :: l2 /\ l1.length = i := by
  refine ⟨l.take i, l[i], l[i + 1], l.drop (i + 2), ?_, by rw [yAL]; omega⟩
  rw [<- yCI (by omega), <- yCI (by omega), yBK]
theorem join_of {l1 l2 : List PT} {x y v : PT} {i : Nat} (h : l1.length = i) : ((l1 ++ x :: y :: l2).set i v).eraseIdx (i + 1) = l1 ++ v :: l2 := by
  subst h
  rw [List.set_append_right _ _ (yAB _), yBH, List.set_cons_zero, List.eraseIdx_append_of_length_le (by omega), show l1.length + 1 - l1.length = 1 by omega]
  rfl
theorem join_at {st : SortSt} {i lo : Nat} {Q : Bool -> SortSt -> Prop} (L : Asks M A E s κ a₀ f) (hB : SB κ a₀ st) (hc : Chn f (arrOf st) 0 (pendingOf st).toList lo) (hlo : lo <= a₀.size) (hi : i + 1 < (pendingOf st).size)
    (h : ∀ st', SB κ a₀ st' -> Chn f (arrOf st') 0 (pendingOf st').toList lo -> (pendingOf st').size + 1 = (pendingOf st).size -> (∀ k, lo <= k -> (arrOf st')[k]? = (arrOf st)[k]?) -> Q true st') : wpS M A E s (mergeAt' i) Q st := by
  obtain ⟨l1, ⟨b1, n1, w1⟩, ⟨b2, n2, w2⟩, l2, el, hl⟩ := two_of (l := (pendingOf st).toList) (i := i) (by rw [yAN]; exact hi)
  have hc' := hc
  rw [el] at hc'
  obtain ⟨c, c1, rfl, c2, c3, rfl, c4, c5, c6⟩ := Chn.app.mp hc'
  have le := c6.le
  have p1 : (pendingOf st)[i]? = some (b1, n1, w1) := by
    rw [<- yBD, el, yBA (by omega), hl, yBH]
    rfl
  have p2 : (pendingOf st)[i + 1]? = some (b1 + n1, n2, w2) := by
    rw [<- yBD, el, yBA (by omega), show i + 1 - l1.length = 1 by omega]
    rfl
  refine merge_at L hB p1 p2 c2 c4 (by omega) c3 c5 fun st' hB' hp hu hk => ?_
  have e2 : (pendingOf st').toList = l1 ++ (b1, n1 + n2, w1) :: l2 := by
    rw [hp, Array.toList_eraseIdxIfInBounds, Array.toList_setIfInBounds, el]
    exact join_of hl
  refine h st' hB' ?_ ?_ fun k hk2 => hk k (.inr (by omega))
  . rw [e2]
    have le1 := c1.le
    refine Chn.app.mpr ⟨b1, c1.keep fun k k1 k2 => hk k (.inl k2), rfl, by omega, hu, ?_⟩
    rw [show b1 + (n1 + n2) = b1 + n1 + n2 by omega]
    exact c6.keep fun k k1 k2 => hk k (.inr k1)
  . have z1 := congrArg List.length e2
    have z2 := congrArg List.length el
    rw [yAN, yAA, yAI] at z1 z2
    rw [yAI] at z2
    omega
theorem Chn.pow {xs : Array Keyed} {l : List PT} {b n w v a e : Nat} (h : Chn f xs a (l ++ [(b, n, w)]) e) : Chn f xs a (l ++ [(b, n, v)]) e := by
  obtain ⟨c, c1, c2, c3, c4, c5⟩ := Chn.app.mp h
  exact Chn.app.mpr ⟨c, c1, c2, c3, c4, c5⟩
def more (sz pw : Nat) : SM (Option Unit × Unit) := forIn [0:sz] ((none, ()) : Option Unit × Unit) fun _ _ => do
  let z <- get
  match if (pendingOf z).size > 1 then (pendingOf z)[(pendingOf z).size - 2]? else none with
  | some (_, _, old) =>
    if old <= pw then pure (ForInStep.done (none, ()))
    else do
      let b <- mergeAt' ((pendingOf z).size - 2)
      if (!b) = true then pure (ForInStep.done (some (), ())) else pure (ForInStep.yield (none, ()))
  | _ => pure (ForInStep.done (none, ()))
def pile (sz lo n : Nat) : SM (ForInStep (Option Unit × Nat)) := do
  let z <- get
  match (pendingOf z).back? with
  | some (s1, n1, _) => do
    let c <- more sz (power' sz (2 * s1 + n1) (2 * s1 + n1 + n1 + n) sz)
    match c.fst with
    | some r => pure (ForInStep.done (some r, lo))
    | none => do
      modify fun z => setPending z ((pendingOf z).modify ((pendingOf z).size - 1) fun x => (x.fst, x.2.fst, power' sz (2 * s1 + n1) (2 * s1 + n1 + n1 + n) sz))
      modify fun z => setPending z ((pendingOf z).push (lo, n, 0))
      pure (ForInStep.yield (none, lo + n))
  | _ => do
    modify fun z => setPending z ((pendingOf z).push (lo, n, 0))
    pure (ForInStep.yield (none, lo + n))
abbrev PQ (κ : SortKind) (a₀ : Array Keyed) (f : Keyed -> Int) (lo n : Nat) (st : SortSt) : Prop := SB κ a₀ st /\ Chn f (arrOf st) 0 (pendingOf st).toList lo /\ Up f (arrOf st) lo n
theorem more_ok {sz pw lo n : Nat} {st : SortSt} {Q : Option Unit × Unit -> SortSt -> Prop} (L : Asks M A E s κ a₀ f) (hlo : lo <= a₀.size) (hq : PQ κ a₀ f lo n st) (h : ∀ st', PQ κ a₀ f lo n st' -> Q (none, ()) st') : wpS M A E s (more sz pw) Q st := by
  unfold more
  refine wpS_forRange (I := fun x c st' => c = (none, ()) /\ PQ κ a₀ f lo n st') ?_ ?_ ⟨rfl, hq⟩
  . rintro x c st1 _ _ ⟨rfl, hB, hc, hu⟩
    refine wpS_bind (wpS_get ?_)
    by_cases h1 : (pendingOf st1).size > 1
    . rw [if_pos h1, getElem?_pos (pendingOf st1) ((pendingOf st1).size - 2) (by omega)]
      dsimp only
      split
      . exact wpS_pure (h _ ⟨hB, hc, hu⟩)
      . refine wpS_bind (join_at L hB hc hlo (by omega) fun st2 hB2 hc2 _ hk2 => ?_)
        exact wpS_pure ⟨rfl, hB2, hc2, fun i j z1 z2 z3 => by rw [ZA2 (hk2 i z1), ZA2 (hk2 j (by omega))]; exact hu i j z1 z2 z3⟩
    . rw [if_neg h1]
      exact wpS_pure (h _ ⟨hB, hc, hu⟩)
  . rintro c st1 ⟨rfl, hq⟩
    exact h _ hq
theorem modify_last {p : Array PT} {w : Nat} {l : List PT} {b n v : Nat} (h : p.toList = l ++ [(b, n, v)]) : (p.modify (p.size - 1) fun x => (x.fst, x.2.fst, w)).toList = l ++ [(b, n, w)] := by
  have hs : p.size = l.length + 1 := by rw [<- yAN, h, yAA]; rfl
  refine List.ext_getElem? fun i => ?_
  rw [yBD, Array.getElem?_modify]
  rw [<- yBD, h]
  by_cases c : p.size - 1 = i
  . rw [if_pos c, yBA (by omega), yBA (by omega), show i - l.length = 0 by omega]
    rfl
  . rw [if_neg c]
    by_cases c2 : i < l.length
    . rw [yBB c2, yBB c2]
    . rw [yCG (by rw [yAA, yAW]; omega), yCG (by rw [yAA, yAW]; omega)]
theorem pile_ok {lo n : Nat} {st : SortSt} {Q : ForInStep (Option Unit × Nat) -> SortSt -> Prop} (L : Asks M A E s κ a₀ f) (hn : 1 <= n) (hln : lo + n <= a₀.size) (hq : PQ κ a₀ f lo n st)
    (h : ∀ st', SB κ a₀ st' -> Chn f (arrOf st') 0 (pendingOf st').toList (lo + n) -> Q (.yield (none, lo + n)) st') : wpS M A E s (pile a₀.size lo n) Q st := by
  have fin : ∀ st3 : SortSt, PQ κ a₀ f lo n st3 -> wpS M A E s (modify (fun z => setPending z ((pendingOf z).push (lo, n, 0))) >>= fun _ => pure (ForInStep.yield ((none, lo + n) : Option Unit × Nat))) Q st3 := by
    rintro st3 ⟨hB3, hc3, hu3⟩
    refine wpS_bind (wpS_modify (wpS_pure (h _ ⟨hB3.perm, hB3.kind, hB3.fail⟩ ?_)))
    show Chn f (arrOf st3) 0 ((pendingOf st3).push (lo, n, 0)).toList (lo + n)
    rw [Array.toList_push]
    exact Chn.app.mpr ⟨lo, hc3, rfl, hn, hu3, rfl⟩
  unfold pile
  refine wpS_bind (wpS_get ?_)
  cases hb : (pendingOf st).back? with
  | none => exact fin st hq
  | some t =>
    obtain ⟨s1, n1, w1⟩ := t
    dsimp only
    refine wpS_bind (more_ok L (by omega) hq fun st2 hq2 => ?_)
    dsimp only
    refine wpS_bind (wpS_modify (fin _ ?_))
    obtain ⟨hB2, hc2, hu2⟩ := hq2
    refine ⟨⟨hB2.perm, hB2.kind, hB2.fail⟩, ?_, hu2⟩
    show Chn f (arrOf st2) 0 ((pendingOf st2).modify _ _).toList lo
    rcases List.eq_nil_or_concat (pendingOf st2).toList with e | ⟨l, ⟨b, k, v⟩, e⟩
    . have : pendingOf st2 = #[] := by rw [<- Array.toList_inj, e]
      rw [this] at hc2 ⊢
      exact hc2
    . rw [List.concat_eq_append] at e
      rw [modify_last e]
      rw [e] at hc2
      exact hc2.pow
theorem ite_less (c : Prop) [Decidable c] (n : Nat) : (if c then n - 1 else n) <= n := by split <;> omega
theorem wpS_cast {α : Type} {m m' : SM α} {Q Q' : α -> SortSt -> Prop} {st : SortSt} (e : m = m') (h : wpS M A E s m' Q' st) (q : ∀ a st', Q' a st' -> Q a st') : wpS M A E s m Q st := by rw [e]; exact wpS_mono h q
theorem sort_runs {st : SortSt} {Q : Unit -> SortSt -> Prop} (L : Asks M A E s κ a₀ f) (hB : SB κ a₀ st) (hp : pendingOf st = #[]) (h2 : 2 <= a₀.size)
    (h : ∀ st', SB κ a₀ st' -> Up f (arrOf st') 0 a₀.size -> Q () st') : wpS M A E s sortRuns' Q st := by
  rw [sortRuns'_eq]
  refine wpS_bind (wpS_get ?_)
  dsimp only
  rw [hB.size]
  generalize minRun' a₀.size a₀.size 0 = mr
  refine wpS_bind (wpS_mono (wpS_forRange (I := fun x c st' => ∃ lo, c = (none, lo) /\ SB κ a₀ st' /\ Chn f (arrOf st') 0 (pendingOf st').toList lo /\ lo <= a₀.size /\ min x a₀.size <= lo)
    (Q := fun c st' => c = (none, a₀.size) /\ SB κ a₀ st' /\ Chn f (arrOf st') 0 (pendingOf st').toList a₀.size) ?_ ?_ ⟨0, rfl, hB, by rw [hp]; rfl, by omega, by omega⟩) ?_)
  . rintro x c st1 _ hx ⟨lo, rfl, hB1, hc1, hlo, hxl⟩
    dsimp only
    by_cases hge : lo ≥ a₀.size
    . rw [if_pos hge]
      have : lo = a₀.size := by omega
      subst this
      exact wpS_pure ⟨rfl, hB1, hc1⟩
    rw [if_neg hge]
    refine wpS_bind (count_run L (by omega) (by omega) hB1 fun m st2 hB2 hm1 hm2 hu2 hk2 hp2 => ?_)
    dsimp only
    have hc2 : Chn f (arrOf st2) 0 (pendingOf st2).toList lo := by
      rw [hp2]
      exact hc1.keep fun k _ k2 => hk2 k k2
    have done : ∀ (n : Nat) (st3 : SortSt), 1 <= n -> lo + n <= a₀.size -> PQ κ a₀ f lo n st3 -> wpS M A E s (pile a₀.size lo n)
        (fun r st' => match r with | .done c' => c' = (none, a₀.size) /\ SB κ a₀ st' /\ Chn f (arrOf st') 0 (pendingOf st').toList a₀.size | .yield c' => ∃ lo, c' = (none, lo) /\ SB κ a₀ st' /\ Chn f (arrOf st') 0 (pendingOf st').toList lo /\ lo <= a₀.size /\ min (x + 1) a₀.size <= lo) st3 :=
      fun n st3 hn hln hq => pile_ok L hn hln hq fun st' hB' hc' => ⟨lo + n, rfl, hB', hc', hln, by omega⟩
    by_cases hlt : m < mr
    . rw [if_pos hlt]
      refine wpS_bind (wpS_lift (wpAny_rule ⟨rfl, ?_⟩))
      refine wpS_bind (bin_sort L (by omega) (by omega) hB2 hu2 fun st3 hB3 hu3 hk3 hp3 => ?_)
      rw [if_neg (by decide)]
      refine wpS_cast (by
        refine bnd _ fun z => ?_
        cases (pendingOf z).back? with
        | none => rfl
        | some t =>
          obtain ⟨s1, n1, w1⟩ := t
          refine bnd2 (for2 fun _ c => bnd _ fun z2 => ?_) fun c => ?_
          . generalize (if (pendingOf z2).size > 1 then (pendingOf z2)[(pendingOf z2).size - 2]? else none) = t2
            cases t2 with
            | none => rfl
            | some t2 => rfl
          . obtain ⟨r, u⟩ := c
            cases r with
            | none => rfl
            | some r => rfl) (done _ st3 (by omega) (by omega) ⟨hB3, by rw [hp3]; exact hc2.keep fun k _ k2 => hk3 k k2, hu3⟩) fun r st' z => by cases r <;> exact z
    . rw [if_neg hlt]
      refine wpS_cast (by
        refine bnd _ fun z => ?_
        cases (pendingOf z).back? with
        | none => rfl
        | some t =>
          obtain ⟨s1, n1, w1⟩ := t
          refine bnd2 (for2 fun _ c => bnd _ fun z2 => ?_) fun c => ?_
          . generalize (if (pendingOf z2).size > 1 then (pendingOf z2)[(pendingOf z2).size - 2]? else none) = t2
            cases t2 with
            | none => rfl
            | some t2 => rfl
          . obtain ⟨r, u⟩ := c
            cases r with
            | none => rfl
            | some r => rfl) (done m st2 hm1 (by omega) ⟨hB2, hc2, hu2⟩) fun r st' z => by cases r <;> exact z
  . rintro c st1 ⟨lo, rfl, hB1, hc1, hlo, hxl⟩
    have : lo = a₀.size := by omega
    subst this
    exact ⟨rfl, hB1, hc1⟩
  . rintro c st1 ⟨rfl, hB1, hc1⟩
    dsimp only
    refine wpS_bind (wpS_mono (wpS_forRange (I := fun x c st' => c = (none, ()) /\ SB κ a₀ st' /\ Chn f (arrOf st') 0 (pendingOf st').toList a₀.size /\ ((pendingOf st').size + x <= a₀.size ∨ (pendingOf st').size <= 1))
      (Q := fun c st' => c = (none, ()) /\ SB κ a₀ st' /\ Chn f (arrOf st') 0 (pendingOf st').toList a₀.size /\ (pendingOf st').size <= 1) ?_ ?_ ?_) ?_)
    . rintro x c st2 _ hx ⟨rfl, hB2, hc2, hz2⟩
      refine wpS_bind (wpS_get ?_)
      by_cases h1 : (pendingOf st2).size <= 1
      . rw [if_pos h1]
        exact wpS_pure ⟨rfl, hB2, hc2, h1⟩
      rw [if_neg h1]
      have go : ∀ i, i + 1 < (pendingOf st2).size -> wpS M A E s (mergeAt' i >>= fun b => if (!b) = true then pure (ForInStep.done (some (), ())) else pure (ForInStep.yield ((none, ()) : Option Unit × Unit)))
          (fun r st' => match r with | .done c' => c' = (none, ()) /\ SB κ a₀ st' /\ Chn f (arrOf st') 0 (pendingOf st').toList a₀.size /\ (pendingOf st').size <= 1 | .yield c' => c' = (none, ()) /\ SB κ a₀ st' /\ Chn f (arrOf st') 0 (pendingOf st').toList a₀.size /\ ((pendingOf st').size + (x + 1) <= a₀.size ∨ (pendingOf st').size <= 1)) st2 := fun i hi => by
        refine wpS_bind (join_at L hB2 hc2 (yAB _) hi fun st3 hB3 hc3 hz3 _ => ?_)
        exact wpS_pure ⟨rfl, hB3, hc3, by omega⟩
      refine wpS_mono (go _ ?_) fun r st' z => by cases r <;> exact z
      exact Nat.lt_of_le_of_lt (Nat.add_le_add_right (ite_less _ _) 1) (by omega)
    . rintro c st2 ⟨rfl, hB2, hc2, hz2⟩
      exact ⟨rfl, hB2, hc2, by omega⟩
    . refine ⟨rfl, hB1, hc1, .inl ?_⟩
      have := hc1.le
      rw [yAN] at this
      omega
    . rintro c st2 ⟨rfl, hB2, hc2, hz2⟩
      refine wpS_pure (h st2 hB2 ?_)
      cases e : (pendingOf st2).toList with
      | nil =>
        rw [e] at hc2
        have : 0 = a₀.size := hc2
        omega
      | cons t r =>
        have hl := congrArg List.length e
        rw [yAN, yAI] at hl
        have hr : r = [] := List.length_eq_zero_iff.mp (by omega)
        subst hr
        obtain ⟨b, n, w⟩ := t
        rw [e] at hc2
        obtain ⟨_, _, hu, hn⟩ := hc2
        have : 0 + n = a₀.size := hn
        rw [yBZ] at this
        rw [<- this]
        exact hu
end
end L2S
namespace L2S
open PySem PyProof.Rows
abbrev ZCG (h : Heap) (a : Addr) (vs : List Value) : Heap := ((h.update a (Obj.mapSeq fun _ => #[])).push (seqObj "tuple" vs.toArray 0)).push (seqObj "list" #[] 0)
section
variable {prog : Program} {w : World} {A : Around} {E : Value -> Shared -> Prop} {s : Shared}
theorem mid_old {h : Heap} {a b : Addr} {vs : List Value} {o : Obj} (hb : b ≠ a) (e : h.get? b = some o) : (ZCG h a vs).get? b = some o := by
  refine Heap.get?_push_of_some _ (Heap.get?_push_of_some _ ?_)
  exact (Heap.get?_update_other _ _ (Ne.symm hb)).trans e
theorem sort_any {a : Addr} {vs : List Value} {n : Nat} {κ : SortKind} {f : Keyed -> Int} {P : PySem.Fin -> Shared -> Prop} (ho : s.heap.get? a = some (seqObj "list" vs.toArray n)) (hz : vs.length <= 1000)
    (hkind : 2 <= vs.length -> ∀ Q' : SortKind -> Shared -> Prop, Q' κ { s with heap := ZCG s.heap a vs } -> wpAny (model prog w) A (keyKind' vs.toArray) Q' E { s with heap := ZCG s.heap a vs })
    (hask : 2 <= vs.length -> Asks (model prog w) A E { s with heap := ZCG s.heap a vs } κ (pairsOf vs) f)
    (h : ∀ out : Array Keyed, out.Perm (pairsOf vs) -> Up f out 0 vs.length -> P (.done (.ret .none)) { s with heap := sortedHeap s.heap a vs (out.map (·.2)) }) : wpAny (model prog w) A (Builtin.«list.sort» ⟨[.ref a], []⟩) P E s := by
  rw [list_sort_plain]
  have ha : a < s.heap.objs.size := Heap.lt_size ho
  refine wpAny_bind (listItems_at ho rfl ?_)
  refine wpAny_bind (listUpdate_at ho rfl ?_)
  obtain ⟨e1, ho1⟩ : ∃ e1, (s.heap.update a (Obj.mapSeq fun _ => #[])).get? a = some (seqObj "list" #[] e1) := ⟨_, get?_update_seq ho (fun _ => #[])⟩
  refine wpAny_bind (seqEpoch_at ho1 rfl ?_)
  refine wpAny_bind (wpAny_newTuple (wpAny_bind (wpAny_newList (wpAny_holding ?_))))
  have ho6 : (ZCG s.heap a vs).get? a = some (seqObj "list" #[] e1) := Heap.get?_push_of_some _ (Heap.get?_push_of_some _ ho1)
  show wpAny (model prog w) A _ P E { s with heap := ZCG s.heap a vs }
  dsimp only
  have hsz : vs.toArray.size = vs.length := yAM ..
  have hl : vs.length <= sizeLine := yAK hz (by decide)
  rw [hsz]
  by_cases h2 : vs.length < 2
  . rw [if_pos h2, if_pos h2]
    refine wpAny_bind (wpAny_pure ?_)
    rw [StateT.run_pure]
    refine wpAny_bind (wpAny_pure ?_)
    dsimp only
    refine wpAny_bind (seqEpoch_at ho6 rfl ?_)
    refine wpAny_bind (listUpdate_at ho6 rfl ?_ (hsz2 := by rw [Array.size_map]; show (pairsOf vs).size <= _; rw [pairsOf_size]; omega))
    rw [if_neg (by simp)]
    exact wpAny_pure (h (pairsOf vs) (Array.Perm.refl _) fun i j _ z2 z3 => by rw [show i = j by omega]; exact Int.le_refl _)
  . rw [if_neg h2, if_neg h2]
    refine wpAny_bind (hkind (by omega) _ ?_)
    refine wpAny_bind (wpAny_mono (sort_runs (st := SortSt.mk' κ (vs.toArray.zip vs.toArray) #[] 7 none) (Q := fun _ st' => SB κ (pairsOf vs) st' /\ Up f (arrOf st') 0 (pairsOf vs).size) (hask (by omega)) ⟨Array.Perm.refl _, rfl, rfl⟩ rfl (by rw [pairsOf_size]; omega) fun st' a1 a2 => ⟨a1, a2⟩) ?_ fun _ _ e => e)
    rintro ⟨⟨⟩, st'⟩ s' ⟨rfl, hB, hu⟩
    dsimp only
    refine wpAny_bind (seqEpoch_at ho6 rfl ?_)
    have hs : (arrOf st').size = (pairsOf vs).size := hB.size
    rw [pairsOf_size] at hs hu
    refine wpAny_bind (listUpdate_at ho6 rfl ?_ (hsz2 := by rw [Array.size_map]; omega))
    rw [hB.fail, if_neg (by simp)]
    exact wpAny_pure (h _ hB.perm hu)
theorem sorted_any {l : Addr} {vs : List Value} {κ : SortKind} {f : Keyed -> Int} {Q : Value -> Shared -> Prop} (hl : s.heap.IsList l vs.toArray) (hz : vs.length <= 1000)
    (hkind : ∀ h' : Heap, (∀ b o, s.heap.get? b = some o -> h'.get? b = some o) -> 2 <= vs.length -> ∀ (A' : Around) (E' : Value -> Shared -> Prop) (Q' : SortKind -> Shared -> Prop), A'.units <= A.units + 8 -> Q' κ { s with heap := h' } -> wpAny (model prog w) A' (keyKind' vs.toArray) Q' E' { s with heap := h' })
    (hask : ∀ h' : Heap, (∀ b o, s.heap.get? b = some o -> h'.get? b = some o) -> 2 <= vs.length -> ∀ (A' : Around) (E' : Value -> Shared -> Prop), A'.units <= A.units + 8 -> Asks (model prog w) A' E' { s with heap := h' } κ (pairsOf vs) f)
    (h : ∀ out : Array Keyed, out.Perm (pairsOf vs) -> Up f out 0 vs.length -> Q (.ref (s.heap.objs.size + 1)) { s with heap := sortedAll s.heap vs (out.map (·.2)) }) : wpAny (model prog w) A (call (.builtin "sorted") [.ref l]) Q E s := by
  refine Calls.call_function_entry kind_sorted plain_sorted entry_sorted (args_sorted1 _) ?_
  unfold Builtin.«sorted»
  refine wpAny_bind (m := checkCount "sorted" 1 1 _) (wpAny_pure ?_)
  refine wpAny_bind (collect_list hl ?_ (yAK hz (by decide)))
  refine wpAny_bind (wpAny_newList ?_)
  have z1 : ((s.heap.push (seqObj "list" #[] 0)).update s.heap.objs.size (Obj.mapSeq (· ++ vs.toArray))).objs.size = s.heap.objs.size + 1 := (Heap.size_update ..).trans (size_push' ..)
  have g1 : (((s.heap.push (seqObj "list" #[] 0)).update s.heap.objs.size (Obj.mapSeq (· ++ vs.toArray))).push (seqObj "list" vs.toArray 0)).get? (s.heap.objs.size + 1) = some (seqObj "list" vs.toArray 0) := by
    rw [<- z1]; exact Heap.get?_push_size _ rfl
  have old : ∀ b o, s.heap.get? b = some o -> (ZCG (((s.heap.push (seqObj "list" #[] 0)).update s.heap.objs.size (Obj.mapSeq (· ++ vs.toArray))).push (seqObj "list" vs.toArray 0)) (s.heap.objs.size + 1) vs).get? b = some o := fun b o e => by
    have lt := Heap.lt_size e
    refine mid_old (yAP (Nat.lt_succ_of_lt lt)) (Heap.get?_push_of_some _ ?_)
    exact (Heap.get?_update_other _ _ (Nat.ne_of_gt lt)).trans (Heap.get?_push_of_some _ e)
  show wpAny _ _ _ _ _ { s with heap := ((s.heap.push (seqObj "list" #[] 0)).update s.heap.objs.size (Obj.mapSeq (· ++ vs.toArray))).push (seqObj "list" vs.toArray 0) }
  rw [z1]
  refine wpAny_bind (wpAny_holding (wpAny_call_entry slot_list_sort ⟨_, g1, rfl⟩ entry_list_sort (sort_any g1 hz (fun h2 Q' q => hkind _ old h2 _ _ Q' ?_ q) (fun h2 => hask _ old h2 _ _ ?_) fun out a1 a2 => ⟨_, rfl, ?_⟩) (args_list_sort _)))
  . show A.units + 1 + 1 <= A.units + 8; omega
  . show A.units + 1 + 1 <= A.units + 8; omega
  . exact wpAny_pure ⟨_, rfl, h out a1 a2⟩
end
end L2S
namespace L2
open PySem PySem.Spec PyProof.Rows L2S
theorem kn_K {xs : Array Keyed} {i : Nat} : kn (fun p => numOf p.1) xs i = PyProof.Rows.K xs i := by
  unfold kn PyProof.Rows.K
  cases xs[i]? <;> rfl
section
variable {prog : Program} {w : World} {A : Around} {E : Value -> Shared -> Prop} {s : Shared}
theorem asks_ints {a₀ : Array Keyed} (h0 : IntKeys a₀) : Asks (model prog w) A E s oneType' a₀ fun p => numOf p.1 where
  lt := fun x y hx hy st Q hk q => by
    obtain ⟨n, t, e1⟩ := h0 x hx
    obtain ⟨m, u, e2⟩ := h0 y hy
    rw [lt'_eq]
    refine wpS_bind (wpS_get ?_)
    rw [hk, keyLt'_oneType]
    rw [e1, e2] at q ⊢
    exact wpS_bind (wpS_lift (wpAny_attempt (oneLt_int ⟨rfl, wpS_pure q⟩)))
theorem kind_of_ints {vs : List Value} {ns : List Int} (hI : IntsAre vs ns) (h2 : 2 <= vs.length) : keyKind' vs.toArray = pure oneType' := by
  cases vs with
  | nil => exact absurd h2 (by simp)
  | cons v₁ r =>
    cases r with
    | nil => exact absurd h2 (by simp)
    | cons v₂ r => exact keyKind_ints hI
theorem sorted_intsB {l : Addr} {vs : List Value} {ns : List Int} {Q : Value -> Shared -> Prop} (hl : s.heap.IsList l vs.toArray) (hI : IntsAre vs ns) (hz : vs.length <= 1000)
    (h : ∀ (out : Array Value) (ns' : List Int), IntsAre out.toList ns' -> ns'.Perm ns -> ns'.Pairwise (· <= ·) -> Q (.ref (s.heap.objs.size + 1)) { s with heap := sortedAll s.heap vs out }) : wpAny (model prog w) A (call (.builtin "sorted") [.ref l]) Q E s := by
  refine sorted_any (κ := oneType') (f := fun p => numOf p.1) hl hz (fun h' _ h2 A' E' Q' _ q => ?_) (fun h' _ h2 A' E' _ => asks_ints hI.intKeys) fun out hp hu => ?_
  . rw [kind_of_ints hI h2]
    exact wpAny_pure q
  . obtain ⟨ns', a1, a2, a3⟩ := sorted_out hI hp (fun i j z1 z2 => by
      rw [pairsOf_size] at z2
      have := hu i j (yAG _) z1 (by omega)
      rw [kn_K, kn_K] at this
      exact this)
    exact h _ ns' a1 a2 a3
end
section
variable {X : Cx}
theorem ZBy : ZC5 X (.builtin "sorted") (fun xs H Q => ∃ (p : Addr) (ns : List Int), xs = [.ref p] /\ SqL X.K H p (ns.map V.int) /\ ns.length <= 1000 /\ ∀ (l : Addr) (ms : List Int), H l = none -> ms.Perm ns -> ms.Pairwise (· <= ·) -> Q (.ref l) (upd H l (.lst (ms.map V.int)))) := by
  intro pins s σ H xs us Q I r h
  obtain ⟨p, ns, rfl, hq, hn, q⟩ := h
  obtain ⟨u, rfl, rx⟩ := ZD3 r
  cases rx
  obtain ⟨its, r', pl, hz⟩ := I.list hq
  have hlen := r'.length
  rw [yAD] at hlen
  refine sorted_intsB pl.isList (intsAre_of r') (by omega) fun out ns' a1 a2 a3 => ?_
  obtain ⟨e, he⟩ := sortedAll_at s.heap its out
  have hl' : ns'.length = ns.length := a2.length_eq
  refine ⟨.ref (s.heap.objs.size + 1), _, I.laid (t' := s.toks) (fun b o e => sortedAll_old e) (yBE _) (o := .lst (ns'.map V.int)) ⟨?_, out.toList, e, ZCo a1, by simpa using he⟩, rfl, q _ ns' (I.hok.fresh (yBE _)) a2 a3⟩
  rw [yAD]
  exact ZAe (by omega)
end
open PySem PySem.Spec PyProof.Rows L2S
section
variable {prog : Program} {w : World} {A : Around} {E : Value -> Shared -> Prop} {s : Shared}
end
section
variable {X : Cx}
end
end L2
namespace L2S
open PySem PyProof.Rows L2
section
variable {prog : Program} {w : World} {A : Around} {E : Value -> Shared -> Prop} {s : Shared}
end
end L2S
namespace L2
open PySem PySem.Spec PyProof.Rows L2S
section
variable {X : Cx} {e d : Expr} {te td : TE} {p pos : Pos} {kpos : Pos}
def tSortR (K : W.Frag) (te td : TE) : TE := fun σ H Q => te σ H fun x H1 => td σ H1 fun y H2 => ∃ a ns, x = .ref a /\ y = .bl true /\ SqL K H2 a (ns.map V.int) /\ ns.length <= 1000 /\ ∀ (l : Addr) (ms : List Int), H2 l = none -> ms.Perm ns -> ms.Pairwise (· ≥ ·) -> Q (.ref l) (upd H2 l (.lst (ms.map V.int)))
end
end L2
namespace Gr
def qt (m a : Int) (p : Nat) : Int := a * 2 ^ p / (2 * m)
structure IsG (m a b : Int) (g : Nat) : Prop where
  pos : 1 <= g
  eq : ∀ q, 1 <= q -> q < g -> qt m a q = qt m b q
  ne : qt m a g ≠ qt m b g
theorem p2pos (p : Nat) : (0 : Int) < 2 ^ p := Int.pow_pos (by decide)
theorem qt_ne {m a b : Int} {p : Nat} (hm : 0 < m) (hab : a + 2 <= b) (hp : m <= 2 ^ p) : qt m a p ≠ qt m b p := by
  unfold qt
  have h1 : a * 2 ^ p + 2 * m <= b * 2 ^ p := by
    have : (a + 2) * 2 ^ p <= b * 2 ^ p := Int.mul_le_mul_of_nonneg_right hab (Int.le_of_lt (p2pos p))
    rw [Int.add_mul] at this
    omega
  have h2 : (a * 2 ^ p + 2 * m) / (2 * m) <= b * 2 ^ p / (2 * m) := Int.ediv_le_ediv (by omega) h1
  rw [Int.add_ediv_of_dvd_right (Int.dvd_refl _), Int.ediv_self (by omega)] at h2
  omega
end Gr
namespace Gr
end Gr
namespace L2
open PySem
theorem tVar_1 {v : V} {a0 : Option V} {σ : St} {H : Hp} {Q : VK} : tVar 1 (a0 :: some v :: σ) H Q = Q v H := by
  simp only [ZAn, ZAh]
theorem tVar_2 {v : V} {a0 a1 : Option V} {σ : St} {H : Hp} {Q : VK} : tVar 2 (a0 :: a1 :: some v :: σ) H Q = Q v H := by
  simp only [ZAn, ZAh]
theorem tVar_3 {v : V} {a0 a1 a2 : Option V} {σ : St} {H : Hp} {Q : VK} : tVar 3 (a0 :: a1 :: a2 :: some v :: σ) H Q = Q v H := by
  simp only [ZAn, ZAh]
theorem tVar_4 {v : V} {a0 a1 a2 a3 : Option V} {σ : St} {H : Hp} {Q : VK} : tVar 4 (a0 :: a1 :: a2 :: a3 :: some v :: σ) H Q = Q v H := by
  simp only [ZAn, ZAh]
theorem tVar_5 {v : V} {a0 a1 a2 a3 a4 : Option V} {σ : St} {H : Hp} {Q : VK} : tVar 5 (a0 :: a1 :: a2 :: a3 :: a4 :: some v :: σ) H Q = Q v H := by
  simp only [ZAn, ZAh]
theorem tVar_6 {v : V} {a0 a1 a2 a3 a4 a5 : Option V} {σ : St} {H : Hp} {Q : VK} : tVar 6 (a0 :: a1 :: a2 :: a3 :: a4 :: a5 :: some v :: σ) H Q = Q v H := by
  simp only [ZAn, ZAh]
theorem tVar_7 {v : V} {a0 a1 a2 a3 a4 a5 a6 : Option V} {σ : St} {H : Hp} {Q : VK} : tVar 7 (a0 :: a1 :: a2 :: a3 :: a4 :: a5 :: a6 :: some v :: σ) H Q = Q v H := by
  simp only [ZAn, ZAh]
theorem tVar_8 {v : V} {a0 a1 a2 a3 a4 a5 a6 a7 : Option V} {σ : St} {H : Hp} {Q : VK} : tVar 8 (a0 :: a1 :: a2 :: a3 :: a4 :: a5 :: a6 :: a7 :: some v :: σ) H Q = Q v H := by
  simp only [ZAn, ZAh]
theorem tVar_9 {v : V} {a0 a1 a2 a3 a4 a5 a6 a7 a8 : Option V} {σ : St} {H : Hp} {Q : VK} : tVar 9 (a0 :: a1 :: a2 :: a3 :: a4 :: a5 :: a6 :: a7 :: a8 :: some v :: σ) H Q = Q v H := by
  simp only [ZAn, ZAh]
theorem tVar_10 {v : V} {a0 a1 a2 a3 a4 a5 a6 a7 a8 a9 : Option V} {σ : St} {H : Hp} {Q : VK} : tVar 10 (a0 :: a1 :: a2 :: a3 :: a4 :: a5 :: a6 :: a7 :: a8 :: a9 :: some v :: σ) H Q = Q v H := by
  simp only [ZAn, ZAh]
theorem tVar_11 {v : V} {a0 a1 a2 a3 a4 a5 a6 a7 a8 a9 a10 : Option V} {σ : St} {H : Hp} {Q : VK} : tVar 11 (a0 :: a1 :: a2 :: a3 :: a4 :: a5 :: a6 :: a7 :: a8 :: a9 :: a10 :: some v :: σ) H Q = Q v H := by
  simp only [ZAn, ZAh]
theorem tVar_12 {v : V} {a0 a1 a2 a3 a4 a5 a6 a7 a8 a9 a10 a11 : Option V} {σ : St} {H : Hp} {Q : VK} : tVar 12 (a0 :: a1 :: a2 :: a3 :: a4 :: a5 :: a6 :: a7 :: a8 :: a9 :: a10 :: a11 :: some v :: σ) H Q = Q v H := by
  simp only [ZAn, ZAh]
theorem tVar_13 {v : V} {a0 a1 a2 a3 a4 a5 a6 a7 a8 a9 a10 a11 a12 : Option V} {σ : St} {H : Hp} {Q : VK} : tVar 13 (a0 :: a1 :: a2 :: a3 :: a4 :: a5 :: a6 :: a7 :: a8 :: a9 :: a10 :: a11 :: a12 :: some v :: σ) H Q = Q v H := by
  simp only [ZAn, ZAh]
theorem tVar_14 {v : V} {a0 a1 a2 a3 a4 a5 a6 a7 a8 a9 a10 a11 a12 a13 : Option V} {σ : St} {H : Hp} {Q : VK} : tVar 14 (a0 :: a1 :: a2 :: a3 :: a4 :: a5 :: a6 :: a7 :: a8 :: a9 :: a10 :: a11 :: a12 :: a13 :: some v :: σ) H Q = Q v H := by
  simp only [ZAn, ZAh]
theorem tVar_15 {v : V} {a0 a1 a2 a3 a4 a5 a6 a7 a8 a9 a10 a11 a12 a13 a14 : Option V} {σ : St} {H : Hp} {Q : VK} : tVar 15 (a0 :: a1 :: a2 :: a3 :: a4 :: a5 :: a6 :: a7 :: a8 :: a9 :: a10 :: a11 :: a12 :: a13 :: a14 :: some v :: σ) H Q = Q v H := by
  simp only [ZAn, ZAh]
theorem tVar_16 {v : V} {a0 a1 a2 a3 a4 a5 a6 a7 a8 a9 a10 a11 a12 a13 a14 a15 : Option V} {σ : St} {H : Hp} {Q : VK} : tVar 16 (a0 :: a1 :: a2 :: a3 :: a4 :: a5 :: a6 :: a7 :: a8 :: a9 :: a10 :: a11 :: a12 :: a13 :: a14 :: a15 :: some v :: σ) H Q = Q v H := by
  simp only [ZAn, ZAh]
theorem tVar_17 {v : V} {a0 a1 a2 a3 a4 a5 a6 a7 a8 a9 a10 a11 a12 a13 a14 a15 a16 : Option V} {σ : St} {H : Hp} {Q : VK} : tVar 17 (a0 :: a1 :: a2 :: a3 :: a4 :: a5 :: a6 :: a7 :: a8 :: a9 :: a10 :: a11 :: a12 :: a13 :: a14 :: a15 :: a16 :: some v :: σ) H Q = Q v H := by
  simp only [ZAn, ZAh]
theorem tVar_18 {v : V} {a0 a1 a2 a3 a4 a5 a6 a7 a8 a9 a10 a11 a12 a13 a14 a15 a16 a17 : Option V} {σ : St} {H : Hp} {Q : VK} : tVar 18 (a0 :: a1 :: a2 :: a3 :: a4 :: a5 :: a6 :: a7 :: a8 :: a9 :: a10 :: a11 :: a12 :: a13 :: a14 :: a15 :: a16 :: a17 :: some v :: σ) H Q = Q v H := by
  simp only [ZAn, ZAh]
theorem tVar_19 {v : V} {a0 a1 a2 a3 a4 a5 a6 a7 a8 a9 a10 a11 a12 a13 a14 a15 a16 a17 a18 : Option V} {σ : St} {H : Hp} {Q : VK} : tVar 19 (a0 :: a1 :: a2 :: a3 :: a4 :: a5 :: a6 :: a7 :: a8 :: a9 :: a10 :: a11 :: a12 :: a13 :: a14 :: a15 :: a16 :: a17 :: a18 :: some v :: σ) H Q = Q v H := by
  simp only [ZAn, ZAh]
theorem tVar_20 {v : V} {a0 a1 a2 a3 a4 a5 a6 a7 a8 a9 a10 a11 a12 a13 a14 a15 a16 a17 a18 a19 : Option V} {σ : St} {H : Hp} {Q : VK} : tVar 20 (a0 :: a1 :: a2 :: a3 :: a4 :: a5 :: a6 :: a7 :: a8 :: a9 :: a10 :: a11 :: a12 :: a13 :: a14 :: a15 :: a16 :: a17 :: a18 :: a19 :: some v :: σ) H Q = Q v H := by
  simp only [ZAn, ZAh]
theorem tVar_21 {v : V} {a0 a1 a2 a3 a4 a5 a6 a7 a8 a9 a10 a11 a12 a13 a14 a15 a16 a17 a18 a19 a20 : Option V} {σ : St} {H : Hp} {Q : VK} : tVar 21 (a0 :: a1 :: a2 :: a3 :: a4 :: a5 :: a6 :: a7 :: a8 :: a9 :: a10 :: a11 :: a12 :: a13 :: a14 :: a15 :: a16 :: a17 :: a18 :: a19 :: a20 :: some v :: σ) H Q = Q v H := by
  simp only [ZAn, ZAh]
theorem tVar_22 {v : V} {a0 a1 a2 a3 a4 a5 a6 a7 a8 a9 a10 a11 a12 a13 a14 a15 a16 a17 a18 a19 a20 a21 : Option V} {σ : St} {H : Hp} {Q : VK} : tVar 22 (a0 :: a1 :: a2 :: a3 :: a4 :: a5 :: a6 :: a7 :: a8 :: a9 :: a10 :: a11 :: a12 :: a13 :: a14 :: a15 :: a16 :: a17 :: a18 :: a19 :: a20 :: a21 :: some v :: σ) H Q = Q v H := by
  simp only [ZAn, ZAh]
theorem tVar_23 {v : V} {a0 a1 a2 a3 a4 a5 a6 a7 a8 a9 a10 a11 a12 a13 a14 a15 a16 a17 a18 a19 a20 a21 a22 : Option V} {σ : St} {H : Hp} {Q : VK} : tVar 23 (a0 :: a1 :: a2 :: a3 :: a4 :: a5 :: a6 :: a7 :: a8 :: a9 :: a10 :: a11 :: a12 :: a13 :: a14 :: a15 :: a16 :: a17 :: a18 :: a19 :: a20 :: a21 :: a22 :: some v :: σ) H Q = Q v H := by
  simp only [ZAn, ZAh]
theorem tVar_24 {v : V} {a0 a1 a2 a3 a4 a5 a6 a7 a8 a9 a10 a11 a12 a13 a14 a15 a16 a17 a18 a19 a20 a21 a22 a23 : Option V} {σ : St} {H : Hp} {Q : VK} : tVar 24 (a0 :: a1 :: a2 :: a3 :: a4 :: a5 :: a6 :: a7 :: a8 :: a9 :: a10 :: a11 :: a12 :: a13 :: a14 :: a15 :: a16 :: a17 :: a18 :: a19 :: a20 :: a21 :: a22 :: a23 :: some v :: σ) H Q = Q v H := by
  simp only [ZAn, ZAh]
theorem tVar_25 {v : V} {a0 a1 a2 a3 a4 a5 a6 a7 a8 a9 a10 a11 a12 a13 a14 a15 a16 a17 a18 a19 a20 a21 a22 a23 a24 : Option V} {σ : St} {H : Hp} {Q : VK} : tVar 25 (a0 :: a1 :: a2 :: a3 :: a4 :: a5 :: a6 :: a7 :: a8 :: a9 :: a10 :: a11 :: a12 :: a13 :: a14 :: a15 :: a16 :: a17 :: a18 :: a19 :: a20 :: a21 :: a22 :: a23 :: a24 :: some v :: σ) H Q = Q v H := by
  simp only [ZAn, ZAh]
theorem tVar_26 {v : V} {a0 a1 a2 a3 a4 a5 a6 a7 a8 a9 a10 a11 a12 a13 a14 a15 a16 a17 a18 a19 a20 a21 a22 a23 a24 a25 : Option V} {σ : St} {H : Hp} {Q : VK} : tVar 26 (a0 :: a1 :: a2 :: a3 :: a4 :: a5 :: a6 :: a7 :: a8 :: a9 :: a10 :: a11 :: a12 :: a13 :: a14 :: a15 :: a16 :: a17 :: a18 :: a19 :: a20 :: a21 :: a22 :: a23 :: a24 :: a25 :: some v :: σ) H Q = Q v H := by
  simp only [ZAn, ZAh]
theorem tVar_27 {v : V} {a0 a1 a2 a3 a4 a5 a6 a7 a8 a9 a10 a11 a12 a13 a14 a15 a16 a17 a18 a19 a20 a21 a22 a23 a24 a25 a26 : Option V} {σ : St} {H : Hp} {Q : VK} : tVar 27 (a0 :: a1 :: a2 :: a3 :: a4 :: a5 :: a6 :: a7 :: a8 :: a9 :: a10 :: a11 :: a12 :: a13 :: a14 :: a15 :: a16 :: a17 :: a18 :: a19 :: a20 :: a21 :: a22 :: a23 :: a24 :: a25 :: a26 :: some v :: σ) H Q = Q v H := by
  simp only [ZAn, ZAh]
theorem tVar_28 {v : V} {a0 a1 a2 a3 a4 a5 a6 a7 a8 a9 a10 a11 a12 a13 a14 a15 a16 a17 a18 a19 a20 a21 a22 a23 a24 a25 a26 a27 : Option V} {σ : St} {H : Hp} {Q : VK} : tVar 28 (a0 :: a1 :: a2 :: a3 :: a4 :: a5 :: a6 :: a7 :: a8 :: a9 :: a10 :: a11 :: a12 :: a13 :: a14 :: a15 :: a16 :: a17 :: a18 :: a19 :: a20 :: a21 :: a22 :: a23 :: a24 :: a25 :: a26 :: a27 :: some v :: σ) H Q = Q v H := by
  simp only [ZAn, ZAh]
theorem tVar_29 {v : V} {a0 a1 a2 a3 a4 a5 a6 a7 a8 a9 a10 a11 a12 a13 a14 a15 a16 a17 a18 a19 a20 a21 a22 a23 a24 a25 a26 a27 a28 : Option V} {σ : St} {H : Hp} {Q : VK} : tVar 29 (a0 :: a1 :: a2 :: a3 :: a4 :: a5 :: a6 :: a7 :: a8 :: a9 :: a10 :: a11 :: a12 :: a13 :: a14 :: a15 :: a16 :: a17 :: a18 :: a19 :: a20 :: a21 :: a22 :: a23 :: a24 :: a25 :: a26 :: a27 :: a28 :: some v :: σ) H Q = Q v H := by
  simp only [ZAn, ZAh]
theorem tVar_30 {v : V} {a0 a1 a2 a3 a4 a5 a6 a7 a8 a9 a10 a11 a12 a13 a14 a15 a16 a17 a18 a19 a20 a21 a22 a23 a24 a25 a26 a27 a28 a29 : Option V} {σ : St} {H : Hp} {Q : VK} : tVar 30 (a0 :: a1 :: a2 :: a3 :: a4 :: a5 :: a6 :: a7 :: a8 :: a9 :: a10 :: a11 :: a12 :: a13 :: a14 :: a15 :: a16 :: a17 :: a18 :: a19 :: a20 :: a21 :: a22 :: a23 :: a24 :: a25 :: a26 :: a27 :: a28 :: a29 :: some v :: σ) H Q = Q v H := by
  simp only [ZAn, ZAh]
open PySem
def Cut (t : TS) : TS := t
theorem ZAT {X : Cx} {rest : List Stmt} {u : TS} (h : PSs X rest u) : PSs X rest (Cut u) := h
theorem ZAd {u : TS} {D : Ends} {σ : St} {H : Hp} (h : u D σ H) : Cut u D σ H := h
theorem us0 {l : List Value} (h : l.length = 0) : l = [] := List.length_eq_zero_iff.mp h
theorem us1 {l : List Value} (h : l.length = 1) : ∃ a0, l = [a0] := by
  cases l with
  | nil => cases h
  | cons a l =>
    obtain rfl := us0 (l := l) (Nat.succ.inj h)
    exact ⟨a, rfl⟩
theorem us2 {l : List Value} (h : l.length = 2) : ∃ a0 a1, l = [a0, a1] := by
  cases l with
  | nil => cases h
  | cons a l =>
    obtain ⟨b0, rfl⟩ := us1 (l := l) (Nat.succ.inj h)
    exact ⟨a, b0, rfl⟩
theorem us3 {l : List Value} (h : l.length = 3) : ∃ a0 a1 a2, l = [a0, a1, a2] := by
  cases l with
  | nil => cases h
  | cons a l =>
    obtain ⟨b0, b1, rfl⟩ := us2 (l := l) (Nat.succ.inj h)
    exact ⟨a, b0, b1, rfl⟩
theorem us4 {l : List Value} (h : l.length = 4) : ∃ a0 a1 a2 a3, l = [a0, a1, a2, a3] := by
  cases l with
  | nil => cases h
  | cons a l =>
    obtain ⟨b0, b1, b2, rfl⟩ := us3 (l := l) (Nat.succ.inj h)
    exact ⟨a, b0, b1, b2, rfl⟩
theorem us5 {l : List Value} (h : l.length = 5) : ∃ a0 a1 a2 a3 a4, l = [a0, a1, a2, a3, a4] := by
  cases l with
  | nil => cases h
  | cons a l =>
    obtain ⟨b0, b1, b2, b3, rfl⟩ := us4 (l := l) (Nat.succ.inj h)
    exact ⟨a, b0, b1, b2, b3, rfl⟩
theorem us6 {l : List Value} (h : l.length = 6) : ∃ a0 a1 a2 a3 a4 a5, l = [a0, a1, a2, a3, a4, a5] := by
  cases l with
  | nil => cases h
  | cons a l =>
    obtain ⟨b0, b1, b2, b3, b4, rfl⟩ := us5 (l := l) (Nat.succ.inj h)
    exact ⟨a, b0, b1, b2, b3, b4, rfl⟩
end L2
namespace Law
open PySem L2
local macro_rules | `(tactic| walk_at "o") => `(tactic| first | exact Or.inl rfl | exact Or.inr rfl)
local macro_rules | `(tactic| walk_at "rd") => `(tactic| ((try dsimp only [cx_K, tDNewT, tDNewK, tDNotIn, tDIn, tDGet, sDPut, tChain, tForZ_eq, tRevL, tCompR2_eq, sFldAug_eq, cx_cloK, ZD7, ZCL, tForE_eq, tCompE_eq, tMaxD, tAug_eq, ipI_int, gSub, gCons_eq, gNil_eq, tSeq, tIfS, ZEZ, tB, tOr, tAnd, tNot, tOp, tUn, tC, ZAh, tSortR, tCompR3_eq, tBL, tVar_1, tVar_2, tVar_3, tVar_4, tVar_5, tVar_6, tVar_7, tVar_8, tVar_9, tVar_10, tVar_11, tVar_12, tVar_13, tVar_14, tVar_15, tVar_16, tVar_17, tVar_18, tVar_19, tVar_20, tVar_21, tVar_22, tVar_23, tVar_24, tVar_25, tVar_26, tVar_27, tVar_28, tVar_29, tVar_30, rI0_int, rI_int, rU_int, rEq_int, rNe_int, rEq_bl, rNe_bl, rEq_str, rNe_str, ex_bl, ex_int, tAsg, ZEX, tRet, tRetN, ZEd, ZEc, ZD5, ZEe, tOrV, ZEb, tIf, List.set_cons_zero, List.set_cons_succ, ZEP, ZD0, ZB8, tNil, List.cons_append, List.nil_append, yAT, tCB, tFld_eq, sFld_eq, tForL_eq, tForR1_eq, tForR2_eq, tCompL_eq, tCompR1_eq, tYes, tBM, tBM0, tLst, tTup, ZD6, true_and, tSl, ZEa, ZDb, decide_eq_true_eq, Bool.not_eq_true', decide_eq_false_iff_not, L2.start, yAZ, List.map_nil, yAI, yBV, Nat.reduceAdd, Nat.reduceSub, yBZ, yBH, List.replicate_zero, List.replicate_succ, if_true, if_false, Bool.false_eq_true, Bool.true_eq_false, Bool.not_true, Bool.not_false]); (try simp only [cx_K, tDNewT, tDNewK, tDNotIn, tDIn, tDGet, sDPut, tChain, tForZ_eq, tRevL, tCompR2_eq, sFldAug_eq, cx_cloK, ZD7, ZCL, tForE_eq, tCompE_eq, tMaxD, tAug_eq, ipI_int, gSub, gCons_eq, gNil_eq, tSeq, tIfS, ZEZ, tB, tOr, tAnd, tNot, tOp, tUn, tC, ZAh, tSortR, tCompR3_eq, tBL, tVar_1, tVar_2, tVar_3, tVar_4, tVar_5, tVar_6, tVar_7, tVar_8, tVar_9, tVar_10, tVar_11, tVar_12, tVar_13, tVar_14, tVar_15, tVar_16, tVar_17, tVar_18, tVar_19, tVar_20, tVar_21, tVar_22, tVar_23, tVar_24, tVar_25, tVar_26, tVar_27, tVar_28, tVar_29, tVar_30, rI0_int, rI_int, rU_int, rEq_int, rNe_int, rEq_bl, rNe_bl, rEq_str, rNe_str, ex_bl, ex_int, tAsg, ZEX, tRet, tRetN, ZEd, ZEc, ZD5, ZEe, tOrV, ZEb, tIf, List.set_cons_zero, List.set_cons_succ, ZEP, ZD0, ZB8, tNil, List.cons_append, List.nil_append, yAT, tCB, tFld_eq, sFld_eq, tForL_eq, tForR1_eq, tForR2_eq, tCompL_eq, tCompR1_eq, tYes, tBM, tBM0, tLst, tTup, ZD6, true_and, tSl, ZEa, ZDb, decide_eq_true_eq, Bool.not_eq_true', decide_eq_false_iff_not, L2.start, yAZ, List.map_nil, yAI, yBV, Nat.reduceAdd, Nat.reduceSub, yBZ, yBH, List.replicate_zero, List.replicate_succ, if_true, if_false, Bool.false_eq_true, Bool.true_eq_false, Bool.not_true, Bool.not_false])))
local macro_rules | `(tactic| walk_at "up") => `(tactic| first | assumption | (refine Same.get (by assumption) ?_; walk_at "up"))
local macro_rules | `(tactic| walk_at "lk") => `(tactic| ((repeat (first | rw [lkc, if_pos rfl] | rw [lkc, if_neg (by decide +kernel)])); first | done | rfl))
def top (i : Nat) : Stmt := PySem.Challenge.pw_sorthall_k59_whole_asks_as_told.main.body.getD i (.Pass ⟨0, 0, 0, 0⟩)
abbrev ZC6 : Stmt := top 2
abbrev ZBE : Stmt := ZAv (top 7) 0
abbrev ZAt : Stmt := ZAv (top 7) 1
abbrev ZA5 : Stmt := ZAv (top 7) 2
abbrev ZAy : Stmt := ZAv (top 7) 3
abbrev ZAp : Stmt := ZAv (top 7) 4
abbrev ZBR : Stmt := ZAv (top 7) 5
abbrev ZAz : Stmt := ZAv (top 7) 6
abbrev ZB2 : Stmt := top 8
abbrev ZAx : Stmt := top 10
abbrev ZBh : Stmt := top 11
abbrev ZBe : Stmt := top 13
abbrev ZB3 : Stmt := top 14
abbrev ZCb : Stmt := top 16
abbrev ZBD : Stmt := ZAv (top 18) 0
abbrev ZAo : Stmt := ZAv (top 18) 1
abbrev ZAX : Stmt := ZAv (top 18) 2
abbrev ZAs : Stmt := ZAv (top 18) 3
abbrev ZAb : Stmt := ZAv (top 18) 4
abbrev ZBQ : Stmt := ZAv (top 18) 5
abbrev ZBC : Stmt := ZAv (top 18) 6
abbrev ZA4 : Stmt := ZAv (top 18) 8
abbrev ZA7 : Stmt := ZAv (top 23) 0
abbrev ZA6 : Stmt := ZAv (top 23) 1
abbrev ZA1 : Stmt := ZAv (top 23) 2
abbrev ZAq : Stmt := ZAv (top 26) 0
abbrev ZAf : Stmt := ZAv (top 26) 1
abbrev ZBi : Stmt := top 28
abbrev ZB4 : Stmt := top 29
abbrev ZBg : Stmt := top 30
abbrev ZB1 : Stmt := top 31
abbrev ZBm : Stmt := top 32
abbrev ZBf : Stmt := top 33
abbrev ZB5 : Stmt := top 34
abbrev ZDK : Stmt := top 35
theorem sc_leap : FnScope ["asker", "order", "first", "place", "low", "high", "wide", "middle"] ["asker", "order", "first", "place"] (ZAC ZC6) := ⟨rfl, rfl, rfl, by decide +kernel, rfl, by decide +kernel, by decide +kernel⟩
theorem sc_Join_init : FnScope ["self", "asker", "left", "right"] ["self", "asker", "left", "right"] (ZAC ZBE) := ⟨rfl, rfl, rfl, by decide +kernel, rfl, by decide +kernel, by decide +kernel⟩
theorem sc_Join_has_more : FnScope ["self", "side"] ["self", "side"] (ZAC ZAt) := ⟨rfl, rfl, rfl, by decide +kernel, rfl, by decide +kernel, by decide +kernel⟩
theorem sc_Join_front : FnScope ["self", "side"] ["self", "side"] (ZAC ZA5) := ⟨rfl, rfl, rfl, by decide +kernel, rfl, by decide +kernel, by decide +kernel⟩
theorem sc_Join_take_on : FnScope ["self", "side", "more", "start"] ["self", "side", "more"] (ZAC ZAy) := ⟨rfl, rfl, rfl, by decide +kernel, rfl, by decide +kernel, by decide +kernel⟩
theorem sc_Join_take_rest : FnScope ["self", "side"] ["self", "side"] (ZAC ZAp) := ⟨rfl, rfl, rfl, by decide +kernel, rfl, by decide +kernel, by decide +kernel⟩
theorem sc_Join_win : FnScope ["self", "side"] ["self"] (ZAC ZBR) := ⟨rfl, rfl, rfl, by decide +kernel, rfl, by decide +kernel, by decide +kernel⟩
theorem sc_Join_leap_on : FnScope ["self", "side", "other"] ["self", "side"] (ZAC ZAz) := ⟨rfl, rfl, rfl, by decide +kernel, rfl, by decide +kernel, by decide +kernel⟩
theorem sc_joined : FnScope ["asker", "left", "right", "join", "wins", "winner", "side"] ["asker", "left", "right"] (ZAC ZB2) := ⟨rfl, rfl, rfl, by decide +kernel, rfl, by decide +kernel, by decide +kernel⟩
theorem sc_stretch_from : FnScope ["asker", "first", "end", "stop", "beyond", "falling"] ["asker", "first", "end"] (ZAC ZAx) := ⟨rfl, rfl, rfl, by decide +kernel, rfl, by decide +kernel, by decide +kernel⟩
theorem sc_in_turn : FnScope ["first", "beyond", "falling", "places"] ["first", "beyond", "falling"] (ZAC ZBh) := ⟨rfl, rfl, rfl, by decide +kernel, rfl, by decide +kernel, by decide +kernel⟩
theorem sc_spot_of : FnScope ["asker", "order", "place", "low", "high", "middle"] ["asker", "order", "place"] (ZAC ZBe) := ⟨rfl, rfl, rfl, by decide +kernel, rfl, by decide +kernel, by decide +kernel⟩
theorem sc_filled : FnScope ["asker", "first", "least", "end", "stop", "part", "found", "order", "place"] ["asker", "first", "least", "end"] (ZAC ZB3) := ⟨rfl, rfl, rfl, by decide +kernel, rfl, by decide +kernel, by decide +kernel⟩
theorem sc_grade : FnScope ["many", "first", "middle", "beyond", "lower", "upper", "found"] ["many", "first", "middle", "beyond"] (ZAC ZCb) := ⟨rfl, rfl, rfl, by decide +kernel, rfl, by decide +kernel, by decide +kernel⟩
theorem sc_Pile_init : FnScope ["self", "asker", "least", "part"] ["self", "asker", "least", "part"] (ZAC ZBD) := ⟨rfl, rfl, rfl, by decide +kernel, rfl, by decide +kernel, by decide +kernel⟩
theorem sc_Pile_beyond_of : FnScope ["self", "number"] ["self", "number"] (ZAC ZAo) := ⟨rfl, rfl, rfl, by decide +kernel, rfl, by decide +kernel, by decide +kernel⟩
theorem sc_Pile_is_due_beneath : FnScope ["self"] ["self"] (ZAC ZAX) := ⟨rfl, rfl, rfl, by decide +kernel, rfl, by decide +kernel, by decide +kernel⟩
theorem sc_Pile_join_two : FnScope ["self", "lower", "order", "deed"] ["self", "lower"] (ZAC ZAs) := ⟨rfl, rfl, rfl, by decide +kernel, rfl, by decide +kernel, by decide +kernel⟩
theorem sc_Pile_grade_on_top : FnScope ["self", "middle", "beyond"] ["self", "middle", "beyond"] (ZAC ZAb) := ⟨rfl, rfl, rfl, by decide +kernel, rfl, by decide +kernel, by decide +kernel⟩
theorem sc_Pile_lay : FnScope ["self", "first", "found", "beyond"] ["self"] (ZAC ZBQ) := ⟨rfl, rfl, rfl, by decide +kernel, rfl, by decide +kernel, by decide +kernel⟩
theorem sc_Pile_step : FnScope ["self"] ["self"] (ZAC ZBC) := ⟨rfl, rfl, rfl, by decide +kernel, rfl, by decide +kernel, by decide +kernel⟩
theorem sc_Pile_paper : FnScope ["self", "told", "order"] ["self"] (ZAC ZA4) := ⟨rfl, rfl, rfl, by decide +kernel, rfl, by decide +kernel, by decide +kernel⟩
theorem sc_Asker_init : FnScope ["self", "row", "rule", "most"] ["self", "row", "rule", "most"] (ZAC ZA7) := ⟨rfl, rfl, rfl, by decide +kernel, rfl, by decide +kernel, by decide +kernel⟩
theorem sc_Asker_many : FnScope ["self"] ["self"] (ZAC ZA6) := ⟨rfl, rfl, rfl, by decide +kernel, rfl, by decide +kernel, by decide +kernel⟩
theorem sc_Asker_ahead : FnScope ["self", "p", "q", "later", "earlier", "said"] ["self", "p", "q"] (ZAC ZA1) := ⟨rfl, rfl, rfl, by decide +kernel, rfl, by decide +kernel, by decide +kernel⟩
theorem sc_AskedRule_init : FnScope ["self", "teller"] ["self", "teller"] (ZAC ZAq) := ⟨rfl, rfl, rfl, by decide +kernel, rfl, by decide +kernel, by decide +kernel⟩
theorem sc_AskedRule_before : FnScope ["self", "x", "y", "teller"] ["self", "x", "y"] (ZAC ZAf) := ⟨rfl, rfl, rfl, by decide +kernel, rfl, by decide +kernel, by decide +kernel⟩
theorem sc_cell_at : FnScope ["_law_script", "_law_k"] ["_law_script", "_law_k"] (ZAC ZBi) := ⟨rfl, rfl, rfl, by decide +kernel, rfl, by decide +kernel, by decide +kernel⟩
theorem sc_blocks : FnScope ["_law_keys", "_law_one", "_law_two", "_law_row", "_law_k", "_law_block"] ["_law_keys", "_law_one", "_law_two"] (ZAC ZB4) := ⟨rfl, rfl, rfl, by decide +kernel, rfl, by decide +kernel, by decide +kernel⟩
theorem sc_keys_by : FnScope ["_law_script", "_law_many", "_law_most", "_law_number", "_law_keys", "_law_k"] ["_law_script", "_law_many", "_law_most"] (ZAC ZBg) := ⟨rfl, rfl, rfl, by decide +kernel, rfl, by decide +kernel, by decide +kernel⟩
theorem sc_row_by : FnScope ["_law_script", "_law_many", "_law_keys", "_law_way", "_law_one", "_law_two"] ["_law_script"] (ZAC ZB1) := ⟨rfl, rfl, rfl, by decide +kernel, rfl, by decide +kernel, by decide +kernel⟩
theorem sc_teller : FnScope ["_law_written", "_law_ask"] ["_law_written"] (ZAC ZBm) := ⟨rfl, rfl, rfl, by decide +kernel, rfl, by decide +kernel, by decide +kernel⟩
theorem sc_part_by : FnScope ["_law_cell", "_law_many", "_law_low"] ["_law_cell", "_law_many"] (ZAC ZBf) := ⟨rfl, rfl, rfl, by decide +kernel, rfl, by decide +kernel, by decide +kernel⟩
theorem sc_beside : FnScope ["_law_step", "_law_row", "_law_least", "_law_part", "_law_paper", "_law_written", "_law_asker", "_law_left", "_law_right"] ["_law_step", "_law_row", "_law_least", "_law_part", "_law_paper", "_law_written"] (ZAC ZB5) := ⟨rfl, rfl, rfl, by decide +kernel, rfl, by decide +kernel, by decide +kernel⟩
theorem sc_law : FnScope ["_law_script", "_law_row", "_law_least", "_law_part", "_law_written", "_law_pile", "_law_paper", "_law_step", "_law_beside_here", "_law_told"] ["_law_script"] (ZAC ZDK) := ⟨rfl, rfl, rfl, by decide +kernel, rfl, by decide +kernel, by decide +kernel⟩
abbrev ZAI : Stmt := inBody ZBm 0
theorem csc_teller : CloScope ["_law_one", "_law_other", "_law_written"] ["_law_one", "_law_other"] ["_law_written"] (ZAC ZAI) := ⟨rfl, rfl, rfl, by decide +kernel, rfl, rfl, by decide, by decide +kernel, by decide +kernel, by decide +kernel, fun x h => (show ∀ y ∈ (ZAC ZAI).names, y.2 = .free -> y.1 ∈ (["_law_written"] : List Str) by decide +kernel) _ (PySem.mem_of_lookup h) rfl⟩
structure Bt (K : W.Frag) (mg : Str -> Option Value) (C_Join C_Pile C_Asker C_AskedRule : Addr) : Prop where
  b_len : mg "len" = none
  b_range : mg "range" = none
  b_list : mg "list" = none
  b_max : mg "max" = none
  b_min : mg "min" = none
  b_abs : mg "abs" = none
  b_sorted : mg "sorted" = none
  b_ValueError : mg "ValueError" = none
  c_LEFT : ∃ t, mg "LEFT" = some (.int 0 t)
  c_RIGHT : ∃ t, mg "RIGHT" = some (.int 1 t)
  c_WINS_TO_LEAP : ∃ t, mg "WINS_TO_LEAP" = some (.int 4 t)
  m_Join : mg "Join" = some (.ref C_Join)
  cl_Join : Cls K C_Join
  n_Join_asker : NoAttr K C_Join "asker"
  n_Join_sides : NoAttr K C_Join "sides"
  n_Join_taken : NoAttr K C_Join "taken"
  n_Join_places : NoAttr K C_Join "places"
  m_Pile : mg "Pile" = some (.ref C_Pile)
  cl_Pile : Cls K C_Pile
  n_Pile_asker : NoAttr K C_Pile "asker"
  n_Pile_least : NoAttr K C_Pile "least"
  n_Pile_start : NoAttr K C_Pile "start"
  n_Pile_end : NoAttr K C_Pile "end"
  n_Pile_reached : NoAttr K C_Pile "reached"
  n_Pile_firsts : NoAttr K C_Pile "firsts"
  n_Pile_orders : NoAttr K C_Pile "orders"
  n_Pile_grades : NoAttr K C_Pile "grades"
  m_Asker : mg "Asker" = some (.ref C_Asker)
  cl_Asker : Cls K C_Asker
  n_Asker_row : NoAttr K C_Asker "row"
  n_Asker_rule : NoAttr K C_Asker "rule"
  n_Asker_most : NoAttr K C_Asker "most"
  n_Asker_asked : NoAttr K C_Asker "asked"
  n_Asker_told : NoAttr K C_Asker "told"
  m_AskedRule : mg "AskedRule" = some (.ref C_AskedRule)
  cl_AskedRule : Cls K C_AskedRule
  n_AskedRule_teller : NoAttr K C_AskedRule "teller"
  kit_int_bool : PySem.W.kitOne K (.type "int") (.type "bool") = some false
def cellOf (ns : List Int) (k : Int) : Int := if k < (ns.length : Int) then (ns[k.toNat]?).getD 0 else 0
def ZDV (K : W.Frag) : Sp := fun vs H Q _ => ∃ (a : Addr) (ns : List Int) (k : Int), vs = [.ref a, .int k] /\ SqL K H a (ns.map V.int) /\ 0 <= k /\ Q (.int (cellOf ns k)) H
def ZDh : Sp := fun vs H Q _ => ∃ m a b c : Int, vs = [.int m, .int a, .int b, .int c] /\ 1 < m /\ m < 2 ^ 240 /\ 0 <= a /\ a < b /\ b < c /\ c <= m /\ ∀ g : Nat, Gr.IsG m (a + b) (b + c) g -> g <= 240 -> Q (.int g) H
theorem pow240 {p : Nat} {m : Int} (hm : m < 2 ^ 240) (hp : 240 <= p) : m <= 2 ^ p := by
  obtain ⟨d, rfl⟩ : ∃ d, p = 240 + d := ⟨p - 240, by omega⟩
  have h1 : (1 : Int) <= 2 ^ d := Gr.p2pos d
  rw [Int.pow_add]
  have h2 : (2 : Int) ^ 240 * 1 <= 2 ^ 240 * 2 ^ d := Int.mul_le_mul_of_nonneg_left h1 (by decide)
  omega
theorem dbl (x : Int) (p : Nat) : 2 * (x * 2 ^ p) = x * 2 ^ (p + 1) := by rw [Int.pow_succ, Int.mul_comm 2, Int.mul_assoc]
theorem smallL {n : Nat} (h : n <= 90000) : n < sizeLine := Nat.lt_of_le_of_lt h (by decide)
abbrev fA (rl ru : Addr) (m : V) (n : Int) (tl : Addr) : List (Str × V) := [("told", .ref tl), ("asked", .int n), ("most", m), ("rule", .ref ru), ("row", .ref rl)]
abbrev fR (g : Addr) : List (Str × V) := [("teller", .ref g)]
def ZBl (CA : Addr) : Sp := fun vs H Q _ => ∃ (x dx r : Addr) (ru : Addr) (m : V) (xs : List V), vs = [.ref x, .ref r, .ref ru, m] /\ H x = some (.ins CA dx []) /\ H r = some (.lst xs) /\
  ∀ rl tl H', (∀ b o, b ≠ x -> H b = some o -> H' b = some o) -> H rl = none -> H tl = none -> rl ≠ tl -> Ins H' x CA (fA rl ru m 0 tl) -> H' rl = some (.lst xs) -> H' tl = some (.lst []) -> Q .non H'
def ZDT (CA : Addr) : Sp := fun vs H Q _ => ∃ (a rl ru tl : Addr) (m : V) (n : Int) (xs : List V), vs = [.ref a] /\ Ins H a CA (fA rl ru m n tl) /\ H rl = some (.lst xs) /\ Q (.int xs.length) H
def ZB0 (CR : Addr) : Sp := fun vs H Q _ => ∃ (x dx g : Addr), vs = [.ref x, .ref g] /\ H x = some (.ins CR dx []) /\ ∀ H', (∀ b o, b ≠ x -> H b = some o -> H' b = some o) -> Ins H' x CR (fR g) -> Q .non H'
def ZCi (CR : Addr) (r : V -> List V -> Hp -> VK -> Prop) : Sp := fun vs H Q _ => ∃ (ru g : Addr) (x y : V), vs = [.ref ru, x, y] /\ Ins H ru CR (fR g) /\ (∃ o, H g = some (FZ o) /\ ∃ fd, o.data = .func fd) /\ r (.ref g) [x, y] H Q
def ZCF (CA CR : Addr) (r : V -> List V -> Hp -> VK -> Prop) : Sp := fun vs H Q _ => ∃ (a rl ru tl : Addr) (n p q : Int) (xs ts : List V) (x y : V), vs = [.ref a, .int p, .int q] /\ Ins H a CA (fA rl ru .non n tl) /\ H rl = some (.lst xs) /\ p ≠ q /\ 0 <= p /\ 0 <= q /\
  xs[(max p q).toNat]? = some x /\ xs[(min p q).toNat]? = some y /\ ZCi CR r [.ref ru, x, y] H (fun v H1 => ∃ b, v = .bl b /\ Ins H1 a CA (fA rl ru .non n tl) /\ H1 tl = some (.lst ts) /\ ts.length <= 90000 /\
    ∀ t H2, H1 t = none -> Ins H2 a CA (fA rl ru .non (n + 1) tl) -> H2 tl = some (.lst (ts ++ [.ref t])) -> H2 t = some (.tup [.int (max p q), .int (min p q), .bl b]) -> (∀ c, c ≠ a -> c ≠ tl -> c ≠ t -> H2 c = H1 c) -> Q (.bl (if q < p then b else !b)) H2) E0
theorem fA_canon {rl ru tl : Addr} {m : V} {n : Int} : ∀ f, (putF "told" (.ref tl) (putF "asked" (.int n) (putF "most" m (putF "rule" (.ref ru) (putF "row" (.ref rl) []))))).lookup f = (fA rl ru m n tl).lookup f := fun f => by
  simp only [ZAc, lkc]
theorem fA_asked {rl ru tl : Addr} {m : V} {n k : Int} : ∀ f, (putF "asked" (.int k) (fA rl ru m n tl)).lookup f = (fA rl ru m k tl).lookup f := fun f => by
  rw [ZAc]
  by_cases h : f = ("asked" : Str)
  . subst h
    rw [if_pos rfl]
    exact (show List.lookup _ (fA rl ru m k tl) = some (.int k) by walk_at "lk").symm
  . simp only [lkc, h, if_false]
def kat (ks : List Int) (p : Nat) : Int := (ks[p]?).getD 0
structure Told (H : Hp) (ks : List Int) (pr : List (Nat × Nat)) (ts : List V) : Prop where
  len : ts.length = pr.length
  get : ∀ (j p q : Nat), pr[j]? = some (p, q) -> ∃ t, ts[j]? = some (V.ref t) /\ H t = some (.tup [.int p, .int q, .bl (decide (kat ks p < kat ks q))])
theorem Told.keep {H H' : Hp} {ks : List Int} {pr : List (Nat × Nat)} {ts : List V} (e : ∀ t x, H t = some (.tup x) -> H' t = some (.tup x)) (h : Told H ks pr ts) : Told H' ks pr ts :=
  ⟨h.len, fun j p q hj => let ⟨t, a, b⟩ := h.get j p q hj; ⟨t, a, e _ _ b⟩⟩
theorem Told.snoc {H : Hp} {ks : List Int} {pr : List (Nat × Nat)} {ts : List V} {p q : Nat} {t : Addr} (h : Told H ks pr ts) (ht : H t = some (.tup [.int p, .int q, .bl (decide (kat ks p < kat ks q))])) : Told H ks (pr ++ [(p, q)]) (ts ++ [.ref t]) := by
  refine ⟨by rw [yAA, yAA, h.len]; rfl, fun j p' q' hj => ?_⟩
  by_cases hl : j < pr.length
  . rw [yBB hl] at hj
    obtain ⟨t', a, b⟩ := h.get j p' q' hj
    exact ⟨t', by rw [yBB (by rw [h.len]; exact hl)]; exact a, b⟩
  . have e := (yAH.mp hj).1
    rw [yAA] at e
    have hj' : j = pr.length := by have : ([(p, q)] : List (Nat × Nat)).length = 1 := rfl; omega
    subst hj'
    rw [yBA (yAB _), yBH] at hj
    cases hj
    exact ⟨t, by rw [<- h.len, yBA (yAB _), yBH]; rfl, ht⟩
theorem ZCx {H H' : Hp} {S : List Addr} {a C : Addr} {fl : List (Str × V)} (e : Fr S H H') (n : a ∉ S) (h : Ins H a C fl) : Ins H' a C fl := let ⟨dx, fs, h1, h2, h3⟩ := h.ex; ⟨dx, fs, e _ _ n h1, h2, h3⟩
def rTL (iname iq : Str) (ip : Arguments) (ib : List Stmt) (isc : Scope) : V -> List V -> Hp -> VK -> Prop := fun f vs H Q => ∃ (g x y lg : Addr) (k k' i j : Int) (ws : List V), f = .ref g /\ vs = [.ref x, .ref y] /\ Clo H g iname iq ip ib isc ["_law_written"] [.ref lg] /\ H x = some (.tup [.int k, .int i]) /\ H y = some (.tup [.int k', .int j]) /\ H lg = some (.lst ws) /\ ws.length <= 90000 /\
  ∀ t, H t = none -> Q (.bl (decide (k < k'))) (upd (upd H t (.tup [.int i, .int j])) lg (.lst (ws ++ [.ref t])))
theorem rT_mono {iname iq : Str} {ip : Arguments} {ib : List Stmt} {isc : Scope} {f : V} {vs : List V} {H : Hp} {Q Q' : VK} (m : ∀ v H, Q v H -> Q' v H) (h : rTL iname iq ip ib isc f vs H Q) : rTL iname iq ip ib isc f vs H Q' :=
  let ⟨g, x, y, lg, k, k', i, j, ws, e1, e2, h1, h2, h3, h4, h5, q⟩ := h; ⟨g, x, y, lg, k, k', i, j, ws, e1, e2, h1, h2, h3, h4, h5, fun t ht => m _ _ (q t ht)⟩
abbrev ZBF : V -> List V -> Hp -> VK -> Prop := rTL "_law_ask" "_law_teller.<locals>._law_ask" (ZAN ZAI) (ZAL ZAI) (ZAC ZAI)
structure RowC where
  v : List V
  c : Nat
structure Prs (H : Hp) (qr : List (Nat × Nat)) (ws : List V) : Prop where
  len : ws.length = qr.length
  get : ∀ (j p q : Nat), qr[j]? = some (p, q) -> ∃ t, ws[j]? = some (V.ref t) /\ H t = some (.tup [.int p, .int q])
theorem Prs.keep {H H' : Hp} {pr : List (Nat × Nat)} {ts : List V} (e : ∀ t x, H t = some (.tup x) -> H' t = some (.tup x)) (h : Prs H pr ts) : Prs H' pr ts :=
  ⟨h.len, fun j p q hj => let ⟨t, a, b⟩ := h.get j p q hj; ⟨t, a, e _ _ b⟩⟩
theorem Prs.snoc {H : Hp} {pr : List (Nat × Nat)} {ts : List V} {p q : Nat} {t : Addr} (h : Prs H pr ts) (ht : H t = some (.tup [.int p, .int q])) : Prs H (pr ++ [(p, q)]) (ts ++ [.ref t]) := by
  refine ⟨by rw [yAA, yAA, h.len]; rfl, fun j p' q' hj => ?_⟩
  by_cases hl : j < pr.length
  . rw [yBB hl] at hj
    obtain ⟨t', a, b⟩ := h.get j p' q' hj
    exact ⟨t', by rw [yBB (by rw [h.len]; exact hl)]; exact a, b⟩
  . have e := (yAH.mp hj).1
    rw [yAA] at e
    have hj' : j = pr.length := by have : ([(p, q)] : List (Nat × Nat)).length = 1 := rfl; omega
    subst hj'
    rw [yBA (yAB _), yBH] at hj
    cases hj
    exact ⟨t, by rw [<- h.len, yBA (yAB _), yBH]; rfl, ht⟩
structure Lgd (H : Hp) (c : Nat) (pr : List (Nat × Nat)) (ws : List V) : Prop where
  hc : c <= pr.length
  prs : Prs H (pr.drop c) ws
theorem Lgd.keep {H H' : Hp} {c : Nat} {pr : List (Nat × Nat)} {ts : List V} (e : ∀ t x, H t = some (.tup x) -> H' t = some (.tup x)) (h : Lgd H c pr ts) : Lgd H' c pr ts := ⟨h.hc, h.prs.keep e⟩
theorem Lgd.snoc {H : Hp} {c : Nat} {pr : List (Nat × Nat)} {ts : List V} {p q : Nat} {t : Addr} (h : Lgd H c pr ts) (ht : H t = some (.tup [.int p, .int q])) : Lgd H c (pr ++ [(p, q)]) (ts ++ [.ref t]) :=
  ⟨by rw [yAA]; have := h.hc; omega, by rw [List.drop_append_of_le_length h.hc]; exact h.prs.snoc ht⟩
theorem Lgd.len {H : Hp} {c : Nat} {pr : List (Nat × Nat)} {ts : List V} (h : Lgd H c pr ts) : ts.length <= pr.length := by rw [h.prs.len, yAU]; omega
structure SitL (CA CR : Addr) (H : Hp) (ks : List Int) (xs : RowC) (a rl ru tl g lg : Addr) (pr : List (Nat × Nat)) : Prop where
  ha : Ins H a CA (fA rl ru .non pr.length tl)
  hrl : H rl = some (.lst xs.v)
  hru : Ins H ru CR (fR g)
  clo : Clo H g "_law_ask" "_law_teller.<locals>._law_ask" (ZAN ZAI) (ZAL ZAI) (ZAC ZAI) ["_law_written"] [.ref lg]
  len : xs.v.length = ks.length
  row : ∀ (i : Nat) k, ks[i]? = some k -> ∃ r, xs.v[i]? = some (V.ref r) /\ H r = some (.tup [.int k, .int i])
  hlg : ∃ ws, H lg = some (.lst ws) /\ Lgd H xs.c pr ws
  htl : ∃ ts, H tl = some (.lst ts) /\ Told H ks pr ts
  ne : lg ≠ tl /\ rl ∉ [a, lg, tl] /\ ru ≠ a
section
variable {CA CR : Addr} {H H' : Hp} {ks : List Int} {xs : RowC} {a rl ru tl g lg : Addr} {pr : List (Nat × Nat)}
theorem SitL.tupS (h : SitL CA CR H ks xs a rl ru tl g lg pr) {b : Addr} {o : HO} (hb : H b = some o) (n1 : ∀ x, o ≠ .lst x) (n2 : ∀ C d f, o ≠ .ins C d f) : b ∉ [a, lg, tl] := by
  obtain ⟨ws, hlg, _⟩ := h.hlg
  obtain ⟨ts, htl, _⟩ := h.htl
  intro z
  rcases yAE.mp z with z | z
  . exact h.ha.ne hb n2 z
  rcases yAE.mp z with z | z
  . rw [z, hlg] at hb; exact n1 _ (Option.some.inj hb).symm
  . rw [yAR.mp z, htl] at hb; exact n1 _ (Option.some.inj hb).symm
theorem SitL.ruS (h : SitL CA CR H ks xs a rl ru tl g lg pr) : ru ∉ [a, lg, tl] := by
  obtain ⟨ws, hlg, _⟩ := h.hlg
  obtain ⟨ts, htl, _⟩ := h.htl
  obtain ⟨d1, f1, e1, _⟩ := h.hru.ex
  intro z
  rcases yAE.mp z with z | z
  . exact h.ne.2.2 z
  rcases yAE.mp z with z | z
  . rw [z, hlg] at e1; cases e1
  . rw [yAR.mp z, htl] at e1; cases e1
theorem SitL.keep (h : SitL CA CR H ks xs a rl ru tl g lg pr) (e : Fr [a, lg, tl] H H') {pr' : List (Nat × Nat)} {ts' ws' : List V} (h1 : Ins H' a CA (fA rl ru .non pr'.length tl)) (h2 : H' tl = some (.lst ts')) (h3 : Told H' ks pr' ts') (h4 : H' lg = some (.lst ws')) (h5 : Lgd H' xs.c pr' ws') : SitL CA CR H' ks xs a rl ru tl g lg pr' where
  ha := h1
  hrl := e _ _ h.ne.2.1 h.hrl
  hru := ZCx e h.ruS h.hru
  clo := h.clo.mono fun b o hb => e _ _ (h.tupS hb (fun _ z => by cases z) (fun _ _ _ z => by cases z)) hb
  len := h.len
  row := fun i k hk => let ⟨r, a1, a2⟩ := h.row i k hk; ⟨r, a1, e _ _ (h.tupS a2 (fun _ z => by cases z) (fun _ _ _ z => by cases z)) a2⟩
  hlg := ⟨_, h4, h5⟩
  htl := ⟨_, h2, h3⟩
  ne := h.ne
theorem SitL.mono (h : SitL CA CR H ks xs a rl ru tl g lg pr) (e : Same H H') : SitL CA CR H' ks xs a rl ru tl g lg pr :=
  let ⟨_, h2, h3⟩ := h.htl; let ⟨_, h4, h5⟩ := h.hlg; h.keep e.fr (h.ha.mono e) (e _ _ h2) (h3.keep fun _ _ z => e _ _ z) (e _ _ h4) (h5.keep fun _ _ z => e _ _ z)
theorem SitL.ahead (h : SitL CA CR H ks xs a rl ru tl g lg pr) {p q : Nat} (hpq : p ≠ q) (hp : p < ks.length) (hq : q < ks.length) (hpr : pr.length <= 80000) {Q : VK}
    (fin : ∀ H', Fr [a, lg, tl] H H' -> SitL CA CR H' ks xs a rl ru tl g lg (pr ++ [(max p q, min p q)]) -> Q (.bl (if q < p then decide (kat ks p < kat ks q) else !decide (kat ks q < kat ks p))) H') : ZCF CA CR ZBF [.ref a, .int p, .int q] H Q E0 := by
  obtain ⟨ws, hlg, hws⟩ := h.hlg
  obtain ⟨ts, htl, hts⟩ := h.htl
  have hmx : max p q < ks.length := by omega
  have hmn : min p q < ks.length := by omega
  obtain ⟨x, hx, tx⟩ := h.row (max p q) _ (yAQ hmx)
  obtain ⟨y, hy, ty⟩ := h.row (min p q) _ (yAQ hmn)
  have emx : (max (p : Int) q).toNat = max p q := by omega
  have emn : (min (p : Int) q).toNat = min p q := by omega
  have kx : ks[max p q] = kat ks (max p q) := by unfold kat; rw [yAQ hmx]; rfl
  have ky' : ks[min p q] = kat ks (min p q) := by unfold kat; rw [yAQ hmn]; rfl
  refine ⟨a, rl, ru, tl, pr.length, p, q, xs.v, ts, .ref x, .ref y, rfl, h.ha, h.hrl, by omega, by omega, by omega, by rw [emx]; exact hx, by rw [emn]; exact hy, ?_⟩
  obtain ⟨cl, C⟩ := h.clo
  obtain ⟨d1, d2, d3, d4, ho, _⟩ := C.obj
  refine ⟨ru, g, .ref x, .ref y, rfl, h.hru, ⟨_, ho, _, rfl⟩, ?_⟩
  rw [kx] at tx
  rw [ky'] at ty
  refine ⟨g, x, y, lg, _, _, _, _, ws, rfl, rfl, h.clo, tx, ty, hlg, by have := hws.len; omega, fun t ht => ?_⟩
  have nta : t ≠ a := h.ha.neN ht
  have ntg : lg ≠ t := ZAD hlg ht
  have ntl : tl ≠ t := ZAD htl ht
  have nlg : lg ≠ tl := h.ne.1
  have nga : lg ≠ a := h.ha.ne hlg fun _ _ _ z => by cases z
  refine ⟨_, rfl, h.ha.keep (by rw [ZAH (Ne.symm nga), ZAH (Ne.symm nta)]), by rw [ZAH (Ne.symm nlg), ZAH ntl]; exact htl, by rw [hts.len]; omega, fun t2 H2 hn2 ha2 htl2 ht2 k2 => ?_⟩
  have n2l : t2 ≠ lg := fun z => by rw [z, ZAG] at hn2; cases hn2
  have n2t : t2 ≠ t := fun z => by rw [z, ZAH (Ne.symm ntg), ZAG] at hn2; cases hn2
  have fr : Fr [a, lg, tl] H H2 := fun b o n hb => by
    have m1 : b ≠ a := fun z => n (by rw [z]; exact yAF)
    have m2 : b ≠ lg := fun z => n (by rw [z]; exact yAC _ yAF)
    have m3 : b ≠ tl := fun z => n (by rw [z]; exact yAC _ (yAC _ yAF))
    have e1 : (upd (upd H t (.tup [.int ((max p q : Nat) : Int), .int ((min p q : Nat) : Int)])) lg (.lst (ws ++ [.ref t]))) b = some o := by rw [ZAH m2, ZAH (ZAD hb ht)]; exact hb
    rw [k2 b m1 m3 (ZAD e1 hn2)]
    exact e1
  have tk : ∀ b x, H b = some (.tup x) -> H2 b = some (.tup x) := fun b x hb => fr _ _ (h.tupS hb (fun _ z => by cases z) (fun _ _ _ z => by cases z)) hb
  have hlg2 : H2 lg = some (.lst (ws ++ [.ref t])) := by rw [k2 lg nga nlg (Ne.symm n2l), ZAG]
  have ht' : H2 t = some (.tup [.int ((max p q : Nat) : Int), .int ((min p q : Nat) : Int)]) := by rw [k2 t nta (Ne.symm ntl) (Ne.symm n2t), ZAH (Ne.symm ntg), ZAG]
  have ht2' : H2 t2 = some (.tup [.int ((max p q : Nat) : Int), .int ((min p q : Nat) : Int), .bl (decide (kat ks (max p q) < kat ks (min p q)))]) := by
    rw [show (((max p q : Nat) : Int)) = max (p : Int) q by omega, show (((min p q : Nat) : Int)) = min (p : Int) q by omega]
    exact ht2
  have st := h.keep fr (pr' := pr ++ [(max p q, min p q)]) (by rw [yAA]; exact ha2) htl2 ((hts.keep tk).snoc ht2') hlg2 ((hws.keep tk).snoc ht')
  have g' := fin H2 fr st
  by_cases hlt : q < p
  . rw [if_pos hlt] at g'
    rw [if_pos (by omega), show max p q = p by omega, show min p q = q by omega]
    exact g'
  . rw [if_neg hlt] at g'
    rw [if_neg (by omega), show max p q = q by omega, show min p q = p by omega]
    exact g'
theorem SitL.newS (h : SitL CA CR H ks xs a rl ru tl g lg pr) {b : Addr} (hb : H b = none) : b ∉ [a, lg, tl] := fun z => by
  obtain ⟨ws, h1, _⟩ := h.hlg
  obtain ⟨us, h2, _⟩ := h.htl
  rcases yAE.mp z with z | z
  . exact h.ha.neN hb z
  rcases yAE.mp z with z | z
  . rw [z, h1] at hb; cases hb
  . rw [yAR.mp z, h2] at hb; cases hb
theorem SitL.butT (h : SitL CA CR H ks xs a rl ru tl g lg pr) (e : ∀ b o, H b = some o -> (∀ t, o ≠ .tbl t) -> H' b = some o) : SitL CA CR H' ks xs a rl ru tl g lg pr := by
  have ki : ∀ {b C : Addr} {fl : List (Str × V)}, Ins H b C fl -> Ins H' b C fl := fun hi => let ⟨dx, fs, h1, h2, h3⟩ := hi.ex; ⟨dx, fs, e _ _ h1 (fun _ z => by cases z), h2, h3⟩
  obtain ⟨ws, h4, h5⟩ := h.hlg
  obtain ⟨us, h6, h7⟩ := h.htl
  exact ⟨ki h.ha, e _ _ h.hrl (fun _ z => by cases z), ki h.hru, h.clo.mono (fun b o hb => e _ _ hb (fun _ z => by cases z)), h.len, fun i k hk => let ⟨r, a1, a2⟩ := h.row i k hk; ⟨r, a1, e _ _ a2 (fun _ z => by cases z)⟩, ⟨ws, e _ _ h4 (fun _ z => by cases z), h5.keep fun _ _ z => e _ _ z (fun _ y => by cases y)⟩, ⟨us, e _ _ h6 (fun _ z => by cases z), h7.keep fun _ _ z => e _ _ z (fun _ y => by cases y)⟩, h.ne⟩
end
def dec (ks : List Int) (i : Nat) : Bool := decide (kat ks i < kat ks (i - 1))
def Beyond (ks : List Int) (first stop j : Nat) (f : Bool) : Prop :=
  (first + 1 = stop /\ j = stop /\ f = false) ∨ (first + 1 < stop /\ f = dec ks (first + 1) /\ first + 1 < j /\ j <= stop /\ (∀ i, first + 1 <= i -> i < j -> dec ks i = f) /\ (j < stop -> dec ks j ≠ f))
theorem Beyond.uniq {ks : List Int} {first stop j j' : Nat} {f f' : Bool} (h : Beyond ks first stop j f) (h' : Beyond ks first stop j' f') : j = j' /\ f = f' := by
  rcases h with ⟨a, b, c⟩ | ⟨a, b, c, d, e, g⟩ <;> rcases h' with ⟨a', b', c'⟩ | ⟨a', b', c', d', e', g'⟩
  . exact ⟨b.trans b'.symm, c.trans c'.symm⟩
  . omega
  . omega
  . have ef : f = f' := b.trans b'.symm
    subst ef
    refine ⟨?_, rfl⟩
    rcases Nat.lt_trichotomy j j' with z | z | z
    . exact absurd (e' j (by omega) z) (g (by omega))
    . exact z
    . exact absurd (e j' (by omega) z) (g' (by omega))
def asks (first e : Nat) : List (Nat × Nat) := (List.range' (first + 1) (e - (first + 1))).map fun k => (k, k - 1)
theorem ZDR (first e : Nat) : (asks first e).length = e - (first + 1) := by unfold asks; rw [yAD, yCJ]
theorem asks_snoc {first k : Nat} (h : first + 1 <= k) : asks first (k + 1) = asks first k ++ [(k, k - 1)] := by
  unfold asks
  rw [show k + 1 - (first + 1) = (k - (first + 1)) + 1 by omega, List.range'_concat, yAO]
  congr 1
  show [(first + 1 + 1 * (k - (first + 1)), first + 1 + 1 * (k - (first + 1)) - 1)] = _
  rw [show first + 1 + 1 * (k - (first + 1)) = k by omega]
theorem asks_none {first e : Nat} (h : e <= first + 1) : asks first e = [] := by unfold asks; rw [show e - (first + 1) = 0 by omega]; rfl
def ZCX (CA CR : Addr) : Sp := fun vs H Q _ => ∃ (ks : List Int) (xs : RowC) (a rl ru tl g lg : Addr) (pr : List (Nat × Nat)) (first stop : Nat) (e : V), vs = [.ref a, .int first, e] /\ SitL CA CR H ks xs a rl ru tl g lg pr /\ ((e = .non /\ stop = ks.length) ∨ e = .int stop) /\ first < stop /\ stop <= ks.length /\ ks.length <= 119 /\ pr.length <= 50000 /\
  ∀ H' t j f, Fr [a, lg, tl] H H' -> H' t = some (.tup [.int (j : Nat), .bl f]) -> Beyond ks first stop j f -> SitL CA CR H' ks xs a rl ru tl g lg (pr ++ asks first (min (j + 1) stop)) -> Q (.ref t) H'
def ZBk (first j : Nat) (f : Bool) : List Nat := if f = true then (List.range' first (j - first)).reverse else List.range' first (j - first)
theorem ZCp (first j : Nat) (f : Bool) : (ZBk first j f).length = j - first := by unfold ZBk; split <;> simp
theorem turnN_mem {first j : Nat} {f : Bool} {x : Nat} : x ∈ ZBk first j f ↔ first <= x /\ x < j := by
  unfold ZBk
  split
  . rw [List.mem_reverse, List.mem_range'_1]; omega
  . rw [List.mem_range'_1]; omega
theorem turnN_up {first j i : Nat} (h : i < j - first) : (ZBk first j false)[i]? = some (first + i) := by
  unfold ZBk
  rw [if_neg (by decide), List.getElem?_range' h, Nat.one_mul]
theorem turnN_down {first j i : Nat} (h : i < j - first) : (ZBk first j true)[i]? = some (j - 1 - i) := by
  unfold ZBk
  rw [if_pos rfl, List.getElem?_reverse (by rw [yCJ]; exact h), yCJ, List.getElem?_range' (by omega), Nat.one_mul]
  congr 1
  omega
abbrev nL (l : List Nat) : List V := l.map fun (x : Nat) => V.int (x : Int)
theorem nL_ints (l : List Nat) : nL l = (l.map fun (x : Nat) => (x : Int)).map V.int := by rw [List.map_map]; rfl
theorem rints_nat {lo hi : Nat} : (ZC1 (lo : Int) (hi : Int)).map V.int = nL (List.range' lo (hi - lo)) := by
  refine List.ext_getElem? fun i => ?_
  unfold nL
  rw [yAY, yAY]
  by_cases h : i < hi - lo
  . rw [List.getElem?_range' h, rints_get (by omega)]
    show some (V.int ((lo : Int) + i)) = some (V.int ((lo + 1 * i : Nat) : Int))
    congr 2
    omega
  . rw [yCG (by rw [ZBt]; omega), yCG (by rw [yCJ]; omega)]
    rfl
def ZDH : Sp := fun vs H Q _ => ∃ (first j : Nat) (f : Bool), vs = [.int first, .int j, .bl f] /\ first <= 1000 /\ j <= 1000 /\ ∀ l H', Same H H' -> H l = none -> H' l = some (.lst (nL (ZBk first j f))) -> Q (.ref l) H'
def lx (ks : List Int) (x y : Nat) : Prop := kat ks x < kat ks y ∨ (kat ks x = kat ks y /\ x < y)
inductive Halv (ks : List Int) (os : List Nat) (pl : Nat) : Nat -> Nat -> Nat -> List (Nat × Nat) -> Prop
  | done {low high : Nat} : ¬ low < high -> Halv ks os pl low high low []
  | less {low high r o : Nat} {l : List (Nat × Nat)} : low < high -> os[(low + high) / 2]? = some o -> kat ks pl < kat ks o -> Halv ks os pl low ((low + high) / 2) r l -> Halv ks os pl low high r ((pl, o) :: l)
  | more {low high r o : Nat} {l : List (Nat × Nat)} : low < high -> os[(low + high) / 2]? = some o -> ¬ kat ks pl < kat ks o -> Halv ks os pl ((low + high) / 2 + 1) high r l -> Halv ks os pl low high r ((pl, o) :: l)
theorem Halv.bounds {ks : List Int} {os : List Nat} {pl low high r : Nat} {l : List (Nat × Nat)} (h : Halv ks os pl low high r l) : low <= high -> low <= r /\ r <= high := by
  induction h with
  | done n => intro h; omega
  | less a _ _ _ ih => intro _; have := ih (by omega); omega
  | more a _ _ _ ih => intro _; have := ih (by omega); omega
theorem Halv.len {ks : List Int} {os : List Nat} {pl low high r : Nat} {l : List (Nat × Nat)} (h : Halv ks os pl low high r l) : l.length <= high - low := by
  induction h with
  | done n => simp
  | less a _ _ _ ih => rw [yAI]; omega
  | more a _ _ _ ih => rw [yAI]; omega
theorem Halv.asked {ks : List Int} {os : List Nat} {pl low high r : Nat} {l : List (Nat × Nat)} (h : Halv ks os pl low high r l) : low <= high ->
    (∀ x, low < r -> os[r - 1]? = some x -> (pl, x) ∈ l) /\ (∀ x, r < high -> os[r]? = some x -> (pl, x) ∈ l) := by
  induction h with
  | done n => intro h; exact ⟨fun x z => by omega, fun x z => by omega⟩
  | @less low high r o l a b c d ih =>
    intro _
    have hb := d.bounds (by omega)
    obtain ⟨i1, i2⟩ := ih (by omega)
    refine ⟨fun x z e => yAC _ (i1 x z e), fun x z e => ?_⟩
    by_cases hr : r < (low + high) / 2
    . exact yAC _ (i2 x hr e)
    . have : r = (low + high) / 2 := by omega
      rw [this, b] at e
      cases e
      exact yAF
  | @more low high r o l a b c d ih =>
    intro _
    have hb := d.bounds (by omega)
    obtain ⟨i1, i2⟩ := ih (by omega)
    refine ⟨fun x z e => ?_, fun x z e => yAC _ (i2 x z e)⟩
    by_cases hr : (low + high) / 2 + 1 < r
    . exact yAC _ (i1 x hr e)
    . have : r - 1 = (low + high) / 2 := by omega
      rw [this, b] at e
      cases e
      exact yAF
theorem Halv.each {ks : List Int} {os : List Nat} {pl low high r : Nat} {l : List (Nat × Nat)} (h : Halv ks os pl low high r l) : ∀ c ∈ l, c.1 = pl /\ c.2 ∈ os := by
  induction h with
  | done n => intro c h; cases h
  | less a b _ _ ih =>
    intro c h
    rcases yAE.mp h with z | z
    . rw [z]; exact ⟨rfl, yAV b⟩
    . exact ih c z
  | more a b _ _ ih =>
    intro c h
    rcases yAE.mp h with z | z
    . rw [z]; exact ⟨rfl, yAV b⟩
    . exact ih c z
theorem ZCQ {ks : List Int} {x y z : Nat} (a : lx ks x y) (b : lx ks y z) : lx ks x z := by unfold lx at *; omega
theorem ZC7 {ks : List Int} {os : List Nat} (h : os.Pairwise (lx ks)) {i j x y : Nat} (hij : i < j) (hx : os[i]? = some x) (hy : os[j]? = some y) : lx ks x y := by
  obtain ⟨h1, e1⟩ := yAH.mp hx
  obtain ⟨h2, e2⟩ := yAH.mp hy
  have := List.pairwise_iff_getElem.mp h i j h1 h2 hij
  rw [e1, e2] at this
  exact this
theorem Halv.spot {ks : List Int} {os : List Nat} {pl low high r : Nat} {l : List (Nat × Nat)} (hs : os.Pairwise (lx ks)) (h : Halv ks os pl low high r l) : low <= high ->
    (∀ i x, low <= i -> i < r -> os[i]? = some x -> ¬ kat ks pl < kat ks x) /\ (∀ i x, r <= i -> i < high -> os[i]? = some x -> kat ks pl < kat ks x) := by
  induction h with
  | done n => intro h; exact ⟨fun i x z1 z2 => by omega, fun i x z1 z2 => by omega⟩
  | @less low high r o l a b c d ih =>
    intro _
    have hb := d.bounds (by omega)
    obtain ⟨i1, i2⟩ := ih (by omega)
    refine ⟨i1, fun i x z1 z2 e => ?_⟩
    by_cases hr : i < (low + high) / 2
    . exact i2 i x z1 hr e
    . by_cases hi : i = (low + high) / 2
      . rw [hi, b] at e; cases e; exact c
      . have := ZC7 hs (show (low + high) / 2 < i by omega) b e
        unfold lx at this
        omega
  | @more low high r o l a b c d ih =>
    intro _
    have hb := d.bounds (by omega)
    obtain ⟨i1, i2⟩ := ih (by omega)
    refine ⟨fun i x z1 z2 e => ?_, i2⟩
    by_cases hr : (low + high) / 2 < i
    . exact i1 i x hr z2 e
    . by_cases hi : i = (low + high) / 2
      . rw [hi, b] at e; cases e; exact c
      . have := ZC7 hs (show i < (low + high) / 2 by omega) e b
        unfold lx at this
        omega
def insN (os : List Nat) (r pl : Nat) : List Nat := os.take r ++ pl :: os.drop r
theorem insN_len {os : List Nat} {r pl : Nat} : (insN os r pl).length = os.length + 1 := by
  unfold insN
  rw [yAA, yAI, yAL, yAU]
  omega
theorem insN_mem {os : List Nat} {r pl x : Nat} : x ∈ insN os r pl ↔ x = pl ∨ x ∈ os := by
  unfold insN
  rw [yBC, yAE]
  have : x ∈ os ↔ x ∈ os.take r ∨ x ∈ os.drop r := by rw [<- yBC, yBK]
  rw [this]
  exact ⟨fun h => h.elim (fun z => .inr (.inl z)) (fun z => z.elim .inl fun z => .inr (.inr z)), fun h => h.elim (fun z => .inr (.inl z)) fun z => z.elim .inl fun z => .inr (.inr z)⟩
theorem insN_sorted {ks : List Int} {os : List Nat} {pl r : Nat} {l : List (Nat × Nat)} (hs : os.Pairwise (lx ks)) (hlt : ∀ x ∈ os, x < pl) (h : Halv ks os pl 0 os.length r l) : (insN os r pl).Pairwise (lx ks) := by
  obtain ⟨s1, s2⟩ := h.spot hs (yAG _)
  have hb := h.bounds (yAG _)
  have hsp : (os.take r ++ os.drop r).Pairwise (lx ks) := by rw [yBK]; exact hs
  obtain ⟨p1, p2, p3⟩ := yBW.mp hsp
  have ha : ∀ x ∈ os.take r, lx ks x pl := fun x hx => by
    obtain ⟨i, hi⟩ := yBF hx
    have hir : i < r := by
      have := (yAH.mp hi).1
      rw [yAL] at this
      omega
    rw [yBR hir] at hi
    have z1 := s1 i x (yAG _) hir hi
    have z2 := hlt x (yAV hi)
    unfold lx
    omega
  have hd : ∀ y ∈ os.drop r, lx ks pl y := fun y hy => by
    obtain ⟨i, hi⟩ := yBF hy
    rw [yBT] at hi
    exact .inl (s2 (r + i) y (by omega) (yAH.mp hi).1 hi)
  unfold insN
  refine yBW.mpr ⟨p1, yCA.mpr ⟨hd, p2⟩, fun x hx y hy => ?_⟩
  rcases yAE.mp hy with z | z
  . rw [z]; exact ha x hx
  . exact p3 x hx y z
def Adj (os : List Nat) (pr : List (Nat × Nat)) : Prop := ∀ (i x y : Nat), os[i]? = some x -> os[i + 1]? = some y -> (max x y, min x y) ∈ pr
theorem insN_get {os : List Nat} {r pl i : Nat} (hr : r <= os.length) : (insN os r pl)[i]? = if i < r then os[i]? else if i = r then some pl else os[i - 1]? := by
  unfold insN
  by_cases h : i < r
  . rw [if_pos h, yBB (by rw [yAL]; omega), yBR h]
  . rw [if_neg h, yBA (by rw [yAL]; omega), yAL, yBG hr]
    by_cases e : i = r
    . rw [if_pos e, e, yBH]; rfl
    . rw [if_neg e, show i - r = (i - r - 1) + 1 by omega, List.getElem?_cons_succ, yBT]
      congr 1
      omega
theorem insN_adj {ks : List Int} {os : List Nat} {pr : List (Nat × Nat)} {pl r : Nat} {l : List (Nat × Nat)} (hlt : ∀ x ∈ os, x < pl) (h : Halv ks os pl 0 os.length r l) (ha : Adj os pr) : Adj (insN os r pl) (pr ++ l) := by
  have hb := h.bounds (yAG _)
  obtain ⟨a1, a2⟩ := h.asked (yAG _)
  intro i x y hx hy
  rw [insN_get hb.2] at hx hy
  by_cases h1 : i + 1 < r
  . rw [if_pos (by omega)] at hx
    rw [if_pos h1] at hy
    exact yBO _ (ha i x y hx hy)
  rw [if_neg h1] at hy
  by_cases h2 : i + 1 = r
  . rw [if_pos (by omega)] at hx
    rw [if_pos h2] at hy
    cases hy
    have := hlt x (yAV hx)
    rw [show max x pl = pl by omega, show min x pl = x by omega]
    exact yAX _ (a1 x (by omega) (by rw [show r - 1 = i by omega]; exact hx))
  rw [if_neg h2] at hy
  rw [if_neg (by omega)] at hx
  rw [show i + 1 - 1 = i by omega] at hy
  by_cases h3 : i = r
  . rw [if_pos h3] at hx
    cases hx
    have := hlt y (yAV hy)
    rw [show max pl y = pl by omega, show min pl y = y by omega]
    rw [h3] at hy
    exact yAX _ (a2 y (yAH.mp hy).1 hy)
  . rw [if_neg h3] at hx
    refine yBO _ (ha (i - 1) x y hx (by rw [show i - 1 + 1 = i by omega]; exact hy))
inductive Put (ks : List Int) : List Nat -> Nat -> Nat -> List Nat -> List (Nat × Nat) -> Prop
  | nil {os : List Nat} {p e : Nat} : ¬ p < e -> Put ks os p e os []
  | cons {os os' : List Nat} {p e r : Nat} {l l' : List (Nat × Nat)} : p < e -> Halv ks os p 0 os.length r l -> Put ks (insN os r p) (p + 1) e os' l' -> Put ks os p e os' (l ++ l')
structure OrdN (ks : List Int) (first place : Nat) (os : List Nat) : Prop where
  len : os.length = place - first
  mem : ∀ x, x ∈ os ↔ first <= x /\ x < place
  srt : os.Pairwise (lx ks)
theorem OrdN.ins {ks : List Int} {first place : Nat} {os : List Nat} {r : Nat} {l : List (Nat × Nat)} (hf : first <= place) (o : OrdN ks first place os) (h : Halv ks os place 0 os.length r l) : OrdN ks first (place + 1) (insN os r place) :=
  ⟨by rw [insN_len, o.len]; omega, fun x => by rw [insN_mem, o.mem]; omega, insN_sorted o.srt (fun x hx => ((o.mem x).mp hx).2) h⟩
theorem Beyond.adj {ks : List Int} {first stop j : Nat} {f : Bool} (h : Beyond ks first stop j f) : ∀ (i x y : Nat), (ZBk first j f)[i]? = some x -> (ZBk first j f)[i + 1]? = some y -> lx ks x y /\ (max x y, min x y) ∈ asks first (min (j + 1) stop) := by
  intro i x y hx hy
  have hlt := (yAH.mp hy).1
  rw [ZCp] at hlt
  have hj : j <= stop := by rcases h with ⟨z1, z2, _⟩ | ⟨_, _, z1, z2, _⟩ <;> omega
  have hd : ∀ i, first + 1 <= i -> i < j -> dec ks i = f := by
    rcases h with ⟨a, b, _⟩ | ⟨_, _, _, _, e, _⟩
    . intro i h1 h2; omega
    . exact e
  have ha : ∀ k, first + 1 <= k -> k < j -> (k, k - 1) ∈ asks first (min (j + 1) stop) := fun k h1 h2 => by
    unfold asks
    exact List.mem_map.mpr ⟨k, List.mem_range'_1.mpr (by omega), rfl⟩
  cases f with
  | false =>
    rw [turnN_up (by omega)] at hx
    rw [turnN_up (by omega)] at hy
    cases hx
    cases hy
    have z := hd (first + i + 1) (by omega) (by omega)
    have z' := of_decide_eq_false z
    rw [show first + i + 1 - 1 = first + i by omega] at z'
    have m := ha (first + i + 1) (by omega) (by omega)
    rw [show first + i + 1 - 1 = first + i by omega] at m
    rw [show first + (i + 1) = first + i + 1 by omega, show max (first + i) (first + i + 1) = first + i + 1 by omega, show min (first + i) (first + i + 1) = first + i by omega]
    refine ⟨?_, m⟩
    unfold lx
    omega
  | true =>
    rw [turnN_down (by omega)] at hx
    rw [turnN_down (by omega)] at hy
    cases hx
    cases hy
    have z := hd (j - 1 - i) (by omega) (by omega)
    have z' := of_decide_eq_true z
    have m := ha (j - 1 - i) (by omega) (by omega)
    rw [show j - 1 - i - 1 = j - 1 - (i + 1) by omega] at z' m
    rw [show max (j - 1 - i) (j - 1 - (i + 1)) = j - 1 - i by omega, show min (j - 1 - i) (j - 1 - (i + 1)) = j - 1 - (i + 1) by omega]
    exact ⟨.inl z', m⟩
theorem pw_of_adj {ks : List Int} : ∀ {os : List Nat}, (∀ (i x y : Nat), os[i]? = some x -> os[i + 1]? = some y -> lx ks x y) -> os.Pairwise (lx ks)
  | [], _ => .nil
  | [x], _ => List.pairwise_singleton _ _
  | x :: y :: r, h => by
    have ih := pw_of_adj (ks := ks) (os := y :: r) fun i a b ha hb => h (i + 1) a b ha hb
    have hxy := h 0 x y rfl rfl
    refine yCA.mpr ⟨fun z hz => ?_, ih⟩
    rcases yAE.mp hz with e | e
    . rw [e]; exact hxy
    . exact ZCQ hxy ((yCA.mp ih).1 z e)
theorem Beyond.ord {ks : List Int} {first stop j : Nat} {f : Bool} (h : Beyond ks first stop j f) : OrdN ks first j (ZBk first j f) :=
  ⟨ZCp _ _ _, fun _ => turnN_mem, pw_of_adj fun i x y hx hy => (h.adj i x y hx hy).1⟩
theorem ZDj {a lg tl b : Addr} (n1 : b ≠ a) (n2 : b ≠ lg) (n3 : b ≠ tl) : b ∉ [a, lg, tl] := fun z => by
  rcases yAE.mp z with z | z
  . exact n1 z
  rcases yAE.mp z with z | z
  . exact n2 z
  . exact n3 (yAR.mp z)
theorem SitL.upd {CA CR : Addr} {H : Hp} {ks : List Int} {xs : RowC} {a rl ru tl g lg : Addr} {pr : List (Nat × Nat)} (h : SitL CA CR H ks xs a rl ru tl g lg pr) {l : Addr} {us us' : List V} (hl : H l = some (.lst us)) (n : rl ≠ l /\ lg ≠ l /\ tl ≠ l) : SitL CA CR (upd H l (.lst us')) ks xs a rl ru tl g lg pr := by
  have k : ∀ t o, H t = some o -> (∀ x, o ≠ .lst x) -> L2.upd H l (.lst us') t = some o := fun t o z no => by
    rw [ZAH (fun e => by rw [e, hl] at z; exact no _ (Option.some.inj z).symm)]; exact z
  have nla : l ≠ a := h.ha.ne hl fun _ _ _ z => by cases z
  refine ⟨h.ha.keep (ZAH (Ne.symm nla)), by rw [ZAH n.1]; exact h.hrl, ?_, ?_, h.len, fun i c hk => ?_, ?_, ?_, h.ne⟩
  . obtain ⟨d1, f1, e1, e2, e3⟩ := h.hru.ex
    exact ⟨d1, f1, k _ _ e1 (fun _ z => by cases z), e2, e3⟩
  . exact h.clo.mono fun b o hb => k _ _ hb (fun _ z => by cases z)
  . obtain ⟨r, a1, a2⟩ := h.row i c hk
    exact ⟨r, a1, k _ _ a2 (fun _ z => by cases z)⟩
  . obtain ⟨ts, a1, a2⟩ := h.hlg
    exact ⟨ts, by rw [ZAH n.2.1]; exact a1, a2.keep fun t x z => k _ _ z (fun _ z => by cases z)⟩
  . obtain ⟨ts, a1, a2⟩ := h.htl
    exact ⟨ts, by rw [ZAH n.2.2]; exact a1, a2.keep fun t x z => k _ _ z (fun _ z => by cases z)⟩
def ZDE (CA CR : Addr) : Sp := fun vs H Q _ => ∃ (ks : List Int) (xs : RowC) (a rl ru tl g lg ol : Addr) (pr : List (Nat × Nat)) (os : List Nat) (pl : Nat), vs = [.ref a, .ref ol, .int pl] /\ SitL CA CR H ks xs a rl ru tl g lg pr /\ H ol = some (.lst (nL os)) /\ ol ∉ [a, lg, tl] /\ os.length <= 500 /\ (∀ x ∈ os, x < pl) /\ pl < ks.length /\ pr.length <= 70000 /\
  ∀ H' r l, Fr [a, lg, tl] H H' -> Halv ks os pl 0 os.length r l -> SitL CA CR H' ks xs a rl ru tl g lg (pr ++ l) -> Q (.int (r : Nat)) H'
theorem ZC0 {os : List Nat} {m o : Nat} (h : os[m]? = some o) : atI (nL os) (m : Int) = some (.int o) := ZAW (by omega) (by rw [Int.toNat_natCast, yAY, h]; rfl)
def ZCh (CA CR : Addr) : Sp := fun vs H Q _ => ∃ (ks : List Int) (xs : RowC) (a rl ru tl g lg : Addr) (pr : List (Nat × Nat)) (first least stop : Nat) (e : V), vs = [.ref a, .int first, .int least, e] /\ SitL CA CR H ks xs a rl ru tl g lg pr /\ pr.length <= 20000 /\ ((e = .non /\ stop = ks.length) ∨ e = .int stop) /\ first < stop /\ stop <= ks.length /\ ks.length <= 119 /\ least <= 500 /\
  ∀ H' t ol j f os l, Fr [a, lg, tl] H H' -> H ol = none -> ol ∉ [a, lg, tl] -> H' t = some (.tup [.int (j : Nat), .ref ol]) -> H' ol = some (.lst (nL os)) -> Beyond ks first stop j f -> Put ks (ZBk first j f) j (min (first + least) stop) os l -> SitL CA CR H' ks xs a rl ru tl g lg (pr ++ (asks first (min (j + 1) stop) ++ l)) -> Q (.ref t) H'
theorem insV_nL {os : List Nat} {r pl : Nat} (h : r <= os.length) : insV (nL os) (r : Int) (.int pl) = nL (insN os r pl) := by
  unfold insV insN nL
  dsimp only
  rw [if_neg (by omega), Int.toNat_natCast, yAD, yBG h, yAO, yAZ, yCD, yCE]
theorem Put.few {ks : List Int} {os os' : List Nat} {p e : Nat} {l : List (Nat × Nat)} (h : Put ks os p e os' l) : l.length <= (e - p) * (os.length + (e - p)) := by
  induction h with
  | nil n => simp
  | @cons os os' p e r l l' a b c ih =>
    have hb := b.len
    rw [insN_len, show os.length + 1 + (e - (p + 1)) = os.length + (e - p) by omega] at ih
    rw [yAA, show e - p = (e - (p + 1)) + 1 by omega, Nat.add_mul, Nat.one_mul]
    rw [show os.length + (e - (p + 1) + 1) = os.length + (e - p) by omega]
    omega
theorem Put.all {ks : List Int} {first p e : Nat} {os os' : List Nat} {l : List (Nat × Nat)} (h : Put ks os p e os' l) : ∀ pr, first <= p -> OrdN ks first p os -> Adj os pr -> OrdN ks first (max p e) os' /\ Adj os' (pr ++ l) /\ ∀ c ∈ l, c.2 < c.1 := by
  induction h with
  | nil n => intro pr hf ho ha; exact ⟨by rw [show max _ _ = _ from Nat.max_eq_left (Nat.not_lt.mp n)]; exact ho, by rw [yAT]; exact ha, fun c h => by cases h⟩
  | @cons os os' p e r l l' a b c ih =>
    intro pr hf ho ha
    have hlt : ∀ x ∈ os, x < p := fun x hx => ((ho.mem x).mp hx).2
    obtain ⟨i1, i2, i3⟩ := ih (pr ++ l) (by omega) (ho.ins hf b) (insN_adj hlt b ha)
    rw [show max (p + 1) e = max p e by omega] at i1
    refine ⟨i1, by rw [<- yAJ]; exact i2, fun x hx => ?_⟩
    rcases yBC.mp hx with z | z
    . obtain ⟨z1, z2⟩ := b.each x z
      rw [z1]
      exact hlt _ z2
    . exact i3 x z
theorem once0 {M G : Prop} (h : M -> G) (t : M) : G := h t
theorem ZD1 {γ : Type} {M : γ -> Prop} (P : γ -> Prop) {G : Prop} (h : (∀ z, P z -> M z) -> G) (t : ∀ z, P z -> M z) : G := h t
theorem ZCH {ks : List Int} {x y : Nat} (a : lx ks x y) : ¬ lx ks y x := by unfold lx at *; omega
theorem ZEJ {ks : List Int} {x y : Nat} (a : x ≠ y) (b : ¬ lx ks x y) : lx ks y x := by unfold lx at *; omega
instance (ks : List Int) (x y : Nat) : Decidable (lx ks x y) := by unfold lx; exact inferInstance
theorem ZDS {ks : List Int} {o pl : Nat} (h : o ≠ pl) : (if pl < o then decide (kat ks o < kat ks pl) else !decide (kat ks pl < kat ks o)) = decide (lx ks o pl) := by
  by_cases z : pl < o
  . rw [if_pos z]
    by_cases e : kat ks o < kat ks pl
    . rw [decide_eq_true e]; exact (decide_eq_true (by unfold lx; omega)).symm
    . rw [decide_eq_false e]; exact (decide_eq_false (by unfold lx; omega)).symm
  . rw [if_neg z]
    by_cases e : kat ks pl < kat ks o
    . rw [decide_eq_true e]; exact (decide_eq_false (by unfold lx; omega)).symm
    . rw [decide_eq_false e]; exact (decide_eq_true (by unfold lx; omega)).symm
theorem ZEV {α β : Type} {M : α -> β -> Prop} (P : α -> β -> Prop) {G : Prop} (h : (∀ x y, P x y -> M x y) -> G) (t : ∀ x y, P x y -> M x y) : G := h t
theorem once4 {α β γ δ : Type} {M : α -> β -> γ -> δ -> Prop} (P : α -> β -> γ -> δ -> Prop) {G : Prop} (h : (∀ x y z u, P x y z u -> M x y z u) -> G) (t : ∀ x y z u, P x y z u -> M x y z u) : G := h t
def Things (H : Hp) (ks : List Int) (xs : List V) : Prop := xs.length = ks.length /\ ∀ (i : Nat) k, ks[i]? = some k -> ∃ r, xs[i]? = some (V.ref r) /\ H r = some (.tup [.int k, .int i])
theorem Things.mono {H H' : Hp} {ks : List Int} {xs : List V} (h : Things H ks xs) (e : ∀ b o, H b = some o -> (∀ t, o ≠ .tbl t) -> (∀ l, o ≠ .lst l) -> H' b = some o) : Things H' ks xs := ⟨h.1, fun i k hk => let ⟨r, a1, a2⟩ := h.2 i k hk; ⟨r, a1, e _ _ a2 (fun _ z => by cases z) (fun _ z => by cases z)⟩⟩
theorem insV_ints (rs : List Int) (i y : Int) : ∃ us : List Int, insV (rs.map V.int) i (.int y) = us.map V.int /\ us.length = rs.length + 1 := by
  unfold insV
  dsimp only
  generalize (if i < 0 then (i + ((rs.map V.int).length : Int)).toNat else min i.toNat (rs.map V.int).length) = k
  refine ⟨rs.take k ++ y :: rs.drop k, by rw [yAO, yAZ, yCD, yCE], ?_⟩
  rw [yAA, yAI, yAL, yAU]
  omega
theorem er_map {α β : Type} (f : α -> β) (l : List α) (k : Nat) : (l.map f).eraseIdx k = (l.eraseIdx k).map f := by
  rw [List.eraseIdx_eq_take_drop_succ, List.eraseIdx_eq_take_drop_succ, yAO, yCD, yCE]
def ZEi : Sp := fun vs H Q _ => ∃ (a : Addr) (c1 c2 : Int) (ks : List Int), vs = [.ref a, .int c1, .int c2] /\ H a = some (.lst (ks.map V.int)) /\ ks.length <= 63 /\ ∀ l H' (rs : List Int), Same H H' -> H l = none -> H' l = some (.lst (rs.map V.int)) -> rs.length <= 63 -> Q (.ref l) H'
def ZDG (K : W.Frag) : Sp := fun vs H Q _ => ∃ (a : Addr) (ns : List Int) (m : Int), vs = [.ref a, .int m, .int 63] /\ SqL K H a (ns.map V.int) /\ ns.length <= 63 /\ 0 < m /\ m <= 10 ^ 60 /\ ∀ l H' (rs : List Int), Same H H' -> H l = none -> H' l = some (.lst (rs.map V.int)) -> rs.length <= 63 -> Q (.ref l) H'
def ZDd (K : W.Frag) : Sp := fun vs H Q _ => ∃ (a : Addr) (ns : List Int), vs = [.ref a] /\ SqL K H a (ns.map V.int) /\ ns.length <= 63 /\ ∀ l H' ks xs, Same H H' -> H l = none -> H' l = some (.lst xs) -> ks.length <= 63 -> Things H' ks xs -> Q (.ref l) H'
inductive Bin (z : Nat) : Nat -> Nat -> List Nat -> Prop
  | done {i : Nat} : Bin z i i []
  | more {lo hi : Nat} {l : List Nat} : lo < hi -> (lo + hi - 1) / 2 < z -> Bin z ((lo + hi - 1) / 2 + 1) hi l -> Bin z lo hi ((lo + hi - 1) / 2 :: l)
  | less {lo hi : Nat} {l : List Nat} : lo < hi -> z <= (lo + hi - 1) / 2 -> Bin z lo ((lo + hi - 1) / 2) l -> Bin z lo hi ((lo + hi - 1) / 2 :: l)
inductive Gal (z n f : Nat) : Nat -> Nat -> List Nat -> Prop
  | out {lo far : Nat} {l : List Nat} : n <= far -> Bin z lo n l -> Gal z n f lo far l
  | stop {lo far : Nat} {l : List Nat} : far < n -> z <= far -> Bin z lo far l -> Gal z n f lo far (far :: l)
  | more {lo far : Nat} {l : List Nat} : far < n -> far < z -> Gal z n f (far + 1) (2 * far - f + 1) l -> Gal z n f lo far (far :: l)
theorem Bin.uniq {z lo hi : Nat} {l : List Nat} (h : Bin z lo hi l) : ∀ {l'}, Bin z lo hi l' -> l = l' := by
  induction h with
  | done => intro l' h'; cases h' with
    | done => rfl
    | more a => omega
    | less a => omega
  | more a b c ih => intro l' h'; cases h' with
    | done => omega
    | more a' b' c' => rw [ih c']
    | less a' b' c' => omega
  | less a b c ih => intro l' h'; cases h' with
    | done => omega
    | more a' b' c' => omega
    | less a' b' c' => rw [ih c']
theorem Gal.uniq {z n f lo far : Nat} {l : List Nat} (h : Gal z n f lo far l) : ∀ {l'}, Gal z n f lo far l' -> l = l' := by
  induction h with
  | out a b => intro l' h'; cases h' with
    | out a' b' => exact b.uniq b'
    | stop a' => omega
    | more a' => omega
  | stop a b c => intro l' h'; cases h' with
    | out a' b' => omega
    | stop a' b' c' => rw [c.uniq c']
    | more a' b' => omega
  | more a b c ih => intro l' h'; cases h' with
    | out a' b' => omega
    | stop a' b' c' => omega
    | more a' b' c' => rw [ih c']
theorem Bin.len {z lo hi : Nat} {l : List Nat} (h : Bin z lo hi l) : l.length <= hi - lo := by
  induction h with
  | done => simp
  | more a b c ih => rw [yAI]; omega
  | less a b c ih => rw [yAI]; omega
theorem Bin.bits {z lo hi : Nat} {l : List Nat} (h : Bin z lo hi l) : ∀ k, hi - lo < 2 ^ k -> l.length <= k := by
  induction h with
  | done => intro k _; simp
  | @more lo hi l a b c ih =>
    intro k hk
    cases k with
    | zero => rw [Nat.pow_zero] at hk; omega
    | succ k =>
      rw [yBN] at hk
      rw [yAI]
      have := ih k (by omega)
      omega
  | @less lo hi l a b c ih =>
    intro k hk
    cases k with
    | zero => rw [Nat.pow_zero] at hk; omega
    | succ k =>
      rw [yBN] at hk
      rw [yAI]
      have := ih k (by omega)
      omega
theorem ZCR (j : Nat) : 2 ^ (j + 1) / 2 = 2 ^ j := by rw [yBN]; omega
theorem lt_two_pow' (j : Nat) : j + 1 <= 2 ^ j := Nat.lt_two_pow_self
theorem Gal.all {z n f lo far : Nat} {l : List Nat} (h : Gal z n f lo far l) : ∀ j : Nat, lo = f + 2 ^ j / 2 -> far + 1 = f + 2 ^ j -> f <= n -> lo <= n -> z = n -> l.length + j <= n - f := by
  induction h with
  | @out lo far l a c =>
    intro j e1 e2 h1 h2 h3
    have := c.len
    cases j with
    | zero => rw [Nat.pow_zero] at e1; omega
    | succ j =>
      rw [ZCR] at e1
      have := lt_two_pow' j
      omega
  | @stop lo far l a c d => intro j e1 e2 h1 h2 h3; omega
  | @more lo far l a c d ih =>
    intro j e1 e2 h1 h2 h3
    have hp := yCK (n := j)
    have := ih (j + 1) (by rw [ZCR]; omega) (by rw [yBN]; omega) h1 (by omega) h3
    rw [yAI]
    omega
def ask1 (os : List Nat) (pl i : Nat) : Nat × Nat := (max ((os[i]?).getD 0) pl, min ((os[i]?).getD 0) pl)
def ZD9 (CA CR : Addr) : Sp := fun vs H Q _ => ∃ (ks : List Int) (xs : RowC) (a rl ru tl g lg ol : Addr) (pr : List (Nat × Nat)) (os : List Nat) (f pl z : Nat), vs = [.ref a, .ref ol, .int f, .int pl] /\ SitL CA CR H ks xs a rl ru tl g lg pr /\ H ol = some (.lst (nL os)) /\ ol ∉ [a, lg, tl] /\ os.length <= 500 /\ (∀ x ∈ os, x < ks.length /\ x ≠ pl) /\ pl < ks.length /\ pr.length <= 70000 /\ f <= z /\ z <= os.length /\ (∀ i x, f <= i -> os[i]? = some x -> (lx ks x pl ↔ i < z)) /\
  ∀ H' L, Fr [a, lg, tl] H H' -> Gal z os.length f f f L -> SitL CA CR H' ks xs a rl ru tl g lg (pr ++ L.map (ask1 os pl)) -> Q (.int (z - f : Nat)) H'
structure LIn1 (CA CR : Addr) (ks : List Int) (xs : RowC) (a rl ru tl g lg : Addr) (pr : List (Nat × Nat)) (os : List Nat) (f pl z : Nat) (H : Hp) (lo far : Nat) (dn : List Nat) (H' : Hp) : Prop where
  h1 : f <= lo
  h2 : lo <= z
  h3 : lo <= far
  h4 : dn.length + f <= lo
  fr : Fr [a, lg, tl] H H'
  st : SitL CA CR H' ks xs a rl ru tl g lg (pr ++ dn.map (ask1 os pl))
  hg : ∀ L, Gal z os.length f lo far L -> Gal z os.length f f f (dn ++ L)
structure LIn2 (CA CR : Addr) (ks : List Int) (xs : RowC) (a rl ru tl g lg : Addr) (pr : List (Nat × Nat)) (os : List Nat) (f pl z : Nat) (H : Hp) (lo hi : Nat) (dn : List Nat) (H' : Hp) : Prop where
  h1 : f <= lo
  h2 : lo <= z
  h3 : z <= hi
  h4 : hi <= os.length
  h5 : dn.length + (hi - lo) <= 2 * os.length + 1
  fr : Fr [a, lg, tl] H H'
  st : SitL CA CR H' ks xs a rl ru tl g lg (pr ++ dn.map (ask1 os pl))
  hg : ∀ L, Bin z lo hi L -> Gal z os.length f f f (dn ++ L)
def nw (w : Nat) (s : Bool) : Nat := if s then w + 1 else 1
inductive JT (ks : List Int) : List Nat -> List Nat -> Nat -> Nat -> Nat -> Bool -> List Nat -> List (Nat × Nat) -> Prop
  | done {ls rs : List Nat} {i j w : Nat} {s : Bool} : ¬ (i < ls.length /\ j < rs.length) -> JT ks ls rs i j w s (ls.drop i ++ rs.drop j) []
  | step {ls rs ps : List Nat} {i j w x y : Nat} {s : Bool} {L : List (Nat × Nat)} : ls[i]? = some x -> rs[j]? = some y -> lx ks x y -> nw w s ≠ 4 -> JT ks ls rs (i + 1) j (nw w s) true ps L -> JT ks ls rs i j w s (x :: ps) ((max x y, min x y) :: L)
  | leap {ls rs ps G : List Nat} {i j w x y z : Nat} {s : Bool} {L : List (Nat × Nat)} : ls[i]? = some x -> rs[j]? = some y -> lx ks x y -> nw w s = 4 -> i + 1 <= z -> z < ls.length -> (∀ k u, i + 1 <= k -> ls[k]? = some u -> (lx ks u y ↔ k < z)) -> Gal z ls.length (i + 1) (i + 1) (i + 1) G -> JT ks ls rs z (j + 1) 0 true ps L -> JT ks ls rs i j w s ((ls.drop i).take (z - i) ++ y :: ps) ((max x y, min x y) :: (G.map (ask1 ls y) ++ L))
  | last {ls rs ps G : List Nat} {i j w x y : Nat} {s : Bool} {L : List (Nat × Nat)} : ls[i]? = some x -> rs[j]? = some y -> lx ks x y -> nw w s = 4 -> (∀ k u, i + 1 <= k -> ls[k]? = some u -> lx ks u y) -> Gal ls.length ls.length (i + 1) (i + 1) (i + 1) G -> JT ks ls rs ls.length j 0 true ps L -> JT ks ls rs i j w s (ls.drop i ++ ps) ((max x y, min x y) :: (G.map (ask1 ls y) ++ L))
  | swap {ls rs ps : List Nat} {i j w : Nat} {s : Bool} {L : List (Nat × Nat)} : JT ks rs ls j i w (!s) ps L -> JT ks ls rs i j w s ps L
theorem ZBv {os : List Nat} {i x : Nat} (h : os[i]? = some x) : os.drop i = x :: os.drop (i + 1) := by
  obtain ⟨h1, e⟩ := yAH.mp h
  rw [yCI h1, e]
theorem drop_seg {os : List Nat} {i z : Nat} (h : i <= z) : os.drop i = (os.drop i).take (z - i) ++ os.drop z := by
  have : os.drop z = (os.drop i).drop (z - i) := by rw [List.drop_drop, show i + (z - i) = z by omega]
  rw [this, yBK]
theorem JT.mem {ks : List Int} {ls rs ps : List Nat} {i j w : Nat} {s : Bool} {L : List (Nat × Nat)} (h : JT ks ls rs i j w s ps L) : ∀ u, u ∈ ps ↔ u ∈ ls.drop i ∨ u ∈ rs.drop j := by
  induction h with
  | done _ => intro u; rw [yBC]
  | step a b c d e ih =>
    intro u
    rw [ZBv a, yAE, yAE, ih]
    exact ⟨fun z => z.elim (fun z => .inl (.inl z)) fun z => z.elim (fun z => .inl (.inr z)) .inr, fun z => z.elim (fun z => z.elim .inl fun z => .inr (.inl z)) fun z => .inr (.inr z)⟩
  | @leap ls rs ps G i j w x y z s L a b c d e f g k l ih =>
    intro u
    rw [drop_seg (os := ls) (show i <= z by omega), ZBv b, yBC, yBC, yAE, yAE, ih, List.take_append_of_le_length (by rw [yAL, yAU]; omega), yCF (by rw [yAL]; omega)]
    exact ⟨fun z => z.elim (fun z => .inl (.inl z)) fun z => z.elim (fun z => .inr (.inl z)) fun z => z.elim (fun z => .inl (.inr z)) fun z => .inr (.inr z), fun z => z.elim (fun z => z.elim .inl fun z => .inr (.inr (.inl z))) fun z => z.elim (fun z => .inr (.inl z)) fun z => .inr (.inr (.inr z))⟩
  | @last ls rs ps G i j w x y s L a b c d g k l ih =>
    intro u
    rw [yBC, ih, List.drop_of_length_le (yAB _)]
    exact ⟨fun z => z.elim .inl fun z => z.elim (fun z => by cases z) .inr, fun z => z.elim .inl fun z => .inr (.inr z)⟩
  | swap h ih => intro u; rw [ih]; exact Or.comm
theorem ZCT {os : List Nat} {i u : Nat} (h : u ∈ os.drop i) : ∃ k, i <= k /\ os[k]? = some u := by
  obtain ⟨n, hn⟩ := yBF h
  rw [yBT] at hn
  exact ⟨i + n, by omega, hn⟩
theorem seg_mem {os : List Nat} {i z u : Nat} (h : u ∈ (os.drop i).take (z - i)) : ∃ k, i <= k /\ k < z /\ os[k]? = some u := by
  obtain ⟨n, hn⟩ := yBF h
  have h1 := (yAH.mp hn).1
  rw [yAL] at h1
  rw [yBR (by omega), yBT] at hn
  exact ⟨i + n, by omega, by omega, hn⟩
theorem drop_ge {ks : List Int} {os : List Nat} {j y u : Nat} (hs : os.Pairwise (lx ks)) (hy : os[j]? = some y) (hu : u ∈ os.drop j) : u = y ∨ lx ks y u := by
  obtain ⟨k, hk, e⟩ := ZCT hu
  by_cases z : k = j
  . rw [z, hy] at e; cases e; exact .inl rfl
  . exact .inr (ZC7 hs (by omega) hy e)
theorem seg_pw {ks : List Int} {os : List Nat} {i n : Nat} (hs : os.Pairwise (lx ks)) : ((os.drop i).take n).Pairwise (lx ks) := (hs.sublist (List.drop_sublist _ _)).sublist (List.take_sublist _ _)
theorem JT.sorted {ks : List Int} {ls rs ps : List Nat} {i j w : Nat} {s : Bool} {L : List (Nat × Nat)} (h : JT ks ls rs i j w s ps L) : ls.Pairwise (lx ks) -> rs.Pairwise (lx ks) -> (∀ x ∈ ls, ∀ y ∈ rs, x ≠ y) -> ps.Pairwise (lx ks) := by
  induction h with
  | @done ls rs i j w s n =>
    intro h1 h2 h3
    rcases yCB i ls.length with z | z
    . rw [List.drop_of_length_le (l := rs) (by omega), yAT]
      exact h1.sublist (List.drop_sublist _ _)
    . rw [List.drop_of_length_le (l := ls) z]
      exact h2.sublist (List.drop_sublist _ _)
  | step a b c d e ih =>
    intro h1 h2 h3
    refine yCA.mpr ⟨fun u hu => ?_, ih h1 h2 h3⟩
    rcases (e.mem u).mp hu with z | z
    . obtain ⟨k, hk, e2⟩ := ZCT z
      exact ZC7 h1 (by omega) a e2
    . rcases drop_ge h2 b z with z | z
      . rw [z]; exact c
      . exact ZCQ c z
  | @leap ls rs ps G i j w x y z s L a b c d e f g k l ih =>
    intro h1 h2 h3
    have hy : ∀ u ∈ ps, lx ks y u := fun u hu => by
      rcases (l.mem u).mp hu with v | v
      . obtain ⟨n, hn, e2⟩ := ZCT v
        exact ZEJ (h3 u (yAV e2) y (yAV b)) fun t => by have := (g n u (by omega) e2).mp t; omega
      . obtain ⟨n, hn, e2⟩ := ZCT v
        exact ZC7 h2 (by omega) b e2
    have hm : ∀ u ∈ (ls.drop i).take (z - i), lx ks u y := fun u hu => by
      obtain ⟨n, h4, h5, e2⟩ := seg_mem hu
      by_cases v : n = i
      . rw [v, a] at e2; cases e2; exact c
      . exact (g n u (by omega) e2).mpr h5
    refine yBW.mpr ⟨seg_pw h1, yCA.mpr ⟨hy, ih h1 h2 h3⟩, fun u hu v hv => ?_⟩
    rcases yAE.mp hv with t | t
    . rw [t]; exact hm u hu
    . exact ZCQ (hm u hu) (hy v t)
  | @last ls rs ps G i j w x y s L a b c d g k l ih =>
    intro h1 h2 h3
    refine yBW.mpr ⟨h1.sublist (List.drop_sublist _ _), ih h1 h2 h3, fun u hu v hv => ?_⟩
    have hm : lx ks u y := by
      obtain ⟨n, h4, e2⟩ := ZCT hu
      by_cases t : n = i
      . rw [t, a] at e2; cases e2; exact c
      . exact g n u (by omega) e2
    rcases (l.mem v).mp hv with t | t
    . rw [List.drop_of_length_le (yAB _)] at t; cases t
    . rcases drop_ge h2 b t with t | t
      . rw [t]; exact hm
      . exact ZCQ hm t
  | swap h ih => intro h1 h2 h3; exact ih h2 h1 fun x hx y hy e => h3 y hy x hx e.symm
theorem lx_ext {ks : List Int} : ∀ {a b : List Nat}, a.Pairwise (lx ks) -> b.Pairwise (lx ks) -> (∀ x, x ∈ a ↔ x ∈ b) -> a = b
  | [], [], _, _, _ => rfl
  | [], y :: b, _, _, h => by have := (h y).mpr yAF; cases this
  | x :: a, [], _, _, h => by have := (h x).mp yAF; cases this
  | x :: a, y :: b, ha, hb, h => by
    obtain ⟨a1, a2⟩ := yCA.mp ha
    obtain ⟨b1, b2⟩ := yCA.mp hb
    have e : x = y := by
      rcases yAE.mp ((h x).mp yAF) with t | t
      . exact t
      . rcases yAE.mp ((h y).mpr yAF) with t' | t'
        . exact t'.symm
        . exact absurd (a1 y t') (ZCH (b1 x t))
    subst e
    rw [lx_ext a2 b2 fun u => ⟨fun hu => ?_, fun hu => ?_⟩]
    . rcases yAE.mp ((h u).mp (yAC _ hu)) with t | t
      . exact absurd (a1 u hu) (by rw [t]; exact fun z => ZCH z z)
      . exact t
    . rcases yAE.mp ((h u).mpr (yAC _ hu)) with t | t
      . exact absurd (b1 u hu) (by rw [t]; exact fun z => ZCH z z)
      . exact t
theorem mm_comm (x y : Nat) : (max x y, min x y) = (max y x, min y x) := by rw [Nat.max_comm, Nat.min_comm]
theorem spot_ex {ks : List Int} {os : List Nat} {pl : Nat} (hs : os.Pairwise (lx ks)) : ∀ n f, f + n = os.length -> ∃ z, f <= z /\ z <= os.length /\ ∀ i x, f <= i -> os[i]? = some x -> (lx ks x pl ↔ i < z) := by
  intro n
  induction n with
  | zero => intro f hf; exact ⟨f, yAB _, by omega, fun i x h e => by have := (yAH.mp e).1; omega⟩
  | succ n ih =>
    intro f hf
    have hfl : f < os.length := by omega
    by_cases h : lx ks os[f] pl
    . obtain ⟨z, z1, z2, z3⟩ := ih (f + 1) (by omega)
      refine ⟨z, by omega, z2, fun i x hi e => ?_⟩
      by_cases t : i = f
      . subst t
        rw [yAQ hfl] at e; cases e
        exact ⟨fun _ => by omega, fun _ => h⟩
      . exact z3 i x (by omega) e
    . refine ⟨f, yAB _, by omega, fun i x hi e => ⟨fun r => ?_, fun r => by omega⟩⟩
      by_cases t : i = f
      . subst t
        rw [yAQ hfl] at e; cases e
        exact absurd r h
      . exact absurd (ZCQ (ZC7 hs (by omega) (yAQ hfl) e) r) h
theorem two_pow_lin (n : Nat) : 2 * (n + 1) <= 2 ^ n + 2 := by
  induction n with
  | zero => decide
  | succ n ih =>
    rw [yBN]
    cases n with
    | zero => decide
    | succ n => rw [yBN] at *; have := yCK (n := n); omega
theorem bits_lin {g b : Nat} (h : ∀ c, g < 2 ^ c -> b <= c) : max 1 (2 * b) <= g + 2 /\ (g < 2 -> max 1 (2 * b) <= g + 1) := by
  cases b with
  | zero => omega
  | succ b =>
    have : 2 ^ b <= g := by
      rcases yCB g (2 ^ b) with z | z
      . have := h b z; omega
      . exact z
    have := two_pow_lin b
    refine ⟨by omega, fun z => ?_⟩
    cases b with
    | zero => rw [Nat.pow_zero] at this; omega
    | succ b => rw [yBN] at *; have := yCK (n := b); omega
theorem Gal.most' {z n f lo far : Nat} {l : List Nat} (h : Gal z n f lo far l) : ∀ (j b : Nat), lo = f + 2 ^ j / 2 -> far + 1 = f + 2 ^ j -> f <= z -> z <= n -> z - f < 2 ^ b -> (∀ c, z - f < 2 ^ c -> b <= c) -> j <= b -> l.length + j <= max 1 (2 * b) := by
  induction h with
  | @out lo far l a c =>
    intro j b e1 e2 h1 h2 h3 h4 h5
    have hb := h4 j (by omega)
    have ej : j = b := by omega
    subst ej
    cases j with
    | zero =>
      rw [Nat.pow_zero] at e1 e2
      have := c.len
      omega
    | succ j =>
      rw [ZCR] at e1
      rw [yBN] at e2
      have := c.bits j (by have := yCK (n := j); omega)
      omega
  | @stop lo far l a c d =>
    intro j b e1 e2 h1 h2 h3 h4 h5
    have hb := h4 j (by omega)
    have ej : j = b := by omega
    subst ej
    rw [yAI]
    cases j with
    | zero =>
      rw [Nat.pow_zero] at e1 e2
      have := d.len
      omega
    | succ j =>
      rw [ZCR] at e1
      rw [yBN] at e2
      have := d.bits j (by have := yCK (n := j); omega)
      omega
  | @more lo far l a c d ih =>
    intro j b e1 e2 h1 h2 h3 h4 h5
    have hjb : j + 1 <= b := by
      rcases yCB j b with z | z
      . exact z
      . have := Nat.pow_le_pow_right (show 2 > 0 by decide) z
        omega
    have hp := yCK (n := j)
    have := ih (j + 1) b (by rw [ZCR]; omega) (by rw [yBN]; omega) h1 h2 h3 h4 hjb
    rw [yAI]
    omega
def ZDX (g : Nat) : Nat := if g = 0 then 0 else g.log2 + 1
theorem nbits_lt (g : Nat) : g < 2 ^ ZDX g := by
  unfold ZDX
  split
  . omega
  . exact (Nat.log2_lt (by omega)).mp (yBU _)
theorem ZDL {g c : Nat} (h : g < 2 ^ c) : ZDX g <= c := by
  unfold ZDX
  split
  . exact yAG _
  . exact (Nat.log2_lt (by omega)).mpr h
theorem Gal.looks {z n f : Nat} {l : List Nat} (h : Gal z n f f f l) (h1 : f <= z) (h2 : z <= n) : l.length <= max 1 (2 * ZDX (z - f)) := by
  have := h.most' 0 (ZDX (z - f)) (by simp) (by simp) h1 h2 (nbits_lt _) (fun c => ZDL) (yAG _)
  omega
theorem Gal.lin {z n f : Nat} {l : List Nat} (h : Gal z n f f f l) (h1 : f <= z) (h2 : z <= n) : 7 * l.length <= 8 * (z - f) + 12 := by
  have h3 := h.looks h1 h2
  obtain ⟨g1, g2⟩ := bits_lin (g := z - f) (b := ZDX (z - f)) fun c => ZDL
  clear h
  generalize z - f = g at *
  generalize max 1 (2 * ZDX g) = m at *
  clear h1 h2
  omega
theorem JT.most7 {ks : List Int} {ls rs ps : List Nat} {i j w : Nat} {s : Bool} {L : List (Nat × Nat)} (h : JT ks ls rs i j w s ps L) : w <= 3 -> i <= ls.length -> j <= rs.length -> 1 <= (ls.length - i) + (rs.length - j) -> 7 * (L.length + 1) <= 8 * ((ls.length - i) + (rs.length - j)) + w := by
  induction h with
  | done n => intro h1 h2 h3 h4; rw [yBV]; omega
  | @step ls rs ps i j w x y s L a b c d e ih =>
    intro h1 h2 h3 h4
    have hi := (yAH.mp a).1
    have hj := (yAH.mp b).1
    have hn : nw w s <= w + 1 := by unfold nw; split <;> omega
    have := ih (by omega) (by omega) h3 (by omega)
    rw [yAI]
    omega
  | @leap ls rs ps G i j w x y z s L a b c d e f g k l ih =>
    intro h1 h2 h3 h4
    have hi := (yAH.mp a).1
    have hj := (yAH.mp b).1
    have hw : w = 3 := by unfold nw at d; split at d <;> omega
    have := ih (by omega) (by omega) (by omega) (by omega)
    have hG := k.lin e (yBI f)
    rw [yAI, yAA, yAD]
    omega
  | @last ls rs ps G i j w x y s L a b c d g k l ih =>
    intro h1 h2 h3 h4
    have hi := (yAH.mp a).1
    have hj := (yAH.mp b).1
    have := ih (by omega) (by omega) (by omega) (by omega)
    have hG := k.all 0 (by simp) (by simp) hi hi rfl
    rw [yAI, yAA, yAD]
    omega
  | @swap ls rs ps i j w s L h ih =>
    intro h1 h2 h3 h4
    have := ih h1 h3 h2 (by omega)
    omega
theorem JT.most {ks : List Int} {ls rs ps : List Nat} {i j w : Nat} {s : Bool} {L : List (Nat × Nat)} (h : JT ks ls rs i j w s ps L) (h1 : w <= 3) (h2 : i <= ls.length) (h3 : j <= rs.length) (h4 : 1 <= (ls.length - i) + (rs.length - j)) : L.length + 1 <= (ls.length - i) + (rs.length - j) + ((ls.length - i) + (rs.length - j) + w) / 7 := by
  have := h.most7 h1 h2 h3 h4
  clear h
  omega
theorem JT.len {ks : List Int} {ls rs ps : List Nat} {i j w : Nat} {s : Bool} {L : List (Nat × Nat)} (h : JT ks ls rs i j w s ps L) : w <= 3 -> i <= ls.length -> j <= rs.length -> L.length <= 2 * ((ls.length - i) + (rs.length - j)) := by
  intro h1 h2 h3
  by_cases t : 1 <= (ls.length - i) + (rs.length - j)
  . have := h.most h1 h2 h3 t
    omega
  . have : ∀ {ls rs ps : List Nat} {i j w : Nat} {s : Bool} {L : List (Nat × Nat)}, JT ks ls rs i j w s ps L -> ls.length <= i -> rs.length <= j -> L = [] := by
      intro ls rs ps i j w s L h
      induction h with
      | done n => intro _ _; rfl
      | step a => intro h _; have := (yAH.mp a).1; omega
      | leap a => intro h _; have := (yAH.mp a).1; omega
      | last a => intro h _; have := (yAH.mp a).1; omega
      | swap h ih => intro h1 h2; exact ih h2 h1
    rw [this h (by omega) (by omega)]
    exact yAG _
theorem JT.order {ks : List Int} {os ls rs ps : List Nat} {L : List (Nat × Nat)} (h : JT ks ls rs 0 0 0 true ps L) (h1 : ls.Pairwise (lx ks)) (h2 : rs.Pairwise (lx ks)) (h3 : ∀ x ∈ ls, ∀ y ∈ rs, x ≠ y) (ho : os.Pairwise (lx ks)) (hm : ∀ x, x ∈ os ↔ x ∈ ls ∨ x ∈ rs) : ps = os :=
  lx_ext (h.sorted h1 h2 h3) ho fun x => by rw [h.mem, hm]; rfl
abbrev fJ (ak sd tk pc : Addr) : List (Str × V) := [("places", .ref pc), ("taken", .ref tk), ("sides", .ref sd), ("asker", .ref ak)]
def pk {α : Type} (b : Bool) (x y : α) : List α := if b then [x, y] else [y, x]
def sv (b : Bool) : Int := if b then 0 else 1
theorem ZCA {b : Bool} {x y : V} : atI (pk b x y) (sv b) = some x := by cases b <;> exact ZAW (by decide) rfl
theorem pk_swap {α : Type} {b : Bool} {x y : α} : pk (!b) y x = pk b x y := by cases b <;> rfl
theorem pk_len {α : Type} {b : Bool} {x y : α} : (pk b x y).length = 2 := by cases b <;> rfl
theorem pk_set {b : Bool} {x y z : V} : (pk b x y).set (sv b).toNat z = pk b z y := by cases b <;> rfl
structure JS (CJ : Addr) (H : Hp) (b : Bool) (jn ak sd ma ta tk pc : Addr) (ms ts : List Nat) (i j : Nat) (dn : List Nat) : Prop where
  hj : Ins H jn CJ (fJ ak sd tk pc)
  hsd : H sd = some (.tup (pk b (.ref ma) (.ref ta)))
  hma : H ma = some (.lst (nL ms))
  hta : H ta = some (.lst (nL ts))
  htk : H tk = some (.lst (pk b (.int i) (.int j)))
  hpc : H pc = some (.lst (nL dn))
  ne : tk ≠ pc /\ ma ≠ tk /\ ma ≠ pc /\ ta ≠ tk /\ ta ≠ pc
section
variable {CJ : Addr} {H H' : Hp} {b : Bool} {jn ak sd ma ta tk pc : Addr} {ms ts : List Nat} {i j : Nat} {dn : List Nat}
theorem JS.swap (h : JS CJ H b jn ak sd ma ta tk pc ms ts i j dn) : JS CJ H (!b) jn ak sd ta ma tk pc ts ms j i dn :=
  ⟨h.hj, by rw [pk_swap]; exact h.hsd, h.hta, h.hma, by rw [pk_swap]; exact h.htk, h.hpc, h.ne.1, h.ne.2.2.2.1, h.ne.2.2.2.2, h.ne.2.1, h.ne.2.2.1⟩
theorem JS.keep {i' j' : Nat} {dn' : List Nat} (h : JS CJ H b jn ak sd ma ta tk pc ms ts i j dn) (e : Fr [tk, pc] H H') (h1 : H' tk = some (.lst (pk b (.int i') (.int j')))) (h2 : H' pc = some (.lst (nL dn'))) : JS CJ H' b jn ak sd ma ta tk pc ms ts i' j' dn' := by
  have n2 : ∀ {x : Addr}, x ≠ tk -> x ≠ pc -> x ∉ [tk, pc] := fun a b z => (yAE.mp z).elim a fun z => b (yAR.mp z)
  have hj : jn ∉ [tk, pc] := n2 (Ne.symm (h.hj.ne h.htk fun _ _ _ z => by cases z)) (Ne.symm (h.hj.ne h.hpc fun _ _ _ z => by cases z))
  have hs : sd ∉ [tk, pc] := n2 (fun z => by have := h.hsd; rw [z, h.htk] at this; cases this) (fun z => by have := h.hsd; rw [z, h.hpc] at this; cases this)
  exact ⟨ZCx e hj h.hj, e _ _ hs h.hsd, e _ _ (n2 h.ne.2.1 h.ne.2.2.1) h.hma, e _ _ (n2 h.ne.2.2.2.1 h.ne.2.2.2.2) h.hta, h1, h2, h.ne⟩
theorem JS.fr {S : List Addr} (h : JS CJ H b jn ak sd ma ta tk pc ms ts i j dn) (e : Fr S H H') (n : jn ∉ S /\ sd ∉ S /\ ma ∉ S /\ ta ∉ S /\ tk ∉ S /\ pc ∉ S) : JS CJ H' b jn ak sd ma ta tk pc ms ts i j dn :=
  ⟨ZCx e n.1 h.hj, e _ _ n.2.1 h.hsd, e _ _ n.2.2.1 h.hma, e _ _ n.2.2.2.1 h.hta, e _ _ n.2.2.2.2.1 h.htk, e _ _ n.2.2.2.2.2 h.hpc, h.ne⟩
theorem JS.mono (h : JS CJ H b jn ak sd ma ta tk pc ms ts i j dn) (e : Same H H') : JS CJ H' b jn ak sd ma ta tk pc ms ts i j dn :=
  h.fr (S := []) e.fr ⟨yBL, yBL, yBL, yBL, yBL, yBL⟩
end
def ZDg (CJ : Addr) : Sp := fun vs H Q _ => ∃ (x dx ak al ar : Addr) (ls rs : List Nat), vs = [.ref x, .ref ak, .ref al, .ref ar] /\ H x = some (.ins CJ dx []) /\ H al = some (.lst (nL ls)) /\ H ar = some (.lst (nL rs)) /\
  ∀ sd la ra tk pc H', (∀ b o, b ≠ x -> H b = some o -> H' b = some o) -> H sd = none -> H la = none -> H ra = none -> H tk = none -> H pc = none -> JS CJ H' true x ak sd la ra tk pc ls rs 0 0 [] -> Q .non H'
def ZCN (CJ : Addr) : Sp := fun vs H Q _ => ∃ (b : Bool) (jn ak sd ma ta tk pc : Addr) (ms ts : List Nat) (i j : Nat) (dn : List Nat), vs = [.ref jn, .int (sv b)] /\ JS CJ H b jn ak sd ma ta tk pc ms ts i j dn /\ Q (.bl (decide (i < ms.length))) H
def ZDI (CJ : Addr) : Sp := fun vs H Q _ => ∃ (b : Bool) (jn ak sd ma ta tk pc : Addr) (ms ts : List Nat) (i j : Nat) (dn : List Nat) (x : Nat), vs = [.ref jn, .int (sv b)] /\ JS CJ H b jn ak sd ma ta tk pc ms ts i j dn /\ ms[i]? = some x /\ Q (.int x) H
def ZCM (CJ : Addr) : Sp := fun vs H Q _ => ∃ (b : Bool) (jn ak sd ma ta tk pc : Addr) (ms ts : List Nat) (i j : Nat) (dn : List Nat) (m : Nat), vs = [.ref jn, .int (sv b), .int m] /\ JS CJ H b jn ak sd ma ta tk pc ms ts i j dn /\ i + m <= ms.length /\ dn.length + ms.length <= 1000 /\
  ∀ H', Fr [tk, pc] H H' -> JS CJ H' b jn ak sd ma ta tk pc ms ts (i + m) j (dn ++ (ms.drop i).take m) -> Q .non H'
def ZCW (CJ : Addr) : Sp := fun vs H Q _ => ∃ (b : Bool) (jn ak sd ma ta tk pc : Addr) (ms ts : List Nat) (i j : Nat) (dn : List Nat), vs = [.ref jn, .int (sv b)] /\ JS CJ H b jn ak sd ma ta tk pc ms ts i j dn /\ i <= ms.length /\ dn.length + ms.length <= 1000 /\
  ∀ H', Fr [tk, pc] H H' -> JS CJ H' b jn ak sd ma ta tk pc ms ts ms.length j (dn ++ ms.drop i) -> Q .non H'
theorem SitL.apart {CA CR : Addr} {H H' : Hp} {ks : List Int} {xs : RowC} {a rl ru tl g lg : Addr} {pr : List (Nat × Nat)} {S : List Addr} (h : SitL CA CR H ks xs a rl ru tl g lg pr) (e : Fr S H H') (hS : ∀ b ∈ S, ∃ l, H b = some (.lst l)) (n : rl ∉ S /\ lg ∉ S /\ tl ∉ S) : SitL CA CR H' ks xs a rl ru tl g lg pr := by
  have k : ∀ {b : Addr} {o : HO}, H b = some o -> (∀ l, o ≠ .lst l) -> H' b = some o := fun {b o} hb z => e _ _ (fun m => by obtain ⟨l, hl⟩ := hS b m; rw [hl] at hb; exact z _ (Option.some.inj hb).symm) hb
  have ki : ∀ {b C : Addr} {fl : List (Str × V)}, Ins H b C fl -> Ins H' b C fl := fun hi => let ⟨dx, fs, h1, h2, h3⟩ := hi.ex; ⟨dx, fs, k h1 (fun _ z => by cases z), h2, h3⟩
  obtain ⟨ws, h4, h5⟩ := h.hlg
  obtain ⟨us, h6, h7⟩ := h.htl
  have hrow : ∀ (i : Nat) kk, ks[i]? = some kk -> ∃ r, xs.v[i]? = some (V.ref r) /\ H' r = some (.tup [.int kk, .int i]) := fun i kk hk => by
    obtain ⟨r, a1, a2⟩ := h.row i kk hk
    exact ⟨r, a1, k a2 (fun _ z => by cases z)⟩
  have hclo := h.clo.mono (H' := H') (fun b o hb => k hb (fun _ z => by cases z))
  have hl := h5.keep (H' := H') (fun _ _ z => k z (fun _ y => by cases y))
  have ht := h7.keep (H' := H') (fun _ _ z => k z (fun _ y => by cases y))
  exact ⟨ki h.ha, e _ _ n.1 h.hrl, ki h.hru, hclo, h.len, hrow, ⟨ws, e _ _ n.2.1 h4, hl⟩, ⟨us, e _ _ n.2.2 h6, ht⟩, h.ne⟩
structure NX (a rl lg tl jn sd ma ta tk pc : Addr) : Prop where
  n1 : jn ∉ [a, lg, tl] /\ sd ∉ [a, lg, tl] /\ ma ∉ [a, lg, tl] /\ ta ∉ [a, lg, tl] /\ tk ∉ [a, lg, tl] /\ pc ∉ [a, lg, tl]
  n2 : rl ∉ [tk, pc] /\ lg ∉ [tk, pc] /\ tl ∉ [tk, pc]
theorem NX.swap {a rl lg tl jn sd ma ta tk pc : Addr} (h : NX a rl lg tl jn sd ma ta tk pc) : NX a rl lg tl jn sd ta ma tk pc := ⟨⟨h.n1.1, h.n1.2.1, h.n1.2.2.2.1, h.n1.2.2.1, h.n1.2.2.2.2⟩, h.n2⟩
theorem fr_sub {S S' : List Addr} {H H' : Hp} (h : Fr S H H') (k : ∀ b ∈ S, b ∈ S') : Fr S' H H' := fun b o n hb => h b o (fun m => n (k b m)) hb
theorem fr5a {a lg tl tk pc : Addr} {H H' : Hp} (h : Fr [a, lg, tl] H H') : Fr [a, lg, tl, tk, pc] H H' := fr_sub h fun b hb => by
  rcases yAE.mp hb with z | z
  . rw [z]; exact yAF
  rcases yAE.mp z with z | z
  . rw [z]; exact yAC _ yAF
  . rw [yAR.mp z]; exact yAC _ (yAC _ yAF)
theorem fr5b {a lg tl tk pc : Addr} {H H' : Hp} (h : Fr [tk, pc] H H') : Fr [a, lg, tl, tk, pc] H H'   := fr_sub h fun b hb => yAC _ (yAC _ (yAC _ hb))
section
variable {CA CR CJ : Addr} {H H' : Hp} {b : Bool} {ks : List Int} {xs : RowC} {jn a rl ru tl g lg sd ma ta tk pc : Addr} {ms ts : List Nat} {i j : Nat} {dn : List Nat} {pr : List (Nat × Nat)}
theorem JS.lsts (h : JS CJ H b jn a sd ma ta tk pc ms ts i j dn) : ∀ c ∈ [tk, pc], ∃ l, H c = some (.lst l) := fun c hc => by
  rcases yAE.mp hc with z | z
  . rw [z]; exact ⟨_, h.htk⟩
  . rw [yAR.mp z]; exact ⟨_, h.hpc⟩
end
def ZEf (CA CR CJ : Addr) : Sp := fun vs H Q _ => ∃ (ks : List Int) (xs : RowC) (a rl ru tl g lg jn sd la ra tk pc : Addr) (pr : List (Nat × Nat)) (ls rs dn : List Nat) (i j x y : Nat), vs = [.ref jn] /\ SitL CA CR H ks xs a rl ru tl g lg pr /\ JS CJ H true jn a sd la ra tk pc ls rs i j dn /\ NX a rl lg tl jn sd la ra tk pc /\ ls[i]? = some x /\ rs[j]? = some y /\ x ≠ y /\ x < ks.length /\ y < ks.length /\ pr.length <= 70000 /\ dn.length + ls.length <= 1000 /\ dn.length + rs.length <= 1000 /\
  ∀ H', Fr [a, lg, tl, tk, pc] H H' -> SitL CA CR H' ks xs a rl ru tl g lg (pr ++ [(max x y, min x y)]) -> (lx ks x y -> JS CJ H' true jn a sd la ra tk pc ls rs (i + 1) j (dn ++ [x])) -> (¬ lx ks x y -> JS CJ H' true jn a sd la ra tk pc ls rs i (j + 1) (dn ++ [y])) -> Q (.int (sv (decide (lx ks x y)))) H'
def ZDF (CA CR CJ : Addr) : Sp := fun vs H Q _ => ∃ (ks : List Int) (xs : RowC) (a rl ru tl g lg jn sd ma ta tk pc : Addr) (b : Bool) (pr : List (Nat × Nat)) (ms ts dn : List Nat) (i j y z : Nat), vs = [.ref jn, .int (sv b)] /\ SitL CA CR H ks xs a rl ru tl g lg pr /\ JS CJ H b jn a sd ma ta tk pc ms ts i j dn /\ NX a rl lg tl jn sd ma ta tk pc /\ ts[j]? = some y /\ ms.length <= 500 /\ (∀ x ∈ ms, x < ks.length /\ x ≠ y) /\ y < ks.length /\ pr.length <= 70000 /\ dn.length + ms.length + ts.length <= 1000 /\ i <= z /\ z <= ms.length /\ (∀ k u, i <= k -> ms[k]? = some u -> (lx ks u y ↔ k < z)) /\
  ∀ H' G, Fr [a, lg, tl, tk, pc] H H' -> Gal z ms.length i i i G -> SitL CA CR H' ks xs a rl ru tl g lg (pr ++ G.map (ask1 ms y)) -> (z < ms.length -> JS CJ H' b jn a sd ma ta tk pc ms ts z (j + 1) (dn ++ (ms.drop i).take (z - i) ++ [y])) -> (z = ms.length -> JS CJ H' b jn a sd ma ta tk pc ms ts z j (dn ++ (ms.drop i).take (z - i))) -> Q .non H'
def ZCg (CA CR : Addr) : Sp := fun vs H Q _ => ∃ (ks : List Int) (xs : RowC) (a rl ru tl g lg al ar : Addr) (pr : List (Nat × Nat)) (ls rs : List Nat), vs = [.ref a, .ref al, .ref ar] /\ SitL CA CR H ks xs a rl ru tl g lg pr /\ H al = some (.lst (nL ls)) /\ H ar = some (.lst (nL rs)) /\ ls.length <= 250 /\ rs.length <= 250 /\ (∀ x ∈ ls, x < ks.length) /\ (∀ x ∈ rs, x < ks.length) /\ ls.Pairwise (lx ks) /\ rs.Pairwise (lx ks) /\ (∀ x ∈ ls, ∀ y ∈ rs, x ≠ y) /\ pr.length <= 60000 /\
  ∀ l H' ps L, Fr [a, lg, tl] H H' -> H l = none -> H' l = some (.lst (nL ps)) -> JT ks ls rs 0 0 0 true ps L -> SitL CA CR H' ks xs a rl ru tl g lg (pr ++ L) -> Q (.ref l) H'
theorem seg_cons {os : List Nat} {i x z : Nat} (h : os[i]? = some x) (hz : i + 1 <= z) : (os.drop i).take (z - i) = x :: (os.drop (i + 1)).take (z - (i + 1)) := by
  rw [ZBv h, show z - i = z - (i + 1) + 1 by omega, List.take_succ_cons]
theorem ZDD {os : List Nat} {i x : Nat} (h : os[i]? = some x) : (os.drop i).take 1 = [x] := by
  rw [ZBv h]; rfl
def JInv (C_Asker C_AskedRule C_Join : Addr) (ks : List Int) (xs : RowC) (a rl ru tl g lg al ar jn sd la ra tk pc : Addr) (pr : List (Nat × Nat)) (ls rs : List Nat) (H2 : Hp) (mm' : Nat) (σ : St) (H' : Hp) : Prop := ∃ (i j w : Nat) (s : Bool) (v6 : Option V) (dn : List Nat) (as : List (Nat × Nat)), mm' = (ls.length - i) + (rs.length - j) /\ σ = [some (.ref a), some (.ref al), some (.ref ar), some (.ref jn), some (.int w), some (.int (sv s)), v6] /\ i <= ls.length /\ j <= rs.length /\ w <= 3 /\ dn.length = i + j /\ as.length <= 20 * (i + j) /\ Fr [a, lg, tl, tk, pc] H2 H' /\ SitL C_Asker C_AskedRule H' ks xs a rl ru tl g lg (pr ++ as) /\ JS C_Join H' true jn a sd la ra tk pc ls rs i j dn /\ ∀ ps L, JT ks ls rs i j w s ps L -> JT ks ls rs 0 0 0 true (dn ++ ps) (as ++ L)
theorem JInv.of {C_Asker C_AskedRule C_Join : Addr} {ks : List Int} {xs : RowC} {a rl ru tl g lg al ar jn sd la ra tk pc : Addr} {pr : List (Nat × Nat)} {ls rs : List Nat} {H2 : Hp} {H' : Hp} {i j w : Nat} {s : Bool} {v6 : Option V} {dn : List Nat} {as : List (Nat × Nat)} (h1 : i <= ls.length) (h2 : j <= rs.length) (h3 : w <= 3) (h4 : dn.length = i + j) (h5 : as.length <= 20 * (i + j)) (h6 : Fr [a, lg, tl, tk, pc] H2 H') (h7 : SitL C_Asker C_AskedRule H' ks xs a rl ru tl g lg (pr ++ as)) (h8 : JS C_Join H' true jn a sd la ra tk pc ls rs i j dn) (h9 : ∀ ps L, JT ks ls rs i j w s ps L -> JT ks ls rs 0 0 0 true (dn ++ ps) (as ++ L)) : JInv C_Asker C_AskedRule C_Join ks xs a rl ru tl g lg al ar jn sd la ra tk pc pr ls rs H2 ((ls.length - i) + (rs.length - j)) [some (.ref a), some (.ref al), some (.ref ar), some (.ref jn), some (.int w), some (.int (sv s)), v6] H' := ⟨i, j, w, s, v6, dn, as, rfl, rfl, h1, h2, h3, h4, h5, h6, h7, h8, h9⟩
theorem JInv.fin {C_Asker C_AskedRule C_Join : Addr} {ks : List Int} {xs : RowC} {a rl ru tl g lg al ar jn sd la ra tk pc : Addr} {pr : List (Nat × Nat)} {ls rs : List Nat} {H2 : Hp} {i j : Nat} {b : Bool} {ma ta : Addr} {ms ts : List Nat} {mi tj : Nat} {x6 : Option V} {w' : Nat} {H4 : Hp} {dn' : List Nat} {as' : List (Nat × Nat)} (hb : (b = true /\ ma = la /\ ta = ra /\ ms = ls /\ ts = rs) ∨ (b = false /\ ma = ra /\ ta = la /\ ms = rs /\ ts = ls)) (h1 : mi <= ms.length) (h2 : tj <= ts.length) (h3 : w' <= 3) (h4 : i + j < mi + tj) (h5 : dn'.length = mi + tj) (h6 : as'.length <= 20 * (mi + tj)) (h7 : Fr [a, lg, tl, tk, pc] H2 H4) (h8 : SitL C_Asker C_AskedRule H4 ks xs a rl ru tl g lg (pr ++ as')) (h9 : JS C_Join H4 b jn a sd ma ta tk pc ms ts mi tj dn') (h10 : ∀ ps L, JT ks ms ts mi tj w' true ps L -> JT ks ms ts 0 0 0 b (dn' ++ ps) (as' ++ L)) (hi : i <= ls.length) (hj : j <= rs.length) : ∃ m', m' < ls.length - i + (rs.length - j) /\ JInv C_Asker C_AskedRule C_Join ks xs a rl ru tl g lg al ar jn sd la ra tk pc pr ls rs H2 m' [some (V.ref a), some (.ref al), some (.ref ar), some (.ref jn), some (.int w'), some (.int (sv b)), x6] H4 := by
  rcases hb with ⟨rfl, rfl, rfl, rfl, rfl⟩ | ⟨rfl, rfl, rfl, rfl, rfl⟩
  . exact ⟨_, by omega, JInv.of h1 h2 h3 h5 h6 h7 h8 h9 h10⟩
  . exact ⟨_, by omega, JInv.of (s := false) h2 h1 h3 (by omega) (by omega) h7 h8 h9.swap fun ps L h => JT.swap (h10 ps L (JT.swap (s := true) h))⟩
theorem cut_var {P : TS} {D : Ends} {x y : Option V} {H : Hp} {o1 o2 : Int} {c : Prop} [Decidable c] (h : ∀ o : Int, (c /\ o = o1) ∨ (¬ c /\ o = o2) -> Cut P D [x, y, some (.int o)] H) : if c then Cut P D [x, y, some (.int o1)] H else Cut P D [x, y, some (.int o2)] H := by
  split
  . rename_i h1; exact h o1 (.inl ⟨h1, rfl⟩)
  . rename_i h1; exact h o2 (.inr ⟨h1, rfl⟩)
theorem onceP (P : Prop) {M G : Prop} (h : (P -> M) -> G) (t : P -> M) : G := h t
def NF (ks : List Int) (ls rs : List Nat) (i j w : Nat) (s : Bool) (L : List (Nat × Nat)) : Prop := ∀ x y, ls[i]? = some x -> rs[j]? = some y -> lx ks x y ->
  (nw w s ≠ 4 -> ∃ ps' L', JT ks ls rs (i + 1) j (nw w s) true ps' L' /\ L = (max x y, min x y) :: L') /\
  (nw w s = 4 -> ∃ z G ps' L', i + 1 <= z /\ z <= ls.length /\ (∀ k u, i + 1 <= k -> ls[k]? = some u -> (lx ks u y ↔ k < z)) /\ Gal z ls.length (i + 1) (i + 1) (i + 1) G /\ JT ks ls rs z (if z < ls.length then j + 1 else j) 0 true ps' L' /\ L = (max x y, min x y) :: (G.map (ask1 ls y) ++ L'))
theorem JT.inv {ks : List Int} {ls rs ps : List Nat} {i j w : Nat} {s : Bool} {L : List (Nat × Nat)} (h : JT ks ls rs i j w s ps L) : NF ks ls rs i j w s L /\ NF ks rs ls j i w (!s) L /\ (¬ (i < ls.length /\ j < rs.length) -> L = []) := by
  induction h with
  | done n =>
    refine ⟨fun x y a b => absurd ⟨(yAH.mp a).1, (yAH.mp b).1⟩ n, fun x y a b => absurd ⟨(yAH.mp b).1, (yAH.mp a).1⟩ n, fun _ => rfl⟩
  | step a b c d e ih =>
    refine ⟨fun x y a' b' c' => ?_, fun x y a' b' c' => ?_, fun n => absurd ⟨(yAH.mp a).1, (yAH.mp b).1⟩ n⟩
    . rw [a] at a'; cases a'; rw [b] at b'; cases b'
      exact ⟨fun _ => ⟨_, _, e, rfl⟩, fun z => absurd z d⟩
    . rw [a] at b'; cases b'; rw [b] at a'; cases a'
      exact absurd c' (ZCH c)
  | leap a b c d e f g k l ih =>
    refine ⟨fun x y a' b' c' => ?_, fun x y a' b' c' => ?_, fun n => absurd ⟨(yAH.mp a).1, (yAH.mp b).1⟩ n⟩
    . rw [a] at a'; cases a'; rw [b] at b'; cases b'
      exact ⟨fun z => absurd d z, fun _ => ⟨_, _, _, _, e, yBI f, g, k, by rw [if_pos f]; exact l, rfl⟩⟩
    . rw [a] at b'; cases b'; rw [b] at a'; cases a'
      exact absurd c' (ZCH c)
  | last a b c d g k l ih =>
    refine ⟨fun x y a' b' c' => ?_, fun x y a' b' c' => ?_, fun n => absurd ⟨(yAH.mp a).1, (yAH.mp b).1⟩ n⟩
    . rw [a] at a'; cases a'; rw [b] at b'; cases b'
      exact ⟨fun z => absurd d z, fun _ => ⟨_, _, _, _, (yAH.mp a).1, yAB _, fun k u h1 h2 => ⟨fun _ => (yAH.mp h2).1, fun _ => g k u h1 h2⟩, k, by rw [if_neg (yBQ _)]; exact l, rfl⟩⟩
    . rw [a] at b'; cases b'; rw [b] at a'; cases a'
      exact absurd c' (ZCH c)
  | swap h ih =>
    obtain ⟨i1, i2, i3⟩ := ih
    rw [Bool.not_not] at i2
    exact ⟨i2, i1, fun n => i3 fun z => n ⟨z.2, z.1⟩⟩
theorem spot_uniq {ks : List Int} {os : List Nat} {f y z z' : Nat} (h1 : f <= z) (h2 : z <= os.length) (h3 : ∀ k u, f <= k -> os[k]? = some u -> (lx ks u y ↔ k < z)) (h1' : f <= z') (h2' : z' <= os.length) (h3' : ∀ k u, f <= k -> os[k]? = some u -> (lx ks u y ↔ k < z')) : z = z' := by
  rcases Nat.lt_trichotomy z z' with h | h | h
  . have e := yAQ (show z < os.length by omega)
    exact absurd ((h3 z _ h1 e).mp ((h3' z _ h1 e).mpr h)) (by omega)
  . exact h
  . have e := yAQ (show z' < os.length by omega)
    exact absurd ((h3' z' _ h1' e).mp ((h3 z' _ h1' e).mpr h)) (by omega)
theorem NF.uniq {ks : List Int} {ls rs : List Nat} {i j w x y n : Nat} {s : Bool} {L L' : List (Nat × Nat)} (ih : ∀ {i j w : Nat} {s : Bool} {ps ps' : List Nat} {L L' : List (Nat × Nat)}, (ls.length - i) + (rs.length - j) < n -> JT ks ls rs i j w s ps L -> JT ks ls rs i j w s ps' L' -> L = L')
    (hn : (ls.length - i) + (rs.length - j) = n) (a : ls[i]? = some x) (b : rs[j]? = some y) (c : lx ks x y) (h : NF ks ls rs i j w s L) (h' : NF ks ls rs i j w s L') : L = L' := by
  have hi := (yAH.mp a).1
  obtain ⟨s1, s2⟩ := h x y a b c
  obtain ⟨t1, t2⟩ := h' x y a b c
  by_cases z : nw w s = 4
  . obtain ⟨z1, G, p, K, a1, a2, a3, a4, a5, rfl⟩ := s2 z
    obtain ⟨z2, G', p', K', b1, b2, b3, b4, b5, rfl⟩ := t2 z
    clear s1 s2 t1 t2
    have ez := spot_uniq a1 a2 a3 b1 b2 b3
    subst ez
    have eG := a4.uniq b4
    subst eG
    rw [ih (by split <;> omega) a5 b5]
  . obtain ⟨p, K, a1, rfl⟩ := s1 z
    obtain ⟨p', K', b1, rfl⟩ := t1 z
    clear s1 s2 t1 t2
    rw [ih (by omega) a1 b1]
theorem JT.uniq {ks : List Int} : ∀ (n : Nat) {ls rs ps ps' : List Nat} {i j w : Nat} {s : Bool} {L L' : List (Nat × Nat)}, (ls.length - i) + (rs.length - j) = n -> (∀ x ∈ ls, ∀ y ∈ rs, x ≠ y) -> JT ks ls rs i j w s ps L -> JT ks ls rs i j w s ps' L' -> L = L' := by
  intro n
  induction n using Nat.strongRecOn with
  | ind n ih =>
    intro ls rs ps ps' i j w s L L' hn hd h h'
    obtain ⟨u1, u2, u3⟩ := h.inv
    obtain ⟨v1, v2, v3⟩ := h'.inv
    by_cases hb : i < ls.length /\ j < rs.length
    . have a := yAQ hb.1
      have b := yAQ hb.2
      have hxy := hd _ (yAV a) _ (yAV b)
      by_cases c : lx ks ls[i] rs[j]
      . exact NF.uniq (n := n) (fun z p q => ih _ z rfl hd p q) hn a b c u1 v1
      . exact NF.uniq (n := n) (fun z p q => ih _ z rfl (fun x hx y hy e => hd y hy x hx e.symm) p q) (by omega) b a (ZEJ hxy c) u2 v2
    . rw [u3 hb, v3 hb]
abbrev fPl (a : Addr) (ls s e r : Int) (fs od gr : Addr) : List (Str × V) := [("grades", .ref gr), ("orders", .ref od), ("firsts", .ref fs), ("reached", .int r), ("end", .int e), ("start", .int s), ("least", .int ls), ("asker", .ref a)]
theorem fPl_reached {a fs od gr : Addr} {ls s e r r' : Int} : ∀ f, (putF "reached" (.int r') (fPl a ls s e r fs od gr)).lookup f = (fPl a ls s e r' fs od gr).lookup f := fun f => by
  rw [ZAc]
  by_cases h : f = ("reached" : Str)
  . subst h
    rw [if_pos rfl]
    exact (show List.lookup _ (fPl a ls s e r' fs od gr) = some (.int r') by walk_at "lk").symm
  . simp only [lkc, h, if_false]
def Ch (ks : List Int) : Nat -> List (Nat × List Nat) -> Nat -> Prop
  | x, [], y => x = y
  | x, (f, o) :: r, y => f = x /\ ∃ m, x < m /\ OrdN ks x m o /\ Ch ks m r y
theorem Ch.app {ks : List Int} : ∀ {x y : Nat} {A B : List (Nat × List Nat)}, Ch ks x (A ++ B) y ↔ ∃ m, Ch ks x A m /\ Ch ks m B y
  | x, y, [], B => ⟨fun h => ⟨x, rfl, h⟩, fun ⟨m, h1, h2⟩ => by have e : x = m := h1; rw [e]; exact h2⟩
  | x, y, (f, o) :: r, B => by
    constructor
    . rintro ⟨h1, m, h2, h3, h4⟩
      obtain ⟨m', h5, h6⟩ := Ch.app.mp h4
      exact ⟨m', ⟨h1, m, h2, h3, h5⟩, h6⟩
    . rintro ⟨m', ⟨h1, m, h2, h3, h5⟩, h6⟩
      exact ⟨h1, m, h2, h3, Ch.app.mpr ⟨m', h5, h6⟩⟩
theorem Ch.le {ks : List Int} : ∀ {x y : Nat} {ps : List (Nat × List Nat)}, Ch ks x ps y -> x + ps.length <= y
  | x, y, [], h => by have e : x = y := h; rw [e]; exact yAB _
  | x, y, (f, o) :: r, ⟨h1, m, h2, h3, h4⟩ => by have := Ch.le h4; rw [yAI]; omega
def flt (ps : List (Nat × List Nat)) : List Nat := (ps.map Prod.snd).flatten
theorem ZCz (A B : List (Nat × List Nat)) : flt (A ++ B) = flt A ++ flt B := by unfold flt; rw [yAO, List.flatten_append]
theorem Ch.flen {ks : List Int} : ∀ {x y : Nat} {ps : List (Nat × List Nat)}, Ch ks x ps y -> (flt ps).length = y - x
  | x, y, [], h => by have e : x = y := h; rw [e]; show 0 = _; omega
  | x, y, (f, o) :: r, ⟨h1, m, h2, h3, h4⟩ => by
    have h5 := Ch.flen h4
    have h6 := Ch.le h4
    show (o ++ flt r).length = _
    rw [yAA, h3.len, h5]
    omega
def bB : List (Nat × List Nat) -> Nat -> Nat
  | [], r => r
  | p :: _, _ => p.1
theorem Ch.bey {ks : List Int} {x y : Nat} {ps : List (Nat × List Nat)} (h : Ch ks x ps y) : bB ps y = x := by
  cases ps with
  | nil => exact h.symm
  | cons p r => exact h.1
theorem ordN_of {ks : List Int} {x y : Nat} {o : List Nat} (h1 : o.Pairwise (lx ks)) (h2 : ∀ u, u ∈ o ↔ x <= u /\ u < y) : OrdN ks x y o := by
  refine ⟨?_, h2, h1⟩
  have n1 : o.Nodup := h1.imp fun {a b} h e => by subst e; exact ZCH h h
  have hp : o.Perm (List.range' x (y - x)) := (List.perm_ext_iff_of_nodup n1 List.nodup_range').mpr fun u => by rw [h2, List.mem_range'_1]; omega
  rw [hp.length_eq, yCJ]
theorem OrdN.join {ks : List Int} {x m y : Nat} {o1 o2 o : List Nat} {L : List (Nat × Nat)} (h1 : OrdN ks x m o1) (h2 : OrdN ks m y o2) (a : x < m) (b : m < y) (h : JT ks o1 o2 0 0 0 true o L) : OrdN ks x y o :=
  ordN_of (h.sorted h1.srt h2.srt fun u hu v hv => by have := (h1.mem u).mp hu; have := (h2.mem v).mp hv; omega) fun u => by
    rw [h.mem, List.drop_zero, List.drop_zero, h1.mem, h2.mem]
    omega
theorem Ch.two {ks : List Int} {x y v1 v2 : Nat} {o1 o2 : List Nat} {A B : List (Nat × List Nat)} (h : Ch ks x (A ++ (v1, o1) :: (v2, o2) :: B) y) : ∃ v3, Ch ks x A v1 /\ v1 < v2 /\ v2 < v3 /\ OrdN ks v1 v2 o1 /\ OrdN ks v2 v3 o2 /\ Ch ks v3 B y /\ bB B y = v3 := by
  obtain ⟨m, h1, h2, m2, h3, h4, h5, m3, h6, h7, h8⟩ := Ch.app.mp h
  subst h2 h5
  exact ⟨m3, h1, h3, h6, h4, h7, h8, h8.bey⟩
theorem Ch.join {ks : List Int} {x y v1 v2 : Nat} {o1 o2 o : List Nat} {A B : List (Nat × List Nat)} {L : List (Nat × Nat)} (h : Ch ks x (A ++ (v1, o1) :: (v2, o2) :: B) y) (hj : JT ks o1 o2 0 0 0 true o L) : Ch ks x (A ++ (v1, o) :: B) y := by
  obtain ⟨v3, h1, h2, h3, h4, h5, h6, _⟩ := h.two
  exact Ch.app.mpr ⟨v1, h1, rfl, v3, by omega, h4.join h5 h2 h3 hj, h6⟩
def dueB (gs : List Nat) : Bool := match gs.reverse with
  | g2 :: g1 :: _ => decide (g2 < g1)
  | _ => false
theorem dueB_two (G : List Nat) (g1 g2 : Nat) : dueB (G ++ [g1, g2]) = decide (g2 < g1) := by unfold dueB; rw [List.reverse_append]; rfl
theorem dueB_few {gs : List Nat} (h : gs.length <= 1) : dueB gs = false := by
  match gs, h with
  | [], _ => rfl
  | [g], _ => rfl
theorem ZDC {α : Type} {l : List α} (h : 2 <= l.length) : ∃ A x y, l = A ++ [x, y] := by
  refine ⟨l.take (l.length - 2), l[l.length - 2], l[l.length - 1], ?_⟩
  have e1 : l.drop (l.length - 2) = [l[l.length - 2], l[l.length - 1]] := by
    rw [yCI (by omega), show l.length - 2 + 1 = l.length - 1 by omega, yCI (by omega), show l.length - 1 + 1 = l.length by omega, List.drop_length]
  rw [<- e1, yBK]
structure PInv (ks : List Int) (s e r : Nat) (ps : List (Nat × List Nat)) (gs : List Nat) : Prop where
  ch : Ch ks s ps r
  re : r <= e
  gl : gs.length = ps.length - 1
  gb : ∀ g ∈ gs, g <= 240
structure StJ (ks : List Int) (e : Nat) (ps : List (Nat × List Nat)) (gs : List Nat) (r v1 v2 v3 : Nat) (L : List (Nat × Nat)) (ps' : List (Nat × List Nat)) (gs' : List Nat) (A : List (Nat × List Nat)) (o1 o2 o : List Nat) (B : List (Nat × List Nat)) : Prop where
  e1 : ps = A ++ (v1, o1) :: (v2, o2) :: B
  e2 : ps' = A ++ (v1, o) :: B
  e3 : v3 = bB B r
  jt : JT ks o1 o2 0 0 0 true o L
  e4 : gs' = gs.eraseIdx A.length
  wh : (dueB gs = true /\ B.length = 1) ∨ (dueB gs = false /\ r = e /\ B = [])
structure StL (ks : List Int) (ls s e : Nat) (ps : List (Nat × List Nat)) (gs : List Nat) (r v1 v2 v3 : Nat) (L : List (Nat × Nat)) (ps' : List (Nat × List Nat)) (gs' : List Nat) (r' : Nat) (f : Bool) (os : List Nat) (l : List (Nat × Nat)) : Prop where
  e1 : v1 = r
  lt : r < e
  by' : Beyond ks r e v2 f
  put : Put ks (ZBk r v2 f) v2 (min (r + ls) e) os l
  e2 : L = asks r (min (v2 + 1) e) ++ l
  e3 : v3 = max v2 (min (r + ls) e)
  e4 : r' = v3
  e5 : ps' = ps ++ [(r, os)]
  wh : dueB gs = false
  gr : (ps = [] /\ gs' = gs) ∨ ∃ A p g, ps = A ++ [p] /\ gs' = gs ++ [g] /\ Gr.IsG ((e : Int) - s) (((p.1 : Int) - s) + ((r : Int) - s)) (((r : Int) - s) + ((v3 : Int) - s)) g /\ g <= 240
def Stp (ks : List Int) (ls s e : Nat) (ps : List (Nat × List Nat)) (gs : List Nat) (r : Nat) (k : Bool) (v1 v2 v3 : Nat) (L : List (Nat × Nat)) (ps' : List (Nat × List Nat)) (gs' : List Nat) (r' : Nat) : Prop :=
  (k = true /\ r' = r /\ ∃ A o1 o2 o B, StJ ks e ps gs r v1 v2 v3 L ps' gs' A o1 o2 o B) ∨ (k = false /\ ∃ f os l, StL ks ls s e ps gs r v1 v2 v3 L ps' gs' r' f os l)
theorem Beyond.two {ks : List Int} {first stop j : Nat} {f : Bool} (h : Beyond ks first stop j f) : first < j /\ j <= stop := by rcases h with ⟨z1, z2, _⟩ | ⟨_, _, z1, z2, _⟩ <;> omega
theorem StL.ord {ks : List Int} {ls s e : Nat} {ps : List (Nat × List Nat)} {gs : List Nat} {r v1 v2 v3 : Nat} {L : List (Nat × Nat)} {ps' : List (Nat × List Nat)} {gs' : List Nat} {r' : Nat} {f : Bool} {os : List Nat} {l : List (Nat × Nat)} (h : StL ks ls s e ps gs r v1 v2 v3 L ps' gs' r' f os l) : OrdN ks r v3 os /\ r < v3 /\ v3 <= e := by
  have hb := h.by'.two
  have := h.lt
  have e3 := h.e3
  obtain ⟨o1, _, _⟩ := h.put.all (first := r) (asks r (min (v2 + 1) e)) (by omega) h.by'.ord (fun i x y hx hy => (h.by'.adj i x y hx hy).2)
  rw [<- e3] at o1
  exact ⟨o1, by omega, by omega⟩
theorem Stp.inv {ks : List Int} {ls s e : Nat} {ps : List (Nat × List Nat)} {gs : List Nat} {r : Nat} {k : Bool} {v1 v2 v3 : Nat} {L : List (Nat × Nat)} {ps' : List (Nat × List Nat)} {gs' : List Nat} {r' : Nat} (h : Stp ks ls s e ps gs r k v1 v2 v3 L ps' gs' r') (i : PInv ks s e r ps gs) : PInv ks s e r' ps' gs' := by
  rcases h with ⟨_, rfl, A, o1, o2, o, B, j⟩ | ⟨_, f, os, l, j⟩
  . have e1 := j.e1
    subst e1
    have gl := i.gl
    refine ⟨by rw [j.e2]; exact i.ch.join j.jt, i.re, ?_, fun g hg => i.gb g ?_⟩
    . rw [j.e4, j.e2, List.length_eraseIdx_of_lt (by rw [gl]; simp), gl]
      simp
    . rw [j.e4] at hg
      exact List.mem_of_mem_eraseIdx hg
  . obtain ⟨o1, o2, o3⟩ := j.ord
    have e4 := j.e4
    subst e4
    have gl := i.gl
    have hc : Ch ks s ps' r' := by rw [j.e5]; exact Ch.app.mpr ⟨r, i.ch, rfl, r', o2, o1, rfl⟩
    rcases j.gr with ⟨g1, g2⟩ | ⟨A, p, g, g1, g2, g3, g4⟩
    . refine ⟨hc, o3, ?_, fun g hg => i.gb g (by rw [<- g2]; exact hg)⟩
      rw [g2, j.e5, gl, g1]; rfl
    . refine ⟨hc, o3, ?_, fun g' hg => ?_⟩
      . rw [g2, j.e5, yAA, yAA, gl, g1, yAA]; simp
      . rw [g2] at hg
        rcases yBC.mp hg with z | z
        . exact i.gb _ z
        . rw [yAR.mp z]; exact g4
theorem Stp.less {ks : List Int} {ls s e : Nat} {ps : List (Nat × List Nat)} {gs : List Nat} {r : Nat} {k : Bool} {v1 v2 v3 : Nat} {L : List (Nat × Nat)} {ps' : List (Nat × List Nat)} {gs' : List Nat} {r' : Nat} (h : Stp ks ls s e ps gs r k v1 v2 v3 L ps' gs' r') : 2 * (e - r') + ps'.length < 2 * (e - r) + ps.length := by
  rcases h with ⟨_, rfl, A, o1, o2, o, B, j⟩ | ⟨_, f, os, l, j⟩
  . rw [j.e1, j.e2]; simp
  . obtain ⟨o1, o2, o3⟩ := j.ord
    rw [j.e5, j.e4, yAA, yAW]
    omega
theorem Stp.cost {ks : List Int} {ls s e : Nat} {ps : List (Nat × List Nat)} {gs : List Nat} {r : Nat} {k : Bool} {v1 v2 v3 : Nat} {L : List (Nat × Nat)} {ps' : List (Nat × List Nat)} {gs' : List Nat} {r' : Nat} (h : Stp ks ls s e ps gs r k v1 v2 v3 L ps' gs' r') (i : PInv ks s e r ps gs) (hes : e - s <= 63) (hse : s <= r) : L.length + 126 * ps'.length + 191 * (r - s) <= 126 * ps.length + 191 * (r' - s) := by
  rcases h with ⟨_, rfl, A, o1, o2, o, B, j⟩ | ⟨_, f, os, l, j⟩
  . have e1 := j.e1
    subst e1
    obtain ⟨v3', h1, h2, h3, h4, h5, h6, _⟩ := i.ch.two
    have l1 := j.jt.len (by decide) (yAG _) (yAG _)
    have := h4.len
    have := h5.len
    have := h6.le
    have := h1.le
    have := i.re
    rw [j.e2]
    simp only [yAA, yAI]
    omega
  . obtain ⟨o1, o2, o3⟩ := j.ord
    have hb := j.by'.two
    have f1 := j.put.few
    rw [ZCp] at f1
    have e3 := j.e3
    have m1 : (min (r + ls) e - v2) * (v2 - r + (min (r + ls) e - v2)) <= (v3 - v2) * 63 := Nat.mul_le_mul (by omega) (by omega)
    rw [j.e5, j.e4, j.e2, yAA, yAA, yAW, ZDR]
    omega
theorem Halv.uniq {ks : List Int} {os : List Nat} {pl low high r r' : Nat} {l l' : List (Nat × Nat)} (h : Halv ks os pl low high r l) (h' : Halv ks os pl low high r' l') : r = r' /\ l = l' := by
  induction h generalizing r' l' with
  | done n => cases h' with
    | done _ => exact ⟨rfl, rfl⟩
    | less a => exact absurd a n
    | more a => exact absurd a n
  | less a b c d ih => cases h' with
    | done n => exact absurd a n
    | less a' b' c' d' => rw [b] at b'; cases b'; obtain ⟨e1, e2⟩ := ih d'; exact ⟨e1, by rw [e2]⟩
    | more a' b' c' d' => rw [b] at b'; cases b'; exact absurd c c'
  | more a b c d ih => cases h' with
    | done n => exact absurd a n
    | less a' b' c' d' => rw [b] at b'; cases b'; exact absurd c' c
    | more a' b' c' d' => rw [b] at b'; cases b'; obtain ⟨e1, e2⟩ := ih d'; exact ⟨e1, by rw [e2]⟩
theorem Put.uniq {ks : List Int} {os os1 os2 : List Nat} {p e : Nat} {l1 l2 : List (Nat × Nat)} (h : Put ks os p e os1 l1) (h' : Put ks os p e os2 l2) : os1 = os2 /\ l1 = l2 := by
  induction h generalizing os2 l2 with
  | nil n => cases h' with
    | nil _ => exact ⟨rfl, rfl⟩
    | cons a => exact absurd a n
  | cons a b c ih => cases h' with
    | nil n => exact absurd a n
    | cons a' b' c' =>
      obtain ⟨e1, e2⟩ := b.uniq b'
      subst e1 e2
      obtain ⟨e3, e4⟩ := ih c'
      exact ⟨e3, by rw [e4]⟩
def OrdAt (H : Hp) : List Addr -> List (Nat × List Nat) -> Prop
  | [], [] => True
  | b :: bs, p :: ps => H b = some (.lst (nL p.2)) /\ OrdAt H bs ps
  | _, _ => False
theorem OrdAt.len {H : Hp} : ∀ {oa : List Addr} {ps : List (Nat × List Nat)}, OrdAt H oa ps -> oa.length = ps.length
  | [], [], _ => rfl
  | b :: bs, p :: ps, h => by rw [yAI, yAI, OrdAt.len h.2]
  | [], p :: ps, h => h.elim
  | b :: bs, [], h => h.elim
theorem OrdAt.keep {H H' : Hp} : ∀ {oa : List Addr} {ps : List (Nat × List Nat)}, OrdAt H oa ps -> (∀ b ∈ oa, ∀ o, H b = some o -> H' b = some o) -> OrdAt H' oa ps
  | [], [], _, _ => trivial
  | b :: bs, p :: ps, h, e => ⟨e b yAF _ h.1, OrdAt.keep h.2 fun c hc => e c (yAC _ hc)⟩
  | [], p :: ps, h, _ => h.elim
  | b :: bs, [], h, _ => h.elim
theorem OrdAt.split {H : Hp} : ∀ {P : List (Nat × List Nat)} {oa : List Addr} {Q : List (Nat × List Nat)}, OrdAt H oa (P ++ Q) -> ∃ A B, oa = A ++ B /\ A.length = P.length /\ OrdAt H A P /\ OrdAt H B Q
  | [], oa, Q, h => ⟨[], oa, rfl, rfl, trivial, h⟩
  | p :: P, [], Q, h => h.elim
  | p :: P, b :: bs, Q, h => by
    obtain ⟨A, B, e1, e2, e3, e4⟩ := OrdAt.split (P := P) h.2
    exact ⟨b :: A, B, by rw [e1]; rfl, by rw [yAI, yAI, e2], ⟨h.1, e3⟩, e4⟩
theorem OrdAt.app {H : Hp} : ∀ {P : List (Nat × List Nat)} {A B : List Addr} {Q : List (Nat × List Nat)}, OrdAt H A P -> OrdAt H B Q -> OrdAt H (A ++ B) (P ++ Q)
  | [], [], B, Q, _, h => h
  | p :: P, [], B, Q, h, _ => h.elim
  | [], b :: bs, B, Q, h, _ => h.elim
  | p :: P, b :: bs, B, Q, h, h' => ⟨h.1, OrdAt.app h.2 h'⟩
theorem OrdAt.get {H : Hp} : ∀ {ps : List (Nat × List Nat)} {oa : List Addr} {i : Nat} {b : Addr}, OrdAt H oa ps -> oa[i]? = some b -> ∃ p, ps[i]? = some p /\ H b = some (.lst (nL p.2))
  | [], [], i, b, _, e => by simp at e
  | p :: P, [], i, b, h, _ => h.elim
  | [], c :: bs, i, b, h, _ => h.elim
  | p :: P, c :: bs, 0, b, h, e => by cases e; exact ⟨p, rfl, h.1⟩
  | p :: P, c :: bs, i + 1, b, h, e => by
    obtain ⟨p', a1, a2⟩ := OrdAt.get (ps := P) (oa := bs) (i := i) h.2 (by simpa using e)
    exact ⟨p', by simpa using a1, a2⟩
theorem OrdAt.two {H : Hp} {oa : List Addr} {A B : List (Nat × List Nat)} {p1 p2 : Nat × List Nat} (h : OrdAt H oa (A ++ p1 :: p2 :: B)) : ∃ OA b1 b2 OB, oa = OA ++ b1 :: b2 :: OB /\ OA.length = A.length /\ OrdAt H OA A /\ H b1 = some (.lst (nL p1.2)) /\ H b2 = some (.lst (nL p2.2)) /\ OrdAt H OB B := by
  obtain ⟨OA, R, e1, e2, e3, e4⟩ := h.split
  match R, e4 with
  | b1 :: b2 :: OB, e4 => exact ⟨OA, b1, b2, OB, e1, e2, e3, e4.1, e4.2.1, e4.2.2⟩
  | [b1], e4 => exact e4.2.elim
  | [], e4 => exact e4.elim
theorem atI_refs {oa : List Addr} {m : Nat} {b : Addr} (h : oa[m]? = some b) : atI (oa.map V.ref) (m : Int) = some (.ref b) := ZAW (by omega) (by rw [Int.toNat_natCast, yAY, h]; rfl)
theorem ZDM {α : Type} (X : List α) (x : α) (Y : List α) : (X ++ x :: Y)[X.length]? = some x := by rw [yBA (yAB _), yBH]; rfl
theorem ZCS {α : Type} (X : List α) (x y : α) (Y : List α) : (X ++ x :: y :: Y)[X.length + 1]? = some y := by rw [yBA (by omega), Nat.add_sub_cancel_left]; rfl
theorem set_mid {α : Type} (X : List α) (x y : α) (Y : List α) : (X ++ x :: Y).set X.length y = X ++ y :: Y := by rw [List.set_append_right _ _ (yAB _), yBH]; rfl
theorem er_mid2 {α : Type} (X : List α) (x y : α) (Y : List α) : (X ++ x :: y :: Y).eraseIdx (X.length + 1) = X ++ x :: Y := by rw [List.eraseIdx_append_of_length_le (by omega), Nat.add_sub_cancel_left]; rfl
theorem atI_m2 {l : List V} {x y : V} : atI (l ++ [x, y]) (-2) = some x := by
  unfold atI ixN
  rw [yAA, show ([x, y] : List V).length = 2 from rfl, if_neg (by decide), if_pos (by omega), show ((-2 : Int) + ((l.length + 2 : Nat) : Int)).toNat = l.length by omega]
  exact ZDM l x [y]
theorem atI_m1 {l : List V} {y : V} : atI (l ++ [y]) (-1) = some y := by
  unfold atI ixN
  rw [yAA, show ([y] : List V).length = 1 from rfl, if_neg (by decide), if_pos (by omega), show ((-1 : Int) + ((l.length + 1 : Nat) : Int)).toNat = l.length by omega]
  exact ZDM l y []
structure PileAt (CP : Addr) (H : Hp) (x a fs od gr : Addr) (ls s e r : Nat) (oa : List Addr) (ps : List (Nat × List Nat)) (gs : List Nat) : Prop where
  hp : Ins H x CP (fPl a ls s e r fs od gr)
  hfs : H fs = some (.lst (nL (ps.map Prod.fst)))
  hod : H od = some (.lst (oa.map V.ref))
  hgr : H gr = some (.lst (nL gs))
  oat : OrdAt H oa ps
  ne : fs ≠ od /\ fs ≠ gr /\ od ≠ gr
  nb : ∀ b ∈ oa, b ∉ [fs, od, gr]
structure PXl (a rl ru lg tl x fs od gr : Addr) (oa : List Addr) : Prop where
  n1 : x ∉ [a, lg, tl] /\ fs ∉ [a, lg, tl] /\ od ∉ [a, lg, tl] /\ gr ∉ [a, lg, tl]
  n2 : ∀ b ∈ oa, b ∉ [a, lg, tl]
  n3 : rl ∉ [fs, od, gr]
  nr : ru ≠ x
section
variable {CP : Addr} {H H' : Hp} {x a fs od gr : Addr} {ls s e r : Nat} {oa : List Addr} {ps : List (Nat × List Nat)} {gs : List Nat}
theorem PileAt.fr {S : List Addr} (h : PileAt CP H x a fs od gr ls s e r oa ps gs) (f : Fr S H H') (n : x ∉ S /\ fs ∉ S /\ od ∉ S /\ gr ∉ S) (n2 : ∀ b ∈ oa, b ∉ S) : PileAt CP H' x a fs od gr ls s e r oa ps gs :=
  ⟨ZCx f n.1 h.hp, f _ _ n.2.1 h.hfs, f _ _ n.2.2.1 h.hod, f _ _ n.2.2.2 h.hgr, h.oat.keep fun b hb o => f b o (n2 b hb), h.ne, h.nb⟩
theorem PileAt.mono (h : PileAt CP H x a fs od gr ls s e r oa ps gs) (f : Same H H') : PileAt CP H' x a fs od gr ls s e r oa ps gs := h.fr (S := []) f.fr ⟨yBL, yBL, yBL, yBL⟩ fun _ _ => yBL
theorem PileAt.lsts (h : PileAt CP H x a fs od gr ls s e r oa ps gs) : ∀ c ∈ [fs, od, gr], ∃ l, H c = some (.lst l) := fun c hc => by
  rcases yAE.mp hc with z | z
  . rw [z]; exact ⟨_, h.hfs⟩
  rcases yAE.mp z with z | z
  . rw [z]; exact ⟨_, h.hod⟩
  . rw [yAR.mp z]; exact ⟨_, h.hgr⟩
theorem PileAt.xl (h : PileAt CP H x a fs od gr ls s e r oa ps gs) : x ∉ [fs, od, gr] := fun z => by
  obtain ⟨l, hl⟩ := h.lsts x z
  exact h.hp.ne hl (fun _ _ _ z => by cases z) rfl
end
theorem SitL.butN {CA CR C d x : Addr} {f : List (Str × V)} {H H' : Hp} {ks : List Int} {xs : RowC} {a rl ru tl g lg : Addr} {pr : List (Nat × Nat)} (h : SitL CA CR H ks xs a rl ru tl g lg pr) (hx : H x = some (.ins C d f)) (nx : x ∉ [a, lg, tl]) (nru : ru ≠ x) (e : ∀ b o, b ≠ x -> H b = some o -> H' b = some o) : SitL CA CR H' ks xs a rl ru tl g lg pr := by
  have k : ∀ {b : Addr} {o : HO}, H b = some o -> (∀ C d f, o ≠ .ins C d f) -> H' b = some o := fun {b o} hb z => e b o (fun m => by rw [m, hx] at hb; exact z _ _ _ (Option.some.inj hb).symm) hb
  have ki : ∀ {b C : Addr} {fl : List (Str × V)}, b ≠ x -> Ins H b C fl -> Ins H' b C fl := fun n hi => let ⟨dx, fs, h1, h2, h3⟩ := hi.ex; ⟨dx, fs, e _ _ n h1, h2, h3⟩
  have na : a ≠ x := fun z => nx (by rw [<- z]; exact yAF)
  obtain ⟨ws, h4, h5⟩ := h.hlg
  obtain ⟨us, h6, h7⟩ := h.htl
  exact ⟨ki na h.ha, k h.hrl (fun _ _ _ z => by cases z), ki nru h.hru, h.clo.mono (fun b o hb => k hb (fun _ _ _ z => by cases z)), h.len, fun i kk hk => let ⟨r, a1, a2⟩ := h.row i kk hk; ⟨r, a1, k a2 (fun _ _ _ z => by cases z)⟩, ⟨ws, k h4 (fun _ _ _ z => by cases z), h5.keep fun _ _ z => k z (fun _ _ _ y => by cases y)⟩, ⟨us, k h6 (fun _ _ _ z => by cases z), h7.keep fun _ _ z => k z (fun _ _ _ y => by cases y)⟩, h.ne⟩
def ZCY (CA CP : Addr) : Sp := fun vs H Q _ => ∃ (x dx a : Addr) (ls s e : Nat) (pz : V), vs = [.ref x, .ref a, .int ls, pz] /\ H x = some (.ins CP dx []) /\ ((∃ pt, pz = .ref pt /\ H pt = some (.tup [.int s, .int e])) ∨ (pz = .non /\ s = 0 /\ a ≠ x /\ ∃ rl ru m n tl xs, Ins H a CA (fA rl ru m n tl) /\ H rl = some (.lst xs) /\ xs.length = e)) /\
  ∀ fs od gr H', (∀ b o, b ≠ x -> H b = some o -> H' b = some o) -> H fs = none -> H od = none -> H gr = none -> PileAt CP H' x a fs od gr ls s e s [] [] [] -> Q .non H'
def ZCa (CP : Addr) : Sp := fun vs H Q _ => ∃ (x a fs od gr : Addr) (ls s e r : Nat) (oa : List Addr) (A : List (Nat × List Nat)) (p : Nat × List Nat) (B : List (Nat × List Nat)) (gs : List Nat), vs = [.ref x, .int (A.length : Nat)] /\ PileAt CP H x a fs od gr ls s e r oa (A ++ p :: B) gs /\ Q (.int (bB B r : Nat)) H
def ZEh (CP : Addr) : Sp := fun vs H Q _ => ∃ (x a fs od gr : Addr) (ls s e r : Nat) (oa : List Addr) (ps : List (Nat × List Nat)) (gs : List Nat), vs = [.ref x] /\ PileAt CP H x a fs od gr ls s e r oa ps gs /\ Q (.bl (dueB gs)) H
def ZDf (CP : Addr) : Sp := fun vs H Q _ => ∃ (x a fs od gr : Addr) (ls s e r : Nat) (oa : List Addr) (A : List (Nat × List Nat)) (p : Nat × List Nat) (gs : List Nat) (m b : Nat), vs = [.ref x, .int m, .int b] /\ PileAt CP H x a fs od gr ls s e r oa (A ++ [p]) gs /\ s <= p.1 /\ p.1 < m /\ m < b /\ b <= e /\ e <= 63 /\ ∀ g : Nat, Gr.IsG ((e : Int) - s) (((p.1 : Int) - s) + ((m : Int) - s)) (((m : Int) - s) + ((b : Int) - s)) g -> g <= 240 -> Q (.int g) H
def kS (k : Bool) : V := if k then .str "join" else .str "lay"
def Left (CA CR CP : Addr) (H : Hp) (ks : List Int) (xs : RowC) (a rl ru tl g lg x fs od gr : Addr) (pr : List (Nat × Nat)) (ls s e : Nat) (oa : List Addr) (k : Bool) (v1 v2 v3 : Nat) (L : List (Nat × Nat)) (oa' : List Addr) (ps' : List (Nat × List Nat)) (gs' : List Nat) (r' : Nat) (t : Addr) (H' : Hp) : Prop :=
  Fr [x, fs, od, gr, a, lg, tl] H H' /\ (∀ b ∈ oa', b ∈ oa ∨ H b = none) /\ H' t = some (.tup [kS k, .int v1, .int v2, .int v3]) /\ PileAt CP H' x a fs od gr ls s e r' oa' ps' gs' /\ PXl a rl ru lg tl x fs od gr oa' /\ SitL CA CR H' ks xs a rl ru tl g lg (pr ++ L)
def ZCq (CA CR CP : Addr) : Sp := fun vs H Q _ => ∃ (ks : List Int) (xs : RowC) (a rl ru tl g lg x fs od gr : Addr) (pr : List (Nat × Nat)) (ls s e r : Nat) (oa : List Addr) (A : List (Nat × List Nat)) (v1 v2 : Nat) (o1 o2 : List Nat) (B : List (Nat × List Nat)) (gs : List Nat), vs = [.ref x, .int (A.length : Nat)] /\ SitL CA CR H ks xs a rl ru tl g lg pr /\ PileAt CP H x a fs od gr ls s e r oa (A ++ (v1, o1) :: (v2, o2) :: B) gs /\ PXl a rl ru lg tl x fs od gr oa /\ Ch ks s (A ++ (v1, o1) :: (v2, o2) :: B) r /\ A.length < gs.length /\ r <= ks.length /\ ks.length <= 63 /\ pr.length <= 13000 /\
  ∀ t H' o L oa', JT ks o1 o2 0 0 0 true o L -> Left CA CR CP H ks xs a rl ru tl g lg x fs od gr pr ls s e oa true v1 v2 (bB B r) L oa' (A ++ (v1, o) :: B) (gs.eraseIdx A.length) r t H' -> Q (.ref t) H'
def ZEg (CA CR CP : Addr) : Sp := fun vs H Q _ => ∃ (ks : List Int) (xs : RowC) (a rl ru tl g lg x fs od gr : Addr) (pr : List (Nat × Nat)) (ls s e r : Nat) (oa : List Addr) (ps : List (Nat × List Nat)) (gs : List Nat), vs = [.ref x] /\ SitL CA CR H ks xs a rl ru tl g lg pr /\ PileAt CP H x a fs od gr ls s e r oa ps gs /\ PXl a rl ru lg tl x fs od gr oa /\ PInv ks s e r ps gs /\ dueB gs = false /\ r < e /\ e <= ks.length /\ ks.length <= 63 /\ ls <= 500 /\ pr.length <= 13000 /\
  ∀ t H' v2 v3 L oa' ps' gs' f os l, StL ks ls s e ps gs r r v2 v3 L ps' gs' v3 f os l -> Left CA CR CP H ks xs a rl ru tl g lg x fs od gr pr ls s e oa false r v2 v3 L oa' ps' gs' v3 t H' -> Q (.ref t) H'
def ZD8 (CA CR CP : Addr) : Sp := fun vs H Q _ => ∃ (ks : List Int) (xs : RowC) (a rl ru tl g lg x fs od gr : Addr) (pr : List (Nat × Nat)) (ls s e r : Nat) (oa : List Addr) (ps : List (Nat × List Nat)) (gs : List Nat), vs = [.ref x] /\ SitL CA CR H ks xs a rl ru tl g lg pr /\ PileAt CP H x a fs od gr ls s e r oa ps gs /\ PXl a rl ru lg tl x fs od gr oa /\ PInv ks s e r ps gs /\ e <= ks.length /\ ks.length <= 63 /\ ls <= 500 /\ pr.length <= 13000 /\
  (dueB gs = false -> r = e -> ps.length <= 1 -> Q .non H) /\
  ∀ t H' k v1 v2 v3 L oa' ps' gs' r', Stp ks ls s e ps gs r k v1 v2 v3 L ps' gs' r' -> Left CA CR CP H ks xs a rl ru tl g lg x fs od gr pr ls s e oa k v1 v2 v3 L oa' ps' gs' r' t H' -> Q (.ref t) H'
def ZDe (CP : Addr) : Sp := fun vs H Q _ => ∃ (x a fs od gr : Addr) (ls s e r : Nat) (oa : List Addr) (ps : List (Nat × List Nat)) (gs : List Nat), vs = [.ref x] /\ PileAt CP H x a fs od gr ls s e r oa ps gs /\ (flt ps).length <= 63 /\ r <= e /\ e <= 63 /\ ∀ l H', Same H H' -> H l = none -> H' l = some (.lst (nL (flt ps ++ List.range' r (e - r)))) -> Q (.ref l) H'
def ZCZ : Sp := fun vs H Q _ => ∃ (c : Int) (n : Nat), vs = [.int c, .int n] /\ n <= 63 /\ ∀ t H' (s e : Nat), Same H H' -> H t = none -> H' t = some (.tup [.int s, .int e]) -> s <= e -> e <= n -> Q (.ref t) H'
theorem ZDq {l : List Nat} {i j : Nat} (h : i <= j) (hj : j <= l.length) : cutV (nL l) (some (i : Int)) (some (j : Int)) = nL ((l.drop i).take (j - i)) := by
  unfold cutV
  rw [HT.sIx_nat, HT.sIx_nat, yAD, yBG (show i <= l.length by omega), yBG hj]
  unfold nL
  rw [<- yCE, <- yCD]
theorem ZEB {X Y Z : List Nat} {i j : Nat} (h1 : X.length = i) (h2 : Y.length = j - i) : ((X ++ (Y ++ Z)).drop i).take (j - i) = Y := by
  rw [<- h1, List.drop_left, h1, <- h2, List.take_left]
theorem Prs.dp {K : W.Frag} {H : Hp} : ∀ {pr : List (Nat × Nat)} {ts : List V}, Prs H pr ts -> DpAll K H (pr.map fun c => .tuple [.int (c.1 : Nat), .int (c.2 : Nat)]) ts
  | [], ts, h => by
    have : ts = [] := List.length_eq_zero_iff.mp h.len
    subst this
    exact .nil
  | c :: r, [], h => by have := h.len; cases this
  | (p, q) :: r, v :: ts, h => by
    obtain ⟨t, a, b⟩ := h.get 0 p q rfl
    have ev : v = .ref t := Option.some.inj a
    subst ev
    refine .cons (dp_tup (SqT.of b) (.two (dp_int _) (dp_int _))) (Prs.dp ⟨by have := h.len; simpa using this, fun j p' q' hj => ?_⟩)
    obtain ⟨t', a', b'⟩ := h.get (j + 1) p' q' (by simpa using hj)
    exact ⟨t', by simpa using a', b'⟩
theorem pd_lay : ∀ pr : List (Nat × Nat), PyData.canLayAll0 (pr.map fun c => PyData.tuple [.int (c.1 : Nat), .int (c.2 : Nat)]) = true
  | [] => by unfold PyData.canLayAll0 List.map; rfl
  | c :: r => by
    rw [yAZ]
    unfold PyData.canLayAll0
    rw [pd_lay r]
    unfold PyData.canLay0 PyData.canLayAll0 PyData.canLayAll0 PyData.canLayAll0 PyData.canLay0
    rfl
theorem pd_dep : ∀ pr : List (Nat × Nat), PyData.depthAll (pr.map fun c => PyData.tuple [.int (c.1 : Nat), .int (c.2 : Nat)]) <= 1
  | [] => by unfold List.map PyData.depthAll; decide
  | c :: r => by
    rw [yAZ]
    unfold PyData.depthAll
    have h1 := pd_dep r
    have h2 : (PyData.tuple [.int (c.1 : Nat), .int (c.2 : Nat)]).depth <= 1 := by unfold PyData.depth PyData.depthAll PyData.depthAll PyData.depthAll PyData.depth; decide
    omega
theorem prs_ne {K : W.Frag} {H : Hp} {pr : List (Nat × Nat)} {ts ts' : List V} {x y : Addr} {Q : VK} (hx : H x = some (.lst ts)) (hy : H y = some (.lst ts')) (h : Prs H pr ts) (h' : Prs H pr ts') (q : Q (.bl false) H) : rNeD K (.ref x) (.ref y) H Q :=
  neD_refl (d := .list (pr.map fun c => .tuple [.int (c.1 : Nat), .int (c.2 : Nat)])) (ZEM (SqL.of hx) h.dp) (ZEM (SqL.of hy) h'.dp) (by unfold PyData.canLay0; exact pd_lay pr) (by unfold PyData.depth; have := pd_dep pr; omega) q
structure Sds (ks : List Int) (s v1 v2 v3 : Nat) (pl : List Nat) (X o1 o2 Z : List Nat) : Prop where
  e : pl = X ++ (o1 ++ (o2 ++ Z))
  hx : X.length = v1 - s
  le : s <= v1 /\ v1 < v2 /\ v2 < v3 /\ v3 <= ks.length
  h1 : OrdN ks v1 v2 o1
  h2 : OrdN ks v2 v3 o2
def ZDJ (Pt : Addr) : Sp := fun vs H Q _ => ∃ (t rw pt pp lg : Addr) (ks : List Int) (xs : List V) (ls s e : Nat) (pl : List Nat) (k : Bool) (v1 v2 v3 : Nat) (X o1 o2 Z : List Nat), vs = [.ref t, .ref rw, .int ls, .ref pt, .ref pp, .ref lg] /\ TabSt H Pt (ZBM ZAI) "_law_teller.<locals>._law_ask" /\ H t = some (.tup [kS k, .int v1, .int v2, .int v3]) /\ H rw = some (.lst xs) /\ Things H ks xs /\ ks.length <= 63 /\ H pt = some (.tup [.int s, .int e]) /\ H pp = some (.lst (nL pl)) /\ pp ≠ lg /\ H lg = some (.lst []) /\ (k = false -> v1 < e /\ e <= ks.length /\ ls <= 500) /\ (k = true -> Sds ks s v1 v2 v3 pl X o1 o2 Z) /\
  ∀ l H' L os ws, (∀ b o, b ≠ Pt -> b ≠ lg -> H b = some o -> H' b = some o) -> TabSt H' Pt (ZBM ZAI) "_law_teller.<locals>._law_ask" -> H' l = some (.lst (nL os)) -> H' lg = some (.lst ws) -> Prs H' L ws -> (k = false -> ∃ j f l', Beyond ks v1 e j f /\ Put ks (ZBk v1 j f) j (min (v1 + ls) e) os l' /\ L = asks v1 (min (j + 1) e) ++ l') -> (k = true -> JT ks o1 o2 0 0 0 true os L) -> Q (.ref l) H'
theorem sitl_clear {CA CR : Addr} {H : Hp} {ks : List Int} {xs : RowC} {a rl ru tl g lg : Addr} {pr : List (Nat × Nat)} (h : SitL CA CR H ks xs a rl ru tl g lg pr) : SitL CA CR (upd H lg (.lst [])) ks ⟨xs.v, pr.length⟩ a rl ru tl g lg pr := by
  obtain ⟨ws, hlg, _⟩ := h.hlg
  obtain ⟨ts, htl, hts⟩ := h.htl
  have k : ∀ t o, H t = some o -> (∀ x, o ≠ .lst x) -> L2.upd H lg (.lst []) t = some o := fun t o z no => by
    rw [ZAH (fun e => by rw [e, hlg] at z; exact no _ (Option.some.inj z).symm)]; exact z
  have nla : lg ≠ a := h.ha.ne hlg fun _ _ _ z => by cases z
  have nrl : rl ≠ lg := fun z => h.ne.2.1 (by rw [z]; exact yAC _ yAF)
  refine ⟨h.ha.keep (ZAH (Ne.symm nla)), by rw [ZAH nrl]; exact h.hrl, ?_, ?_, h.len, fun i c hk => ?_, ⟨[], ZAG, yAB _, by rw [List.drop_length]; rfl, fun j p q z => by rw [List.drop_length] at z; simp at z⟩, ⟨ts, by rw [ZAH (Ne.symm h.ne.1)]; exact htl, hts.keep fun t x z => k _ _ z (fun _ z => by cases z)⟩, h.ne⟩
  . obtain ⟨d1, f1, e1, e2, e3⟩ := h.hru.ex
    exact ⟨d1, f1, k _ _ e1 (fun _ z => by cases z), e2, e3⟩
  . exact h.clo.mono fun b o hb => k _ _ hb (fun _ z => by cases z)
  . obtain ⟨r, a1, a2⟩ := h.row i c hk
    exact ⟨r, a1, k _ _ a2 (fun _ z => by cases z)⟩
theorem PileAt.butT {CP : Addr} {H H' : Hp} {x a fs od gr : Addr} {ls s e r : Nat} {oa : List Addr} {ps : List (Nat × List Nat)} {gs : List Nat} (h : PileAt CP H x a fs od gr ls s e r oa ps gs) (f : ∀ b o, H b = some o -> (∀ t, o ≠ .tbl t) -> H' b = some o) : PileAt CP H' x a fs od gr ls s e r oa ps gs := by
  obtain ⟨dx, fl, h1, h2, h3⟩ := h.hp.ex
  refine ⟨⟨dx, fl, f _ _ h1 (fun _ z => by cases z), h2, h3⟩, f _ _ h.hfs (fun _ z => by cases z), f _ _ h.hod (fun _ z => by cases z), f _ _ h.hgr (fun _ z => by cases z), h.oat.keep fun b hb o ho => f _ _ ho ?_, h.ne, h.nb⟩
  obtain ⟨i, hi⟩ := yBF hb
  obtain ⟨p', _, hp'⟩ := h.oat.get hi
  rw [hp'] at ho
  rw [<- Option.some.inj ho]
  exact fun _ z => by cases z
structure W59 (CA CR CP Pt : Addr) (X : Hp) (ks : List Int) (xs : List V) (ak rl ru tl g lg x fs od gr rw pt pp : Addr) (pr : List (Nat × Nat)) (ls s e r : Nat) (oa : List Addr) (ps : List (Nat × List Nat)) (gs : List Nat) (pl : List Nat) : Prop where
  tab : TabSt X Pt (ZBM ZAI) "_law_teller.<locals>._law_ask"
  hrw : X rw = some (.lst xs)
  th : Things X ks xs
  hpt : X pt = some (.tup [.int s, .int e])
  hpp : X pp = some (.lst (nL pl))
  npp : pp ∉ [x, fs, od, gr, ak, lg, tl]
  pa : PileAt CP X x ak fs od gr ls s e r oa ps gs
  px : PXl ak rl ru lg tl x fs od gr oa
  pi : PInv ks s e r ps gs
  cs : pr.length + 126 * ps.length <= 191 * (r - s)
def I59 (CA CR CP Pt : Addr) (ks : List Int) (xs : List V) (ak rl ru tl g lg x fs od gr rw pt a : Addr) (ls s e : Nat) (n : Nat) (σ : St) (X : Hp) : Prop :=
  ∃ (sv : V) (pp : Addr) (v8 v9 : Option V) (pr L : List (Nat × Nat)) (r : Nat) (oa : List Addr) (ps : List (Nat × List Nat)) (gs : List Nat) (pl : List Nat),
    σ = [some (.ref a), some (.ref rw), some (.int ls), some (.ref pt), some (.ref lg), some (.ref x), some (.ref pp), some sv, v8, v9] /\ W59 CA CR CP Pt X ks xs ak rl ru tl g lg x fs od gr rw pt pp (pr ++ L) ls s e r oa ps gs pl /\ SitL CA CR X ks ⟨xs, pr.length⟩ ak rl ru tl g lg (pr ++ L) /\
    ((sv = .non /\ L = [] /\ n = 0) ∨ ∃ t k v1 v2 v3 r0 ps0 gs0, sv = .ref t /\ n = 2 * (e - r) + ps.length + 1 /\ X t = some (.tup [kS k, .int (v1 : Nat), .int (v2 : Nat), .int (v3 : Nat)]) /\ PInv ks s e r0 ps0 gs0 /\ Stp ks ls s e ps0 gs0 r0 k v1 v2 v3 L ps gs r /\ pl = flt ps0 ++ List.range' r0 (e - r0))
theorem ZCm (p : Nat × List Nat) (B : List (Nat × List Nat)) : flt (p :: B) = p.2 ++ flt B := rfl
theorem Stp.beside {ks : List Int} {ls s e : Nat} {ps : List (Nat × List Nat)} {gs : List Nat} {r : Nat} {k : Bool} {v1 v2 v3 : Nat} {L : List (Nat × Nat)} {ps' : List (Nat × List Nat)} {gs' : List Nat} {r' : Nat} (h : Stp ks ls s e ps gs r k v1 v2 v3 L ps' gs' r') (i : PInv ks s e r ps gs) (hek : e <= ks.length) (hls : ls <= 500) : ∃ X o1 o2 Z os X2 Z2, (k = false -> v1 < e /\ e <= ks.length /\ ls <= 500) /\ (k = true -> Sds ks s v1 v2 v3 (flt ps ++ List.range' r (e - r)) X o1 o2 Z) /\ (∀ os' L', (k = false -> ∃ j f l', Beyond ks v1 e j f /\ Put ks (ZBk v1 j f) j (min (v1 + ls) e) os' l' /\ L' = asks v1 (min (j + 1) e) ++ l') -> (k = true -> JT ks o1 o2 0 0 0 true os' L') -> L' = L /\ os' = os) /\ flt ps' ++ List.range' r' (e - r') = X2 ++ (os ++ Z2) /\ X2.length = v1 - s /\ os.length = v3 - v1 /\ s <= v1 /\ v1 <= v3 := by
  have hre := i.re
  rcases h with ⟨rfl, rfl, A, o1, o2, o, B, j⟩ | ⟨rfl, f, os, l, j⟩
  . have e1 := j.e1
    subst e1
    obtain ⟨v3', c1, c2, c3, c4, c5, c6, c7⟩ := i.ch.two
    have e3 : v3 = v3' := j.e3.trans c7
    subst e3
    have c1l := c1.le
    have c6l := c6.le
    have dis : ∀ x ∈ o1, ∀ y ∈ o2, x ≠ y := fun u hu v hv => by have := (c4.mem u).mp hu; have := (c5.mem v).mp hv; omega
    have oj := c4.join c5 c2 c3 j.jt
    refine ⟨flt A, o1, o2, flt B ++ List.range' r' (e - r'), o, flt A, flt B ++ List.range' r' (e - r'), fun z => (by cases z), fun _ => ⟨?_, c1.flen, ⟨by omega, c2, c3, by omega⟩, c4, c5⟩, fun os' L' _ hJ => ?_, ?_, c1.flen, oj.len, by omega, by omega⟩
    . rw [ZCz, ZCm, ZCm]; simp only [yAJ]
    . have hJ := hJ rfl
      refine ⟨JT.uniq _ rfl dis hJ j.jt, hJ.order c4.srt c5.srt dis oj.srt fun u => ?_⟩
      rw [oj.mem, c4.mem, c5.mem]
      omega
    . rw [j.e2, ZCz, ZCm]; simp only [yAJ]
  . obtain ⟨o1, o2, o3⟩ := j.ord
    have e1 := j.e1
    subst e1
    have cl := i.ch.le
    refine ⟨[], [], [], [], os, flt ps, List.range' r' (e - r'), fun _ => ⟨j.lt, hek, hls⟩, fun z => (by cases z), fun os' L' hB _ => ?_, ?_, i.ch.flen, o1.len, by omega, by omega⟩
    . obtain ⟨j', f', l', b1, b2, b3⟩ := hB rfl
      obtain ⟨u1, u2⟩ := b1.uniq j.by'
      subst u1 u2
      obtain ⟨u3, u4⟩ := b2.uniq j.put
      subst u3 u4
      exact ⟨b3.trans j.e2.symm, rfl⟩
    . rw [j.e5, ZCz, ZCm]; simp only [yAJ]; rfl
theorem mem7 {x fs od gr ak lg tl b : Addr} {H : Hp} {o : HO} {CA CP : Addr} {f1 f2 : List (Str × V)} {l1 l2 l3 l4 l5 : List V} (hx : Ins H x CP f1) (h1 : H fs = some (.lst l1)) (h2 : H od = some (.lst l2)) (h3 : H gr = some (.lst l3)) (ha : Ins H ak CA f2) (h4 : H lg = some (.lst l4)) (h5 : H tl = some (.lst l5)) (hb : ∀ o, H b = some o -> (∀ l, o ≠ .lst l) /\ ∀ C d f, o ≠ .ins C d f) : b ∉ [x, fs, od, gr, ak, lg, tl] := fun z => by
  have L : ∀ {c : Addr} {l : List V}, H c = some (.lst l) -> b ≠ c := fun {c l} hc e => by rw [<- e] at hc; exact (hb _ hc).1 _ rfl
  have I : ∀ {c C : Addr} {f : List (Str × V)}, Ins H c C f -> b ≠ c := fun {c C f} hc e => by obtain ⟨d, fs, e1, _⟩ := hc.ex; rw [<- e] at e1; exact (hb _ e1).2 _ _ _ rfl
  rcases yAE.mp z with z | z
  . exact I hx z
  rcases yAE.mp z with z | z
  . exact L h1 z
  rcases yAE.mp z with z | z
  . exact L h2 z
  rcases yAE.mp z with z | z
  . exact L h3 z
  rcases yAE.mp z with z | z
  . exact I ha z
  rcases yAE.mp z with z | z
  . exact L h4 z
  . exact L h5 (yAR.mp z)
theorem W59.o7 {CA CR CP Pt : Addr} {X : Hp} {ks : List Int} {xs : List V} {c : Nat} {ak rl ru tl g lg x fs od gr rw pt pp : Addr} {pr pr' : List (Nat × Nat)} {ls s e r : Nat} {oa : List Addr} {ps : List (Nat × List Nat)} {gs : List Nat} {pl : List Nat} (w : W59 CA CR CP Pt X ks xs ak rl ru tl g lg x fs od gr rw pt pp pr ls s e r oa ps gs pl) (st : SitL CA CR X ks ⟨xs, c⟩ ak rl ru tl g lg pr') {b : Addr} (hb : ∀ o, X b = some o -> (∀ l, o ≠ .lst l) /\ ∀ C d f, o ≠ .ins C d f) : b ∉ [x, fs, od, gr, ak, lg, tl] := by
  obtain ⟨w1, h1, _⟩ := st.hlg
  obtain ⟨w2, h2, _⟩ := st.htl
  exact mem7 (o := .lst []) w.pa.hp w.pa.hfs w.pa.hod w.pa.hgr st.ha h1 h2 hb
theorem W59.step {CA CR CP Pt : Addr} {X Y : Hp} {ks : List Int} {xs : List V} {c : Nat} {ak rl ru tl g lg x fs od gr rw pt pp t : Addr} {pr L : List (Nat × Nat)} {ls s e r r' : Nat} {oa oa' : List Addr} {ps ps' : List (Nat × List Nat)} {gs gs' : List Nat} {pl : List Nat} {k : Bool} {v1 v2 v3 : Nat} (w : W59 CA CR CP Pt X ks xs ak rl ru tl g lg x fs od gr rw pt pp pr ls s e r oa ps gs pl) (st : SitL CA CR X ks ⟨xs, c⟩ ak rl ru tl g lg pr) (arw : rw ∉ [x, fs, od, gr, ak, lg, tl]) (aPt : Pt ∉ [x, fs, od, gr, ak, lg, tl]) (lf : Left CA CR CP X ks ⟨xs, c⟩ ak rl ru tl g lg x fs od gr pr ls s e oa k v1 v2 v3 L oa' ps' gs' r' t Y) (stp : Stp ks ls s e ps gs r k v1 v2 v3 L ps' gs' r') (hes : e - s <= 63) : W59 CA CR CP Pt Y ks xs ak rl ru tl g lg x fs od gr rw pt pp (pr ++ L) ls s e r' oa' ps' gs' pl := by
  obtain ⟨fr, hoa, ht, pa, px, st'⟩ := lf
  have hk : ∀ b o, X b = some o -> (∀ l, o ≠ .lst l) -> (∀ C d f, o ≠ .ins C d f) -> Y b = some o := fun b o h n1 n2 => fr _ _ (w.o7 st fun o' h' => by rw [h] at h'; rw [<- Option.some.inj h']; exact ⟨n1, n2⟩) h
  have cl := w.pi.ch.le
  have cc := stp.cost w.pi hes (by omega)
  have cs := w.cs
  have cl' := (stp.inv w.pi).ch.le
  refine ⟨?_, fr _ _ arw w.hrw, ⟨w.th.1, fun i kk hkk => let ⟨r0, a1, a2⟩ := w.th.2 i kk hkk; ⟨r0, a1, hk _ _ a2 (fun _ z => by cases z) (fun _ _ _ z => by cases z)⟩⟩, hk _ _ w.hpt (fun _ z => by cases z) (fun _ _ _ z => by cases z), fr _ _ w.npp w.hpp, w.npp, pa, px, stp.inv w.pi, by rw [yAA]; omega⟩
  . rcases w.tab with h | ⟨c', h, hc⟩
    . exact .inl (fr _ _ aPt h)
    . exact .inr ⟨c', fr _ _ aPt h, hc.mono fun b o hb => hk _ _ hb (fun _ z => by cases z) (fun _ _ _ z => by cases z)⟩
section
variable {P : Program} {w : World} {K : W.Frag} {mg : Str -> Option Value} {base : Heap} {C_Join C_Pile C_Asker C_AskedRule : Addr} {cc_teller Pt_teller : Addr}
theorem ok_teller {f : Addr} {fd : FuncData} (F : Fun K "_law_teller" "_law_teller" ZBm f fd) (hcd : fd.code = .ref cc_teller) (C : PySem.W.CodeHd base cc_teller Pt_teller) (B : ZDZ mg base) : FnOk P w K mg base CX0 1 f fd ["_law_written"] (ZDU Pt_teller (ZBM ZAI) "_law_ask" "_law_teller.<locals>._law_ask" (ZAN ZAI) (ZAL ZAI) (ZAC ZAI) ["_law_written"] [0] 1) :=
  teller_ok F sc_teller hcd C B rfl (fun _ _ => rfl) rfl rfl (fun _ _ => rfl) rfl (by decide) (by decide) (by decide +kernel) (by decide +kernel) (by decide +kernel) (hix_of rfl) rfl
theorem clo_teller (T : Bt K mg C_Join C_Pile C_Asker C_AskedRule) : CloOk P w K mg base 1 (ZBF) := by
  refine clo_of (k := 0) (iname := "_law_ask") (iq := "_law_teller.<locals>._law_ask") (ip := ZAN ZAI) (ib := ZAL ZAI) (isc := ZAC ZAI) csc_teller (fun f vs H Q h => ?_) (fun f vs H Q h => ?_) (fun cl doc pm ctv c' us hl => match us, hl with | [_, _], _ => rfl) (fun g cs cl cd A outer s H vs Q hr C h => ?_)
  . obtain ⟨g, x, y, lg, k, k2, i, j, ws, rfl, rfl, hclo, hx, hy, hlg, hws, q⟩ := h
    exact ⟨_, _, rfl, hclo⟩
  . obtain ⟨g, x, y, lg, k, k2, i, j, ws, rfl, rfl, hclo, hx, hy, hlg, hws, q⟩ := h
    rfl
  obtain ⟨g, x, y, lg, k, k2, i, j, ws, eg, rfl, hclo, hx, hy, hlg, hws, q⟩ := h
  cases eg
  obtain ⟨cl2, C2⟩ := hclo
  obtain rfl := C.inj' C2
  refine ⟨_, (ZAB (ZAl (ZCP PySem.F.plainAttrs_list PySem.F.slot_list_append PySem.F.type_list_append ZBj (pv 2) (ZAA (ZBu (ZAA (ZAa ZAj (pv 0) ZAF (fun _ _ => rfl)) (ZAA (ZAa ZAj (pv 1) ZAF (fun _ _ => rfl)) ZAE))) ZAE)))
   (ZAJ (ZAZ (ZCt ZC2 (ZAa ZAj (pv 0) ZAF (fun _ _ => rfl)) (ZAa ZAj (pv 1) ZAF (fun _ _ => rfl)) (ZAY _))))), ?_⟩
  walk_at "rd"
  have cells := C.cells
  have hx' : hid cl H x = some (.tup [.int k, .int i]) := ZBo cells hx (by intro ob z; cases z)
  have hy' : hid cl H y = some (.tup [.int k2, .int j]) := ZBo cells hy (by intro ob z; cases z)
  have hlg' : hid cl H lg = some (.lst ws) := ZBo cells hlg (by intro ob z; cases z)
  refine ⟨.inl ⟨rfl, _, SqL.of hlg'⟩, ZAk (SqT.of hx') (ZAW (by decide) rfl) (ZAk (SqT.of hy') (ZAW (by decide) rfl) ⟨ZAe (by decide), fun t ht => ?_⟩)⟩
  have ntl : t ≠ lg := fun z => by rw [z, hlg'] at ht; cases ht
  refine ⟨lg, ws, _, rfl, rfl, ZAS ht _ _ _ hlg', smallL (by omega), ?_⟩
  have hx2 : upd (upd (hid cl H) t (.tup [.int i, .int j])) lg (.lst (ws ++ [.ref t])) x = some (.tup [.int k, .int i]) := by
    rw [ZAH (fun z => by rw [z, hlg'] at hx'; cases hx'), ZAH (ZAD hx' ht)]; exact hx'
  have hy2 : upd (upd (hid cl H) t (.tup [.int i, .int j])) lg (.lst (ws ++ [.ref t])) y = some (.tup [.int k2, .int j]) := by
    rw [ZAH (fun z => by rw [z, hlg'] at hy'; cases hy'), ZAH (ZAD hy' ht)]; exact hy'
  refine ZAk (SqT.of hx2) (ZAW (by decide) rfl) (ZAk (SqT.of hy2) (ZAW (by decide) rfl) ⟨_, _, rfl, rfl, fun hn => ?_⟩)
  have nt := hn.ne (b := t) (by rw [ZAH ntl, ZAG])
  have nl := hn.ne (b := lg) ZAG
  rw [back_upd nl, back_upd nt, back_hid]
  exact q t (hid_none cells ht nt)
theorem ok_Asker_init {f : Addr} {fd : FuncData} {dv : List Value} (F : FunD K "__init__" "Asker.__init__" ZA7 f fd dv) (T : Bt K mg C_Join C_Pile C_Asker C_AskedRule)
    : FnOk P w K mg base CX0 1 f fd ["self", "row", "rule", "most"] (ZBl C_Asker) := by
  refine F.ok sc_Asker_init (fun vs H Q E h => ?_) (fun cdv A outer s H vs Q E hr h => ?_)
  . obtain ⟨x, dx, r, ru, m, xs, rfl, hx, hr', q⟩ := h
    rfl
  obtain ⟨x, dx, r, ru, m, xs, rfl, hx, hr', q⟩ := h
  refine ⟨_, (ZAB (ZA8 (pv 0) (ZBK ZBb rfl T.b_list PyProof.Rows.boot_list (ZAA (pv 1) ZAE)) rfl)
   (ZAB (ZA8 (pv 0) (pv 2) rfl)
   (ZAB (ZA8 (pv 0) (pv 3) rfl)
   (ZAB (ZA8 (pv 0) ZAF rfl)
   (ZAJ (ZA8 (pv 0) (ZBJ ZAE) rfl)))))), ?_⟩
  walk_at "rd"
  refine ⟨r, xs, rfl, .inl (SqL.of hr'), fun rl hrl => ?_⟩
  have hxr : x ≠ rl := ZAD hx hrl
  obtain ⟨H1, e1, s1, h1⟩ := newH hrl (.lst xs)
  rw [e1]; clear e1
  refine setX (s1 _ _ hx) T.cl_Asker T.n_Asker_row (by decide) fun H2 x2 k2 => ?_
  walk_at "rd"
  refine setX x2 T.cl_Asker T.n_Asker_rule ZES fun H3 x3 k3 => ?_
  walk_at "rd"
  refine setX x3 T.cl_Asker T.n_Asker_most ZER fun H4 x4 k4 => ?_
  walk_at "rd"
  refine setX x4 T.cl_Asker T.n_Asker_asked ZEQ fun H5 x5 k5 => ?_
  walk_at "rd"
  refine ⟨ZAe (by decide), fun tl htl => ?_⟩
  obtain ⟨H6, e6, s6, h6⟩ := newH htl (.lst [])
  rw [e6]; clear e6
  have hxt : x ≠ tl := ZAD x5 htl
  refine setX (s6 _ _ x5) T.cl_Asker T.n_Asker_told ZEj fun H7 x7 k7 => ?_
  have up : ∀ b o, b ≠ x -> H b = some o -> H5 b = some o := fun b o n e => by rw [k5 b n, k4 b n, k3 b n, k2 b n]; exact s1 b o e
  have h5 : H5 rl = some (.lst xs) := by rw [k5 rl (Ne.symm hxr), k4 rl (Ne.symm hxr), k3 rl (Ne.symm hxr), k2 rl (Ne.symm hxr)]; exact h1
  refine q rl tl H7 (fun b o n e => by rw [k7 b n]; exact s6 _ _ (up b o n e)) hrl ?_ (ZAD h5 htl) ((Ins.of x7 (yAK putL5 (by decide))).congr fA_canon) (by rw [k7 rl (Ne.symm hxr)]; exact s6 _ _ h5) (by rw [k7 tl (Ne.symm hxt)]; exact h6)
  cases e : H tl with
  | none => rfl
  | some o => rw [up tl o (Ne.symm hxt) e] at htl; cases htl
theorem ok_Asker_many {f : Addr} {fd : FuncData} (F : Fun K "many" "Asker.many" ZA6 f fd) (T : Bt K mg C_Join C_Pile C_Asker C_AskedRule)
    : FnOk P w K mg base CX0 1 f fd ["self"] (ZDT C_Asker) := by
  refine F.ok sc_Asker_many (fun vs H Q E h => ?_) (fun cdv A outer s H vs Q E hr h => ?_)
  . obtain ⟨a, rl, ru, tl, m, n, xs, rfl, ha, hrl, q⟩ := h
    rfl
  obtain ⟨a, rl, ru, tl, m, n, xs, rfl, ha, hrl, q⟩ := h
  refine ⟨_, (ZAJ (ZAZ (ZAR ZAM rfl T.b_len PySem.boot_len (ZAA (ZAP (pv 0) rfl) ZAE)))), ?_⟩
  walk_at "rd"
  refine ha.get T.cl_Asker T.n_Asker_row (by walk_at "lk") ⟨rl, xs, rfl, .inl (SqL.of hrl), q⟩
theorem ok_AskedRule_init {f : Addr} {fd : FuncData} (F : Fun K "__init__" "AskedRule.__init__" ZAq f fd) (T : Bt K mg C_Join C_Pile C_Asker C_AskedRule)
    : FnOk P w K mg base CX0 1 f fd ["self", "teller"] (ZB0 C_AskedRule) := by
  refine F.ok sc_AskedRule_init (fun vs H Q E h => ?_) (fun cdv A outer s H vs Q E hr h => ?_)
  . obtain ⟨x, dx, g, rfl, hx, q⟩ := h
    rfl
  obtain ⟨x, dx, g, rfl, hx, q⟩ := h
  refine ⟨_, (ZAJ (ZA8 (pv 0) (pv 1) rfl)), ?_⟩
  walk_at "rd"
  refine setX hx T.cl_AskedRule T.n_AskedRule_teller (by decide) fun H2 x2 k2 => ?_
  exact q H2 (fun b o n e => by rw [k2 b n]; exact e) ((Ins.of x2 (yAK ZES (by decide))).congr fun f => by simp only [ZAc, lkc])
theorem ok_AskedRule_before {f : Addr} {fd : FuncData} (F : Fun K "before" "AskedRule.before" ZAf f fd) (T : Bt K mg C_Join C_Pile C_Asker C_AskedRule)
    (clo_teller : CloOk P w K mg base 1 (ZBF))
    : FnOk P w K mg base CX0 2 f fd ["self", "x", "y"] (ZCi C_AskedRule ZBF) := by
  refine F.ok sc_AskedRule_before (fun vs H Q E h => ?_) (fun cdv A outer s H vs Q E hr h => ?_)
  . obtain ⟨ru, g, x, y, rfl, hru, ⟨o, ho, hfd⟩, q⟩ := h
    rfl
  obtain ⟨ru, g, x, y, rfl, hru, ⟨o, ho, hfd⟩, q⟩ := h
  refine ⟨_, (ZAB (ZAK (i := 3) sc_AskedRule_before.nd rfl (by walk_at "o") (ZAP (pv 0) rfl))
   (ZAJ (ZAZ (pe_callV (clo_teller.at (hr.mono (by decide))) (pv 3) (ZAA (pv 1) (ZAA (pv 2) ZAE)))))), ?_⟩
  walk_at "rd"
  refine hru.get T.cl_AskedRule T.n_AskedRule_teller (by walk_at "lk") ⟨⟨g, o, rfl, ho, hfd⟩, ?_⟩
  exact q
theorem ok_Asker_ahead {f : Addr} {fd : FuncData} (F : Fun K "ahead" "Asker.ahead" ZA1 f fd) (T : Bt K mg C_Join C_Pile C_Asker C_AskedRule)
    (t_AskedRule_before : Mt P w K mg base CX0 C_AskedRule "before" 2 ["self", "x", "y"] (ZCi C_AskedRule ZBF))
    : FnOk P w K mg base CX0 3 f fd ["self", "p", "q"] (ZCF C_Asker C_AskedRule ZBF) := by
  refine F.ok sc_Asker_ahead (fun vs H Q E h => ?_) (fun cdv A outer s H vs Q E hr h => ?_)
  . obtain ⟨a, rl, ru, tl, n, p, q, xs, ts, x, y, rfl, ha, hrl, hpq, hp0, hq0, hx, hy, hb⟩ := h
    rfl
  obtain ⟨a, rl, ru, tl, n, p, q, xs, ts, x, y, rfl, ha, hrl, hpq, hp0, hq0, hx, hy, hb⟩ := h
  refine ⟨_, (ZAB (ZBT (PW.pt (ZC8 (ZAU op_notN (ZAP (pv 0) rfl) ZCs (ZAY _)) (ZCc (ZAU op_ge (ZAP (pv 0) rfl) (ZAP (pv 0) rfl) (ZAY _)))))
   (ZAJ (ps_never)) ZAu)
    (ZAT
   (ZAB (ZAK (i := 3) sc_Asker_ahead.nd rfl (by walk_at "o") (ZAR (call_max2 rfl) rfl T.b_max PyProof.Rows.boot_max (ZAA (pv 1) (ZAA (pv 2) ZAE))))
   (ZAB (ZAK (i := 4) sc_Asker_ahead.nd rfl (by walk_at "o") (ZAR (ZBz rfl) rfl T.b_min PyProof.Rows.boot_min (ZAA (pv 1) (ZAA (pv 2) ZAE))))
   (ZAB (ZAK (i := 5) sc_Asker_ahead.nd rfl (by walk_at "o") (ZBN t_AskedRule_before (hr.mono (by decide)) ZAV (ZAP (pv 0) rfl) (ZAA (ZAa ZAg (ZAP (pv 0) rfl) (pv 3) (fun _ _ => rfl)) (ZAA (ZAa ZAg (ZAP (pv 0) rfl) (pv 4) (fun _ _ => rfl)) ZAE))))
    (ZAT
   (ZAB (ps_fldaug (pv 0) ZAF in_add)
   (ZAB (ZAl (ZCP PySem.F.plainAttrs_list PySem.F.slot_list_append PySem.F.type_list_append ZBj (ZAP (pv 0) rfl) (ZAA (ZBu (ZAA (pv 3) (ZAA (pv 4) (ZAA (pv 5) ZAE)))) ZAE)))
   (ZAJ (ZAZ (ZBO (ZAU ZCd (pv 1) (pv 3) (ZAY _)) (pv 5) (pe_not (pv 5))))))))))))), ?_⟩
  walk_at "rd"
  obtain ⟨ru', g, x', y', e, hru, ho, hrT⟩ := hb
  cases e
  refine ha.get T.cl_Asker T.n_Asker_most (by walk_at "lk") ?_
  rw [if_neg (by simp)]
  refine ZAd ?_
  walk_at "rd"
  refine ⟨p, q, rfl, p, q, rfl, ha.get T.cl_Asker T.n_Asker_rule (by walk_at "lk") (hru.meth (by walk_at "lk") ?_)⟩
  rw [mx_eq, ZEW]
  refine ha.get T.cl_Asker T.n_Asker_row (by walk_at "lk") (ZA0 (SqL.of hrl) (ZAW (by omega) hx) ?_)
  refine ha.get T.cl_Asker T.n_Asker_row (by walk_at "lk") (ZA0 (SqL.of hrl) (ZAW (by omega) hy) ?_)
  refine ⟨ru, g, x, y, rfl, hru, ho, rT_mono (fun v H1 h => ?_) hrT⟩
  obtain ⟨b, rfl, ha1, htl1, hts, hq⟩ := h
  have nta : tl ≠ a := ha1.ne htl1 fun _ _ _ z => by cases z
  refine ZAd ?_
  walk_at "rd"
  refine ha1.aug T.cl_Asker T.n_Asker_asked (by walk_at "lk") fun H2 ha2 k2 => ?_
  have ha2' := ha2.congr fA_asked
  have htl2 : H2 tl = some (.lst ts) := by rw [k2 tl nta]; exact htl1
  walk_at "rd"
  refine ha2'.get T.cl_Asker T.n_Asker_told (by walk_at "lk") ?_
  walk_at "rd"
  refine ⟨.inl ⟨rfl, _, SqL.of htl2⟩, ZAe (by decide), fun t ht => ?_⟩
  have ntt : t ≠ tl := fun z => by rw [z, htl2] at ht; cases ht
  have nat' : t ≠ a := ha2'.neN ht
  refine ⟨tl, ts, _, rfl, rfl, ZAS ht _ _ _ htl2, smallL (by omega), ?_⟩
  have fin := hq t (upd (upd H2 t (.tup [.int (max p q), .int (min p q), .bl b])) tl (.lst (ts ++ [.ref t]))) (by rw [<- k2 t nat']; exact ht) (ha2'.keep (by rw [ZAH (Ne.symm nta), ZAH (Ne.symm nat')])) ZAG (by rw [ZAH ntt, ZAG]) (fun c h1 h2 h3 => by rw [ZAH h2, ZAH h3, k2 c h1])
  by_cases hlt : q < p
  . rw [if_pos hlt] at fin
    show (if _ then _ else _)
    rw [if_pos (by omega)]
    exact fin
  . rw [if_neg hlt] at fin
    show (if _ then _ else _)
    rw [if_neg (by omega)]
    exact fin
theorem ok_stretch_from {f : Addr} {fd : FuncData} {dv : List Value} (F : FunD K "stretch_from" "stretch_from" ZAx f fd dv) (T : Bt K mg C_Join C_Pile C_Asker C_AskedRule)
    (t_Asker_ahead : Mt P w K mg base CX0 C_Asker "ahead" 3 ["self", "p", "q"] (ZCF C_Asker C_AskedRule ZBF))
    (t_Asker_many : Mt P w K mg base CX0 C_Asker "many" 1 ["self"] (ZDT C_Asker))
    : FnOk P w K mg base CX0 4 f fd ["asker", "first", "end"] (ZCX C_Asker C_AskedRule) := by
  refine F.ok sc_stretch_from (fun vs H Q E h => ?_) (fun cdv A outer s H vs Q E hr h => ?_)
  . obtain ⟨ks, xs, a, rl, ru, tl, g, lg, pr, first, stop, e, rfl, st, he, hf, hstop, hk, hpr, q⟩ := h
    rfl
  obtain ⟨ks, xs, a, rl, ru, tl, g, lg, pr, first, stop, e, rfl, st, he, hf, hstop, hk, hpr, q⟩ := h
  refine ⟨_, (ZAB (ZAK (i := 3) sc_stretch_from.nd rfl (by walk_at "o") (ZBO (ZAU ZDu (pv 2) ZCs (ZAY _)) (ZCB t_Asker_many (hr.mono (by decide)) ZAV (pv 0)) (pv 2)))
    (ZAT
   (ZAB (ZAK (i := 4) sc_stretch_from.nd rfl (by walk_at "o") (ZAO ZAi (pv 1) ZAF))
   (ZAB (ZBT (ZAU op_ge (pv 4) (pv 3) (ZAY _))
   (ZAJ (ZAZ (ZBu (ZAA (pv 4) (ZAA ZEl ZAE))))) ZAu)
   (ZAB (ZAK (i := 5) sc_stretch_from.nd rfl (by walk_at "o") (ZBN t_Asker_ahead (hr.mono (by decide)) ZAV (pv 0) (ZAA (pv 4) (ZAA (pv 1) ZAE))))
   (ZAB (ZDs (i := 4) sc_stretch_from.nd rfl (by walk_at "o") ZAF ZDx)
   (ZAB (ZBX PassesOwn.never (PW.pt (ZC8 (ZAU ZC2 (pv 4) (pv 3) (ZAY _)) (ZCc (ZAU ZCd (ZBN t_Asker_ahead (hr.mono (by decide)) ZAV (pv 0) (ZAA (pv 4) (ZAA (ZAO ZBB (pv 4) ZAF) ZAE))) (pv 5) (ZAY _)))))
   (ZAJ (ZDs (i := 4) sc_stretch_from.nd rfl (by walk_at "o") ZAF ZDx)))
   (ZAJ (ZAZ (ZBu (ZAA (pv 4) (ZAA (pv 5) ZAE)))))))))))), ?_⟩
  walk_at "rd"
  apply once0
  . intro tailp
    rcases he with ⟨he1, es⟩ | he2
    . rw [if_pos he1]
      refine st.ha.meth (by walk_at "lk") ⟨a, rl, ru, tl, .non, _, xs.v, rfl, st.ha, st.hrl, ?_⟩
      walk_at "rd"
      rw [st.len, <- es]
      exact tailp
    . subst he2
      rw [if_neg (by simp)]
      walk_at "rd"
      exact tailp
  refine ZAd ?_
  walk_at "rd"
  by_cases h1 : first + 1 = stop
  . rw [if_pos (by omega)]
    refine ⟨ZAe (by decide), fun t ht => q _ t (first + 1) false (ZAS ht _).fr ZAG (.inl ⟨h1, h1, rfl⟩) ?_⟩
    rw [show asks first (min (first + 1 + 1) stop) = [] from asks_none (by omega), yAT]
    exact st.mono (ZAS ht _)
  rw [if_neg (by omega)]
  refine st.ha.meth (by walk_at "lk") ?_
  rw [show ((first : Int) + 1) = ((first + 1 : Nat) : Int) by omega]
  refine st.ahead (p := first + 1) (q := first) (by omega) (by omega) (by omega) (by omega) fun H1 f1 s1 => ?_
  rw [if_pos (by omega)]
  refine ZBU (fun m σ H' => ∃ (k : Nat) (v2 : Option V), m = stop - k /\ σ = [some (.ref a), some (.int first), v2, some (.int stop), some (.int k), some (.bl (dec ks (first + 1)))] /\ first + 1 < k /\ k <= stop /\ Fr [a, lg, tl] H H' /\ SitL C_Asker C_AskedRule H' ks xs a rl ru tl g lg (pr ++ asks first k) /\ ∀ i, first + 1 <= i -> i < k -> dec ks i = dec ks (first + 1)) ⟨_, first + 2, _, rfl, rfl, by omega, by omega, f1, ?_, fun i h1 h2 => by rw [show i = first + 1 by omega]⟩ ?_
  . rw [show asks first (first + 2) = [(first + 1, first)] by rw [show first + 2 = (first + 1) + 1 from rfl, asks_snoc (yAB _), asks_none (yAB _)]; rfl]
    rw [show max (first + 1) first = first + 1 by omega, show min (first + 1) first = first by omega] at s1
    exact s1
  rintro m σ H' ⟨k, v2, rfl, rfl, hk1, hk2, fr, s, hall⟩
  walk_at "rd"
  have hlen : (pr ++ asks first k).length <= 80000 := by rw [yAA, ZDR]; omega
  by_cases hks : k < stop
  . rw [if_pos (by omega)]
    refine s.ha.meth (by walk_at "lk") ?_
    rw [show ((k : Int) - 1) = ((k - 1 : Nat) : Int) by omega]
    refine s.ahead (p := k) (q := k - 1) (by omega) (by omega) (by omega) hlen fun H2 f2 s2 => ?_
    rw [if_pos (by omega)]
    rw [show max k (k - 1) = k by omega, show min k (k - 1) = k - 1 by omega, yAJ, <- asks_snoc (by omega)] at s2
    walk_at "rd"
    by_cases hd : dec ks k = dec ks (first + 1)
    . rw [if_pos (show decide (kat ks k < kat ks (k - 1)) = dec ks (first + 1) from hd)]
      refine ZBV ?_
      walk_at "rd"
      exact ⟨stop - (k + 1), by omega, k + 1, _, rfl, by rw [show ((k : Int) + 1) = ((k + 1 : Nat) : Int) by omega], by omega, by omega, fr.trans f2, s2, fun i h1 h2 => by
        by_cases z : i = k
        . rw [z]; exact hd
        . exact hall i h1 (by omega)⟩
    . rw [if_neg (show ¬ decide (kat ks k < kat ks (k - 1)) = dec ks (first + 1) from hd)]
      refine ⟨ZAe (by decide), fun t ht => q _ t k _ (fr.trans (f2.trans (ZAS ht _).fr)) ZAG (.inr ⟨by omega, rfl, hk1, hk2, hall, fun _ => hd⟩) ?_⟩
      rw [show min (k + 1) stop = k + 1 by omega]
      exact s2.mono (ZAS ht _)
  . rw [if_neg (by omega)]
    walk_at "rd"
    refine ⟨ZAe (by decide), fun t ht => q _ t k _ (fr.trans (ZAS ht _).fr) ZAG (.inr ⟨by omega, rfl, hk1, hk2, hall, fun z => absurd z hks⟩) ?_⟩
    rw [show min (k + 1) stop = k by omega]
    exact s.mono (ZAS ht _)
theorem ok_in_turn {f : Addr} {fd : FuncData} (F : Fun K "in_turn" "in_turn" ZBh f fd) (T : Bt K mg C_Join C_Pile C_Asker C_AskedRule)
    : FnOk P w K mg base CX0 1 f fd ["first", "beyond", "falling"] (ZDH) := by
  refine F.ok sc_in_turn (fun vs H Q E h => ?_) (fun cdv A outer s H vs Q E hr h => ?_)
  . obtain ⟨first, j, f, rfl, hf, hj, q⟩ := h
    rfl
  obtain ⟨first, j, f, rfl, hf, hj, q⟩ := h
  refine ⟨_, (ZAB (ZAK (i := 3) sc_in_turn.nd rfl (by walk_at "o") (ZBK (call_list_rng rfl) rfl T.b_list PyProof.Rows.boot_list (ZAA (ZBK call_rng2 rfl T.b_range PyProof.Rows.boot_range (ZAA (pv 0) (ZAA (pv 1) ZAE))) ZAE)))
   (ZAB (ZBT (ZCO (pv 2))
   (ZAJ (ZAl (ZEF PySem.F.plainAttrs_list PySem.F.slot_list_reverse PySem.F.type_list_reverse mt_reverse (pv 3)))) ZAu)
   (ZAJ (ZAZ (pv 3))))), ?_⟩
  walk_at "rd"
  refine ⟨first, j, rfl, fun p hp => ⟨p, first, j, rfl, ZAG, by omega, fun l hl => ?_⟩⟩
  have S : Same H (upd (upd H p (.rng first j)) l (.lst ((ZC1 (first : Int) (j : Int)).map V.int))) := ((Same.refl H).new hp).new hl
  have hn : H l = none := ((Same.refl H).new hp).free hl
  rw [rints_nat] at S ⊢
  cases f with
  | true =>
    rw [if_pos rfl]
    refine ⟨.inl ⟨rfl, _, SqL.of ZAG⟩, l, _, rfl, rfl, ZAG, ?_⟩
    rw [ZDB]
    refine q l _ (((Same.refl H).new hp).new hl) hn ?_
    rw [ZAG]
    unfold ZBk nL
    rw [if_pos rfl, List.map_reverse]
  | false =>
    rw [if_neg (by decide)]
    refine q l _ S hn ?_
    rw [ZAG]
    rfl
theorem ok_spot_of {f : Addr} {fd : FuncData} (F : Fun K "spot_of" "spot_of" ZBe f fd) (T : Bt K mg C_Join C_Pile C_Asker C_AskedRule)
    (t_Asker_ahead : Mt P w K mg base CX0 C_Asker "ahead" 3 ["self", "p", "q"] (ZCF C_Asker C_AskedRule ZBF))
    : FnOk P w K mg base CX0 4 f fd ["asker", "order", "place"] (ZDE C_Asker C_AskedRule) := by
  refine F.ok sc_spot_of (fun vs H Q E h => ?_) (fun cdv A outer s H vs Q E hr h => ?_)
  . obtain ⟨ks, xs, a, rl, ru, tl, g, lg, ol, pr, os, pl, rfl, st, hol, nol, hos, hlt', hpl, hpr, q⟩ := h
    rfl
  obtain ⟨ks, xs, a, rl, ru, tl, g, lg, ol, pr, os, pl, rfl, st, hol, nol, hos, hlt', hpl, hpr, q⟩ := h
  refine ⟨_, (ZAB (ZAK (i := 3) sc_spot_of.nd rfl (by walk_at "o") ZAF)
   (ZAB (ZAK (i := 4) sc_spot_of.nd rfl (by walk_at "o") (ZAR ZAM rfl T.b_len PySem.boot_len (ZAA (pv 1) ZAE)))
   (ZAB (ZBX PassesOwn.never (ZAU ZC2 (pv 3) (pv 4) (ZAY _))
   (ZAB (ZAK (i := 5) sc_spot_of.nd rfl (by walk_at "o") (ZAO ZBc (ZAO ZAi (pv 3) (pv 4)) ZAF))
   (ZAJ (ZBT (ZCO (ZBN t_Asker_ahead (hr.mono (by decide)) ZAV (pv 0) (ZAA (ZAa ZAg (pv 1) (pv 5) (fun _ _ => rfl)) (ZAA (pv 2) ZAE))))
   (ZAJ (ZAK (i := 3) sc_spot_of.nd rfl (by walk_at "o") (ZAO ZAi (pv 5) ZAF)))
   (ZAJ (ZAK (i := 4) sc_spot_of.nd rfl (by walk_at "o") (pv 5)))))))
   (ZAJ (ZAZ (pv 3)))))), ?_⟩
  walk_at "rd"
  refine ⟨ol, _, rfl, .inl (SqL.of hol), ?_⟩
  rw [yAD]
  refine ZBU (fun m σ H' => ∃ (low high : Nat) (v5 : Option V) (dn : List (Nat × Nat)), m = high - low /\ σ = [some (.ref a), some (.ref ol), some (.int pl), some (.int low), some (.int high), v5] /\ low <= high /\ high <= os.length /\ dn.length + (high - low) <= os.length /\ Fr [a, lg, tl] H H' /\ SitL C_Asker C_AskedRule H' ks xs a rl ru tl g lg (pr ++ dn) /\ ∀ r l, Halv ks os pl low high r l -> Halv ks os pl 0 os.length r (dn ++ l)) ⟨_, 0, os.length, _, [], rfl, rfl, yAG _, yAB _, by simp, .refl, by rw [yAT]; exact st, fun r l h => h⟩ ?_
  rintro m σ H' ⟨low, high, v5, dn, rfl, rfl, hlh, hho, hdn, fr, s, hh⟩
  walk_at "rd"
  by_cases hlt : low < high
  . rw [if_pos (by omega)]
    refine ZBV ?_
    walk_at "rd"
    have hm : (low + high) / 2 < os.length := by omega
    obtain ⟨o, ho⟩ : ∃ o, os[(low + high) / 2]? = some o := ⟨_, yAQ hm⟩
    have hop := hlt' o (yAV ho)
    have hem : ((low : Int) + high) / 2 = ((low + high) / 2 : Nat) := by omega
    refine ⟨⟨by decide, by decide⟩, ?_⟩
    rw [hem]
    refine s.ha.meth (by walk_at "lk") ?_
    refine ZA0 (SqL.of (fr _ _ nol hol)) (ZC0 ho) ?_
    refine s.ahead (p := o) (q := pl) (by omega) (by omega) hpl (by rw [yAA]; omega) fun H2 f2 s2 => ?_
    rw [if_neg (by omega)]
    rw [show max o pl = pl by omega, show min o pl = o by omega, yAJ] at s2
    refine ⟨_, rfl, ?_⟩
    by_cases hd : kat ks pl < kat ks o
    . rw [decide_eq_true hd, if_neg (by decide)]
      exact ⟨(low + high) / 2 - low, by omega, low, (low + high) / 2, _, dn ++ [(pl, o)], rfl, rfl, by omega, by omega, by rw [yAA, yAW]; omega, fr.trans f2, s2, fun r l h => by rw [yAJ]; exact hh _ _ (.less hlt ho hd h)⟩
    . rw [decide_eq_false hd, if_pos (by decide)]
      exact ⟨high - ((low + high) / 2 + 1), by omega, (low + high) / 2 + 1, high, _, dn ++ [(pl, o)], rfl, rfl, by omega, by omega, by rw [yAA, yAW]; omega, fr.trans f2, s2, fun r l h => by rw [yAJ]; exact hh _ _ (.more hlt ho hd h)⟩
  . rw [if_neg (by omega)]
    walk_at "rd"
    have z := hh low [] (.done hlt)
    rw [yAT] at z
    exact q H' low dn fr z s
theorem ok_filled {f : Addr} {fd : FuncData} {dv : List Value} (F : FunD K "filled" "filled" ZB3 f fd dv) (T : Bt K mg C_Join C_Pile C_Asker C_AskedRule)
    (f_stretch_from : Fn P w K mg base CX0 "stretch_from" 4 ["asker", "first", "end"] (ZCX C_Asker C_AskedRule))
    (f_in_turn : Fn P w K mg base CX0 "in_turn" 1 ["first", "beyond", "falling"] (ZDH))
    (f_spot_of : Fn P w K mg base CX0 "spot_of" 4 ["asker", "order", "place"] (ZDE C_Asker C_AskedRule))
    (t_Asker_many : Mt P w K mg base CX0 C_Asker "many" 1 ["self"] (ZDT C_Asker))
    : FnOk P w K mg base CX0 5 f fd ["asker", "first", "least", "end"] (ZCh C_Asker C_AskedRule) := by
  refine F.ok sc_filled (fun vs H Q E h => ?_) (fun cdv A outer s H vs Q E hr h => ?_)
  . obtain ⟨ks, xs, a, rl, ru, tl, g, lg, pr, first, least, stop, e, rfl, st, hprl, he, hf, hstop, hk, hls, q⟩ := h
    rfl
  obtain ⟨ks, xs, a, rl, ru, tl, g, lg, pr, first, least, stop, e, rfl, st, hprl, he, hf, hstop, hk, hls, q⟩ := h
  refine ⟨_, (ZAB (ZAK (i := 4) sc_filled.nd rfl (by walk_at "o") (ZBO (ZAU ZDu (pv 3) ZCs (ZAY _)) (ZCB t_Asker_many (hr.mono (by decide)) ZAV (pv 0)) (pv 3)))
    (ZAT
   (ZAB (ZAK (i := 5) sc_filled.nd rfl (by walk_at "o") (ZBH f_stretch_from (hr.mono (by decide)) rfl ZAV (ZAA (pv 0) (ZAA (pv 1) (ZAA (pv 4) ZAE)))))
   (ZAB (ZAK (i := 6) sc_filled.nd rfl (by walk_at "o") (ZAa ZAj (pv 5) ZAF (fun _ _ => rfl)))
   (ZAB (ZAK (i := 7) sc_filled.nd rfl (by walk_at "o") (ZBH f_in_turn (hr.mono (by decide)) rfl ZAV (ZAA (pv 1) (ZAA (pv 6) (ZAA (ZAa ZAj (pv 5) ZAF (fun _ _ => rfl)) ZAE)))))
    (ZAT
   (ZAB (ZED PassesOwn.never rfl (pi_range2 rfl T.b_range (ZAA (pv 6) (ZAA (ZAR (ZBz rfl) rfl T.b_min PyProof.Rows.boot_min (ZAA (ZAO ZAi (pv 1) (pv 2)) (ZAA (pv 4) ZAE))) ZAE))) (ZCr (i := 8) sc_filled.nd rfl (by walk_at "o"))
   (ZAJ (ZAl (ZCP PySem.F.plainAttrs_list PySem.F.slot_list_insert PySem.F.type_list_insert mt_insert (pv 7) (ZAA (ZBH f_spot_of (hr.mono (by decide)) rfl ZAV (ZAA (pv 0) (ZAA (pv 7) (ZAA (pv 8) ZAE)))) (ZAA (pv 8) ZAE))))))
   (ZAJ (ZAZ (ZBu (ZAA (pv 6) (ZAA (pv 7) ZAE)))))))))))), ?_⟩
  walk_at "rd"
  apply once0
  . intro tailp
    rcases he with ⟨he1, es⟩ | he2
    . rw [if_pos he1]
      refine st.ha.meth (by walk_at "lk") ⟨a, rl, ru, tl, .non, _, xs.v, rfl, st.ha, st.hrl, ?_⟩
      walk_at "rd"
      rw [st.len, <- es]
      exact tailp
    . subst he2
      rw [if_neg (by simp)]
      walk_at "rd"
      exact tailp
  refine ZAd ?_
  walk_at "rd"
  refine ⟨ks, xs, a, rl, ru, tl, g, lg, pr, first, stop, .int stop, rfl, st, .inr rfl, hf, hstop, hk, by omega, fun H1 t j f fr1 ht hb st1 => ?_⟩
  have hj : first + 1 <= j /\ j <= stop := by rcases hb with ⟨z1, z2, _⟩ | ⟨_, _, z1, z2, _⟩ <;> omega
  refine ZAk (SqT.of ht) (ZAW (by decide) rfl) ?_
  refine ZAk (SqT.of ht) (ZAW (by decide) rfl) ⟨first, j, f, rfl, by omega, by omega, fun ol H2 s2 hnol hol => ?_⟩
  have st2 := st1.mono s2
  have nol : ol ∉ [a, lg, tl] := by
    obtain ⟨ws, hlg, _⟩ := st1.hlg
    obtain ⟨ts, htl, _⟩ := st1.htl
    intro z
    rcases yAE.mp z with z | z
    . exact st1.ha.neN hnol z
    rcases yAE.mp z with z | z
    . rw [z, hlg] at hnol; cases hnol
    . rw [yAR.mp z, htl] at hnol; cases hnol
  have nrl : rl ≠ ol /\ lg ≠ ol /\ tl ≠ ol := by
    refine ⟨ZAD st1.hrl hnol, fun z => nol (by rw [<- z]; exact yAC _ yAF), fun z => nol (by rw [<- z]; exact yAC _ (yAC _ yAF))⟩
  have hnH : H ol = none := by
    cases z : H ol with
    | none => rfl
    | some o => rw [fr1 _ _ nol z] at hnol; cases hnol
  refine ZAd ?_
  walk_at "rd"
  refine ⟨_, _, rfl, ?_⟩
  rw [ZEW, show min ((first : Int) + least) stop = (min (first + least) stop : Nat) by omega]
  have o0 := hb.ord
  refine forR2_of (by omega) (forR_of (fun i σ H' => ∃ (v3 v8 : Option V) (os : List Nat) (dn : List (Nat × Nat)), σ = [some (.ref a), some (.int first), some (.int least), v3, some (.int stop), some (.ref t), some (.int j), some (.ref ol), v8] /\ H' ol = some (.lst (nL os)) /\ OrdN ks first (j + i) os /\ dn.length <= i * 120 /\ Fr [a, lg, tl] H H' /\ H' t = some (.tup [.int (j : Nat), .bl f]) /\ SitL C_Asker C_AskedRule H' ks xs a rl ru tl g lg (pr ++ (asks first (min (j + 1) stop) ++ dn)) /\ ∀ os' l, Put ks os (j + i) (min (first + least) stop) os' l -> Put ks (ZBk first j f) j (min (first + least) stop) os' (dn ++ l)) ⟨_, _, ZBk first j f, [], rfl, hol, o0, by simp, fr1.trans s2.fr, s2 _ _ ht, by rw [yAT]; exact st2, fun os' l h => h⟩ ?_ ?_)
  . rintro i σ H' hi ⟨v3, v8, os, dn, rfl, hol', ho, hdn, fr, ht', st', hput⟩
    walk_at "rd"
    have hi' : j + i < min (first + least) stop := by omega
    have hlen := ho.len
    rw [show ((j : Int) + i) = ((j + i : Nat) : Int) by omega]
    refine ⟨.inl ⟨rfl, _, SqL.of hol'⟩, ks, xs, a, rl, ru, tl, g, lg, ol, _, os, j + i, rfl, st', hol', nol, by omega, fun x hx => ((ho.mem x).mp hx).2, by omega, by rw [yAA, yAA, ZDR]; omega, fun H3 r l fr3 hh st3 => ?_⟩
    have hb2 := hh.bounds (yAG _)
    have hol3 := fr3 _ _ nol hol'
    refine ⟨ol, _, _, _, rfl, rfl, hol3, ZBS (by rw [yAD]; omega), by omega, ?_⟩
    rw [insV_nL hb2.2]
    have ll := hh.len
    refine ⟨_, _, insN os r (j + i), dn ++ l, rfl, ZAG, by rw [show j + (i + 1) = j + i + 1 by omega]; exact ho.ins (by omega) hh, by rw [yAA]; omega, fun b o n h => ?_, ?_, ?_, fun os' l' hp => ?_⟩
    . rw [ZAH (ZAD h hnH)]
      exact fr3 _ _ n (fr _ _ n h)
    . have nt : t ≠ ol := fun z => by rw [z, hol'] at ht'; cases ht'
      rw [ZAH nt]
      exact fr3 _ _ (st'.tupS ht' (fun _ z => by cases z) (fun _ _ _ z => by cases z)) ht'
    . rw [show pr ++ (asks first (min (j + 1) stop) ++ (dn ++ l)) = pr ++ (asks first (min (j + 1) stop) ++ dn) ++ l by simp only [yAJ]]
      exact st3.upd hol3 nrl
    . rw [yAJ]
      exact hput _ _ (.cons hi' hh (by rw [show j + i + 1 = j + (i + 1) by omega]; exact hp))
  rintro σ H' ⟨v3, v8, os, dn, rfl, hol', ho, hdn, fr, ht', st', hput⟩
  walk_at "rd"
  refine ⟨ZAe (by decide), fun t2 ht2 => ?_⟩
  have z := hput os [] (.nil (by omega))
  rw [yAT] at z
  exact q _ t2 ol j f os dn (fr.trans (ZAS ht2 _).fr) hnH nol ZAG (ZAS ht2 _ _ _ hol') hb z (st'.mono (ZAS ht2 _))
theorem ok_leap {f : Addr} {fd : FuncData} (F : Fun K "leap" "leap" ZC6 f fd) (T : Bt K mg C_Join C_Pile C_Asker C_AskedRule)
    (t_Asker_ahead : Mt P w K mg base CX0 C_Asker "ahead" 3 ["self", "p", "q"] (ZCF C_Asker C_AskedRule ZBF))
    : FnOk P w K mg base CX0 4 f fd ["asker", "order", "first", "place"] (ZD9 C_Asker C_AskedRule) := by
  refine F.ok sc_leap (fun vs H Q E h => ?_) (fun cdv A outer s H vs Q E hr h => ?_)
  . obtain ⟨ks, xs, a, rl, ru, tl, g, lg, ol, pr, os, f, pl, z, rfl, st, hol, nol, hos, hlt', hpl, hpr, hfz, hzn, hlx, q⟩ := h
    rfl
  obtain ⟨ks, xs, a, rl, ru, tl, g, lg, ol, pr, os, f, pl, z, rfl, st, hol, nol, hos, hlt', hpl, hpr, hfz, hzn, hlx, q⟩ := h
  refine ⟨_, (ZAB (ZAK (i := 4) sc_leap.nd rfl (by walk_at "o") (ZAO ZBB (pv 2) ZAF))
   (ZAB (ZAK (i := 5) sc_leap.nd rfl (by walk_at "o") (pv 2))
   (ZAB (ZAK (i := 6) sc_leap.nd rfl (by walk_at "o") ZAF)
   (ZAB (ZBX PassesOwn.never (PW.pt (ZC8 (ZAU ZC2 (pv 5) (ZAR ZAM rfl T.b_len PySem.boot_len (ZAA (pv 1) ZAE)) (ZAY _)) (ZCc (ZCO (ZBN t_Asker_ahead (hr.mono (by decide)) ZAV (pv 0) (ZAA (ZAa ZAg (pv 1) (pv 5) (fun _ _ => rfl)) (ZAA (pv 3) ZAE)))))))
   (ZAB (ZAK (i := 4) sc_leap.nd rfl (by walk_at "o") (pv 5))
   (ZAB (ZDs (i := 5) sc_leap.nd rfl (by walk_at "o") (pv 6) ZDx)
   (ZAJ (ZAK (i := 6) sc_leap.nd rfl (by walk_at "o") (ZAO ZCC (pv 6) ZAF))))))
   (ZAB (ZAK (i := 5) sc_leap.nd rfl (by walk_at "o") (ZAR (ZBz rfl) rfl T.b_min PyProof.Rows.boot_min (ZAA (pv 5) (ZAA (ZAR ZAM rfl T.b_len PySem.boot_len (ZAA (pv 1) ZAE)) ZAE))))
    (ZAT
   (ZAB (ZBX PassesOwn.never (ZAU ZEU (ZAO ZBB (pv 5) (pv 4)) ZAF (ZAY _))
   (ZAB (ZAK (i := 7) sc_leap.nd rfl (by walk_at "o") (ZAO ZBc (ZAO ZAi (pv 4) (pv 5)) ZAF))
   (ZAJ (ZBT (ZCO (ZBN t_Asker_ahead (hr.mono (by decide)) ZAV (pv 0) (ZAA (ZAa ZAg (pv 1) (pv 7) (fun _ _ => rfl)) (ZAA (pv 3) ZAE))))
   (ZAJ (ZAK (i := 4) sc_leap.nd rfl (by walk_at "o") (pv 7)))
   (ZAJ (ZAK (i := 5) sc_leap.nd rfl (by walk_at "o") (pv 7)))))))
   (ZAJ (ZAZ (ZAO ZBB (pv 5) (pv 2))))))))))), ?_⟩
  walk_at "rd"
  apply once4 (fun (lo hi : Nat) (_ : Int) (H' : Hp) => f <= lo /\ lo <= z /\ z <= hi /\ hi <= os.length /\ ∃ dn : List Nat, dn.length <= os.length + 1 /\ Fr [a, lg, tl] H H' /\ SitL C_Asker C_AskedRule H' ks xs a rl ru tl g lg (pr ++ dn.map (ask1 os pl)) /\ ∀ L, Bin z lo hi L -> Gal z os.length f f f (dn ++ L))
  . intro tailp
    refine ZBU (fun m σ H' => ∃ (lo far : Nat) (dn : List Nat), m = os.length - lo /\ σ = [some (.ref a), some (.ref ol), some (.int f), some (.int pl), some (.int ((lo : Int) - 1)), some (.int far), some (.int ((far : Int) - f + 1)), none] /\ LIn1 C_Asker C_AskedRule ks xs a rl ru tl g lg pr os f pl z H lo far dn H') ⟨_, f, f, [], rfl, by rw [show (f : Int) - f + 1 = 1 by omega], yAB _, hfz, yAB _, by simp, .refl, by rw [List.map_nil, yAT]; exact st, fun L h => h⟩ ?_
    rintro m σ H' ⟨lo, far, dn, rfl, rfl, h1, h2, h3, h4, fr, s, hg⟩
    walk_at "rd"
    have hol' := fr _ _ nol hol
    refine ⟨ol, _, rfl, .inl (SqL.of hol'), ?_⟩
    rw [yAD]
    by_cases hf : far < os.length
    . rw [if_pos (by omega)]
      obtain ⟨o, ho⟩ : ∃ o, os[far]? = some o := ⟨_, yAQ hf⟩
      have hop := hlt' o (yAV ho)
      have hlo := hlx far o (by omega) ho
      refine s.ha.meth (by walk_at "lk") ?_
      refine ZA0 (SqL.of hol') (ZC0 ho) ?_
      refine s.ahead (p := o) (q := pl) hop.2 hop.1 hpl (by rw [yAA, yAD]; omega) fun H2 f2 s2 => ?_
      rw [ZDS hop.2]
      have ea : [(max o pl, min o pl)] = [far].map (ask1 os pl) := by
        show _ = [ask1 os pl far]
        unfold ask1
        rw [ho]
        rfl
      rw [yAJ, ea, <- yAO] at s2
      refine ⟨_, rfl, ?_⟩
      by_cases hd : lx ks o pl
      . rw [decide_eq_true hd, if_pos rfl]
        refine ZBV ?_
        walk_at "rd"
        have hfz' := hlo.mp hd
        exact ⟨.inr ⟨by decide, by decide⟩, os.length - (far + 1), by omega, far + 1, 2 * far - f + 1, dn ++ [far], rfl, by rw [show ((far + 1 : Nat) : Int) - 1 = far by omega, show (far : Int) + (far - f + 1) = ((2 * far - f + 1 : Nat) : Int) by omega, show (far : Int) - f + 1 = (far : Int) - f + 1 from rfl, show ((far : Int) - f + 1) * 2 = ((2 * far - f + 1 : Nat) : Int) - f + 1 by omega], by omega, by omega, by omega, by rw [yAA, yAW]; omega, fr.trans f2, s2, fun L h => by rw [yAJ]; exact hg _ (.more hf hfz' h)⟩
      . rw [decide_eq_false hd, if_neg (by decide)]
        have hfz' : z <= far := by
          rcases yCB far z with y | y
          . exact absurd (hlo.mpr y) hd
          . exact y
        refine ⟨ol, _, rfl, .inl (SqL.of (f2 _ _ nol hol')), _, _, rfl, ?_⟩
        rw [yAD, ZEW, show min (far : Int) os.length = (far : Nat) by omega]
        generalize (far : Int) - f + 1 = wd
        exact tailp lo far wd H2 ⟨h1, h2, hfz', by omega, dn ++ [far], by rw [yAA, yAW]; omega, fr.trans f2, s2, fun L h => by rw [yAJ]; exact hg _ (.stop hf hfz' h)⟩
    . rw [if_neg (by omega)]
      refine ⟨ol, _, rfl, .inl (SqL.of hol'), _, _, rfl, ?_⟩
      rw [yAD, ZEW, show min (far : Int) os.length = (os.length : Nat) by omega]
      exact tailp lo os.length _ H' ⟨h1, h2, hzn, yAB _, dn, by omega, fr, s, fun L h => hg _ (.out (by omega) h)⟩
  rintro lo hi wd H1 ⟨h1, h2, h3, h4, dn, h5, fr1, st1, hg⟩
  refine ZAd ?_
  walk_at "rd"
  refine ZBU (fun m σ H' => ∃ (lo hi : Nat) (v7 : Option V) (dn : List Nat), m = hi - lo /\ σ = [some (.ref a), some (.ref ol), some (.int f), some (.int pl), some (.int ((lo : Int) - 1)), some (.int hi), some (.int wd), v7] /\ LIn2 C_Asker C_AskedRule ks xs a rl ru tl g lg pr os f pl z H lo hi dn H') ⟨_, lo, hi, _, dn, rfl, rfl, h1, h2, h3, h4, by omega, fr1, st1, hg⟩ ?_
  clear h1 h2 h3 h4 h5 fr1 st1 hg
  rintro m σ H' ⟨lo, hi, v7, dn, rfl, rfl, h1, h2, h3, h4, h5, fr, s, hg⟩
  walk_at "rd"
  by_cases hlt : lo < hi
  . rw [if_pos (by omega)]
    refine ZBV ?_
    walk_at "rd"
    refine ⟨⟨by decide, by decide⟩, ?_⟩
    rw [show ((lo : Int) - 1 + hi) / 2 = ((lo + hi - 1) / 2 : Nat) by omega]
    have hm : (lo + hi - 1) / 2 < os.length := by omega
    obtain ⟨o, ho⟩ : ∃ o, os[(lo + hi - 1) / 2]? = some o := ⟨_, yAQ hm⟩
    have hop := hlt' o (yAV ho)
    have hlo := hlx _ o (by omega) ho
    have hol' := fr _ _ nol hol
    refine s.ha.meth (by walk_at "lk") ?_
    refine ZA0 (SqL.of hol') (ZC0 ho) ?_
    refine s.ahead (p := o) (q := pl) hop.2 hop.1 hpl (by rw [yAA, yAD]; omega) fun H2 f2 s2 => ?_
    rw [ZDS hop.2]
    have ea : [(max o pl, min o pl)] = [(lo + hi - 1) / 2].map (ask1 os pl) := by
      show _ = [ask1 os pl ((lo + hi - 1) / 2)]
      unfold ask1
      rw [ho]
      rfl
    rw [yAJ, ea, <- yAO] at s2
    refine ⟨_, rfl, ?_⟩
    by_cases hd : lx ks o pl
    . rw [decide_eq_true hd, if_pos rfl]
      exact ⟨hi - ((lo + hi - 1) / 2 + 1), by omega, (lo + hi - 1) / 2 + 1, hi, _, dn ++ [(lo + hi - 1) / 2], rfl, by rw [show (((lo + hi - 1) / 2 + 1 : Nat) : Int) - 1 = ((lo + hi - 1) / 2 : Nat) by omega], by omega, hlo.mp hd, h3, h4, by rw [yAA, yAW]; omega, fr.trans f2, s2, fun L h => by rw [yAJ]; exact hg _ (.more hlt (hlo.mp hd) h)⟩
    . rw [decide_eq_false hd, if_neg (by decide)]
      have hz' : z <= (lo + hi - 1) / 2 := by
        rcases yCB ((lo + hi - 1) / 2) z with y | y
        . exact absurd (hlo.mpr y) hd
        . exact y
      exact ⟨(lo + hi - 1) / 2 - lo, by omega, lo, (lo + hi - 1) / 2, _, dn ++ [(lo + hi - 1) / 2], rfl, rfl, h1, h2, hz', by omega, by rw [yAA, yAW]; omega, fr.trans f2, s2, fun L h => by rw [yAJ]; exact hg _ (.less hlt hz' h)⟩
  . rw [if_neg (by omega)]
    walk_at "rd"
    have e : lo = hi := by omega
    subst e
    have y := hg [] .done
    rw [yAT] at y
    rw [show (lo : Int) - f = ((z - f : Nat) : Int) by omega]
    exact q H' dn fr y s
theorem ok_Join_init {f : Addr} {fd : FuncData} (F : Fun K "__init__" "Join.__init__" ZBE f fd) (T : Bt K mg C_Join C_Pile C_Asker C_AskedRule)
    : FnOk P w K mg base CX0 1 f fd ["self", "asker", "left", "right"] (ZDg C_Join) := by
  refine F.ok sc_Join_init (fun vs H Q E h => ?_) (fun cdv A outer s H vs Q E hr h => ?_)
  . obtain ⟨x, dx, ak, al, ar, ls, rs, rfl, hx, hal, har, q⟩ := h
    rfl
  obtain ⟨x, dx, ak, al, ar, ls, rs, rfl, hx, hal, har, q⟩ := h
  refine ⟨_, (ZAB (ZA8 (pv 0) (pv 1) rfl)
   (ZAB (ZA8 (pv 0) (ZBu (ZAA (ZBK ZBb rfl T.b_list PyProof.Rows.boot_list (ZAA (pv 2) ZAE)) (ZAA (ZBK ZBb rfl T.b_list PyProof.Rows.boot_list (ZAA (pv 3) ZAE)) ZAE))) rfl)
   (ZAB (ZA8 (pv 0) (ZBJ (ZAA ZAF (ZAA ZAF ZAE))) rfl)
   (ZAJ (ZA8 (pv 0) (ZBJ ZAE) rfl))))), ?_⟩
  walk_at "rd"
  have nal : al ≠ x := fun z => by rw [z, hx] at hal; cases hal
  have nar : ar ≠ x := fun z => by rw [z, hx] at har; cases har
  refine setX hx T.cl_Join T.n_Join_asker (by decide) fun H2 x2 k2 => ?_
  walk_at "rd"
  refine ⟨al, _, rfl, .inl (SqL.of (by rw [k2 al nal]; exact hal)), fun la hla => ?_⟩
  obtain ⟨H3, e3, s3, h3⟩ := newH hla (.lst (nL ls))
  rw [e3]; clear e3
  refine ⟨ar, _, rfl, .inl (SqL.of (s3 _ _ (by rw [k2 ar nar]; exact har))), fun ra hra => ?_⟩
  obtain ⟨H4, e4, s4, h4⟩ := newH hra (.lst (nL rs))
  rw [e4]; clear e4
  refine ⟨ZAe (by decide), fun sd hsd => ?_⟩
  obtain ⟨H5, e5, s5, h5⟩ := newH hsd (.tup [.ref la, .ref ra])
  rw [e5]; clear e5
  have x5 := s5 _ _ (s4 _ _ (s3 _ _ x2))
  refine setX x5 T.cl_Join T.n_Join_sides ZES fun H6 x6 k6 => ?_
  walk_at "rd"
  refine ⟨ZAe (by decide), fun tk htk => ?_⟩
  obtain ⟨H7, e7, s7, h7⟩ := newH htk (.lst [.int 0, .int 0])
  rw [e7]; clear e7
  have x7 := s7 _ _ x6
  refine setX x7 T.cl_Join T.n_Join_taken ZER fun H8 x8 k8 => ?_
  walk_at "rd"
  refine ⟨ZAe (by decide), fun pc hpc => ?_⟩
  obtain ⟨H9, e9, s9, h9⟩ := newH hpc (.lst [])
  rw [e9]; clear e9
  have x9 := s9 _ _ x8
  refine setX x9 T.cl_Join T.n_Join_places ZEQ fun HA xA kA => ?_
  have nla : la ≠ x := Ne.symm (ZAD x2 hla)
  have nra : ra ≠ x := Ne.symm (ZAD (s3 _ _ x2) hra)
  have nsd : sd ≠ x := Ne.symm (ZAD (s4 _ _ (s3 _ _ x2)) hsd)
  have ntk : tk ≠ x := Ne.symm (ZAD x6 htk)
  have npc : pc ≠ x := Ne.symm (ZAD x8 hpc)
  have up5 : ∀ b o, b ≠ x -> H5 b = some o -> HA b = some o := fun b o n e => by
    rw [kA b n]
    refine s9 _ _ ?_
    rw [k8 b n]
    refine s7 _ _ ?_
    rw [k6 b n]
    exact e
  have up : ∀ b o, b ≠ x -> H b = some o -> H5 b = some o := fun b o n e => s5 _ _ (s4 _ _ (s3 _ _ (by rw [k2 b n]; exact e)))
  have gla := up5 la _ nla (s5 _ _ (s4 _ _ h3))
  have gra := up5 ra _ nra (s5 _ _ h4)
  have gsd := up5 sd _ nsd h5
  have g8 : H8 tk = some (.lst [.int 0, .int 0]) := by rw [k8 tk ntk]; exact h7
  have gtk : HA tk = some (.lst [.int 0, .int 0]) := by rw [kA tk ntk]; exact s9 _ _ g8
  have gpc : HA pc = some (.lst []) := by rw [kA pc npc]; exact h9
  have f6 : ∀ b, b ≠ x -> H6 b = none -> H b = none := fun b n e => by
    cases eb : H b with
    | none => rfl
    | some o => have := up b o n eb; rw [k6 b n, this] at e; cases e
  have f8 : ∀ b, b ≠ x -> H8 b = none -> H b = none := fun b n e => f6 b n (s7.free (by rw [<- k8 b n]; exact e))
  have l5 : H6 la = some (.lst (nL ls)) := by rw [k6 la nla]; exact s5 _ _ (s4 _ _ h3)
  have r5 : H6 ra = some (.lst (nL rs)) := by rw [k6 ra nra]; exact s5 _ _ h4
  have l8 : H8 la = some (.lst (nL ls)) := by rw [k8 la nla]; exact s7 _ _ l5
  have r8 : H8 ra = some (.lst (nL rs)) := by rw [k8 ra nra]; exact s7 _ _ r5
  refine q sd la ra tk pc HA (fun b o n e => up5 b o n (up b o n e)) ?_ ?_ ?_ (f6 tk ntk htk) (f8 pc npc hpc) ⟨(Ins.of xA (yAK ZEj (by decide))).congr fun f => by simp only [ZAc, lkc], gsd, gla, gra, gtk, gpc, ZAD g8 hpc, ZAD l5 htk, ZAD l8 hpc, ZAD r5 htk, ZAD r8 hpc⟩
  . cases eb : H sd with
    | none => rfl
    | some o => have := s4 _ _ (s3 _ _ (by rw [k2 sd nsd]; exact eb)); rw [this] at hsd; cases hsd
  . cases eb : H la with
    | none => rfl
    | some o => rw [k2 la nla, eb] at hla; cases hla
  . cases eb : H ra with
    | none => rfl
    | some o => have := s3 ra o (by rw [k2 ra nra]; exact eb); rw [this] at hra; cases hra
theorem ok_Join_has_more {f : Addr} {fd : FuncData} (F : Fun K "has_more" "Join.has_more" ZAt f fd) (T : Bt K mg C_Join C_Pile C_Asker C_AskedRule)
    : FnOk P w K mg base CX0 1 f fd ["self", "side"] (ZCN C_Join) := by
  refine F.ok sc_Join_has_more (fun vs H Q E h => ?_) (fun cdv A outer s H vs Q E hr h => ?_)
  . obtain ⟨b, jn, ak, sd, ma, ta, tk, pc, ms, ts, i, j, dn, rfl, js, q⟩ := h
    rfl
  obtain ⟨b, jn, ak, sd, ma, ta, tk, pc, ms, ts, i, j, dn, rfl, js, q⟩ := h
  refine ⟨_, (ZAJ (ZAZ (ZCt ZC2 (ZAa ZAg (ZAP (pv 0) rfl) (pv 1) (fun _ _ => rfl)) (ZAR ZAM rfl T.b_len PySem.boot_len (ZAA (ZAa ZAj (ZAP (pv 0) rfl) (pv 1) (fun _ _ => rfl)) ZAE)) (ZAY _)))), ?_⟩
  walk_at "rd"
  refine js.hj.get T.cl_Join T.n_Join_taken (by walk_at "lk") (ZA0 (SqL.of js.htk) ZCA ?_)
  refine js.hj.get T.cl_Join T.n_Join_sides (by walk_at "lk") (ZAk (SqT.of js.hsd) ZCA ⟨ma, _, rfl, .inl (SqL.of js.hma), ?_⟩)
  rw [yAD]
  refine ⟨_, _, rfl, rfl, ?_⟩
  have e : decide ((i : Int) < ms.length) = decide (i < ms.length) := by rw [decide_eq_decide]; omega
  rw [<- e] at q
  exact q
theorem ok_Join_front {f : Addr} {fd : FuncData} (F : Fun K "front" "Join.front" ZA5 f fd) (T : Bt K mg C_Join C_Pile C_Asker C_AskedRule)
    : FnOk P w K mg base CX0 1 f fd ["self", "side"] (ZDI C_Join) := by
  refine F.ok sc_Join_front (fun vs H Q E h => ?_) (fun cdv A outer s H vs Q E hr h => ?_)
  . obtain ⟨b, jn, ak, sd, ma, ta, tk, pc, ms, ts, i, j, dn, x, rfl, js, hx, q⟩ := h
    rfl
  obtain ⟨b, jn, ak, sd, ma, ta, tk, pc, ms, ts, i, j, dn, x, rfl, js, hx, q⟩ := h
  refine ⟨_, (ZAJ (ZAZ (ZAa ZAg (ZAa ZAj (ZAP (pv 0) rfl) (pv 1) (fun _ _ => rfl)) (ZAa ZAg (ZAP (pv 0) rfl) (pv 1) (fun _ _ => rfl)) (fun _ _ => rfl)))), ?_⟩
  walk_at "rd"
  refine js.hj.get T.cl_Join T.n_Join_sides (by walk_at "lk") (ZAk (SqT.of js.hsd) ZCA ?_)
  refine js.hj.get T.cl_Join T.n_Join_taken (by walk_at "lk") (ZA0 (SqL.of js.htk) ZCA ?_)
  exact ZA0 (SqL.of js.hma) (ZC0 hx) q
theorem ok_Join_take_on {f : Addr} {fd : FuncData} (F : Fun K "take_on" "Join.take_on" ZAy f fd) (T : Bt K mg C_Join C_Pile C_Asker C_AskedRule)
    : FnOk P w K mg base CX0 1 f fd ["self", "side", "more"] (ZCM C_Join) := by
  refine F.ok sc_Join_take_on (fun vs H Q E h => ?_) (fun cdv A outer s H vs Q E hr h => ?_)
  . obtain ⟨b, jn, ak, sd, ma, ta, tk, pc, ms, ts, i, j, dn, m, rfl, js, hm, hl, q⟩ := h
    rfl
  obtain ⟨b, jn, ak, sd, ma, ta, tk, pc, ms, ts, i, j, dn, m, rfl, js, hm, hl, q⟩ := h
  refine ⟨_, (ZAB (ZAK (i := 3) sc_Join_take_on.nd rfl (by walk_at "o") (ZAa ZAg (ZAP (pv 0) rfl) (pv 1) (fun _ _ => rfl)))
   (ZAB (ZAl (ZCP PySem.F.plainAttrs_list PySem.F.slot_list_extend PySem.F.type_list_extend mt_extend (ZAP (pv 0) rfl) (ZAA (ZBY ZBs (ZAa ZAj (ZAP (pv 0) rfl) (pv 1) (fun _ _ => rfl)) (ZA9 (pv 3)) (ZA9 (ZAO ZAi (pv 3) (pv 2)))) ZAE)))
   (ZAJ (ps_asg (ZAO ZAi (pv 3) (pv 2)) (pg_sub (ZAP (pv 0) rfl) (pv 1) set_list))))), ?_⟩
  walk_at "rd"
  refine js.hj.get T.cl_Join T.n_Join_taken (by walk_at "lk") (ZA0 (SqL.of js.htk) ZCA ?_)
  walk_at "rd"
  refine js.hj.get T.cl_Join T.n_Join_places (by walk_at "lk") ?_
  walk_at "rd"
  refine ⟨.inl ⟨rfl, _, SqL.of js.hpc⟩, ?_⟩
  refine js.hj.get T.cl_Join T.n_Join_sides (by walk_at "lk") (ZAk (SqT.of js.hsd) ZCA ?_)
  walk_at "rd"
  refine ZCe (SqL.of js.hma) fun c hc => ?_
  have ec : cutV (nL ms) (some (i : Int)) (some ((i : Int) + m)) = nL ((ms.drop i).take m) := by
    unfold cutV
    rw [show (i : Int) + m = ((i + m : Nat) : Int) by omega, HT.sIx_nat, HT.sIx_nat, yAD, yBG (show i <= ms.length by omega), yBG (show i + m <= ms.length by omega), Nat.add_sub_cancel_left]
    unfold nL
    rw [<- yCE, <- yCD]
  rw [ec]
  obtain ⟨H1, e1, s1, h1⟩ := newH hc (.lst (nL ((ms.drop i).take m)))
  rw [e1]; clear e1
  have js1 := js.mono s1
  refine ⟨pc, c, _, _, rfl, rfl, js1.hpc, h1, ZAe (by rw [yAD, yAD, yAL, yAU]; omega), ?_⟩
  have npt : tk ≠ pc := js.ne.1
  have hj2 : JS C_Join (upd H1 pc (.lst (nL dn ++ nL ((ms.drop i).take m)))) b jn ak sd ma ta tk pc ms ts i j (dn ++ (ms.drop i).take m) := js1.keep (Fr.upd (yAC _ yAF)) (by rw [ZAH npt]; exact js1.htk) (by rw [ZAG]; unfold nL; rw [yAO])
  have f1 : Fr [tk, pc] H (upd H1 pc (.lst (nL dn ++ nL ((ms.drop i).take m)))) := s1.fr.trans (Fr.upd (yAC _ yAF))
  generalize upd H1 pc (.lst (nL dn ++ nL ((ms.drop i).take m))) = H2 at hj2 f1 ⊢
  refine hj2.hj.get T.cl_Join T.n_Join_taken (by walk_at "lk") ?_
  walk_at "rd"
  refine ⟨tk, _, _, _, rfl, rfl, hj2.htk, ixN_of (by cases b <;> decide) (by rw [pk_len]; cases b <;> decide), ?_⟩
  rw [pk_set, show (i : Int) + m = ((i + m : Nat) : Int) by omega]
  refine q _ (f1.trans (Fr.upd yAF)) (hj2.keep (Fr.upd yAF) ZAG (by rw [ZAH (Ne.symm npt)]; exact hj2.hpc))
theorem ok_Join_take_rest {f : Addr} {fd : FuncData} (F : Fun K "take_rest" "Join.take_rest" ZAp f fd) (T : Bt K mg C_Join C_Pile C_Asker C_AskedRule)
    (t_Join_take_on : Mt P w K mg base CX0 C_Join "take_on" 1 ["self", "side", "more"] (ZCM C_Join))
    : FnOk P w K mg base CX0 2 f fd ["self", "side"] (ZCW C_Join) := by
  refine F.ok sc_Join_take_rest (fun vs H Q E h => ?_) (fun cdv A outer s H vs Q E hr h => ?_)
  . obtain ⟨b, jn, ak, sd, ma, ta, tk, pc, ms, ts, i, j, dn, rfl, js, hi, hl, q⟩ := h
    rfl
  obtain ⟨b, jn, ak, sd, ma, ta, tk, pc, ms, ts, i, j, dn, rfl, js, hi, hl, q⟩ := h
  refine ⟨_, (ZAJ (ZAl (ZBN t_Join_take_on (hr.mono (by decide)) ZAV (pv 0) (ZAA (pv 1) (ZAA (ZAO ZBB (ZAR ZAM rfl T.b_len PySem.boot_len (ZAA (ZAa ZAj (ZAP (pv 0) rfl) (pv 1) (fun _ _ => rfl)) ZAE)) (ZAa ZAg (ZAP (pv 0) rfl) (pv 1) (fun _ _ => rfl))) ZAE))))), ?_⟩
  walk_at "rd"
  refine js.hj.meth (by walk_at "lk") ?_
  refine js.hj.get T.cl_Join T.n_Join_sides (by walk_at "lk") (ZAk (SqT.of js.hsd) ZCA ⟨ma, _, rfl, .inl (SqL.of js.hma), ?_⟩)
  refine js.hj.get T.cl_Join T.n_Join_taken (by walk_at "lk") (ZA0 (SqL.of js.htk) ZCA ?_)
  walk_at "rd"
  rw [yAD, show (ms.length : Int) - i = ((ms.length - i : Nat) : Int) by omega]
  refine ⟨b, jn, ak, sd, ma, ta, tk, pc, ms, ts, i, j, dn, ms.length - i, rfl, js, by omega, hl, fun H' f' js' => ?_⟩
  rw [show i + (ms.length - i) = ms.length by omega, yCF (by rw [yAU]; exact yAB _)] at js'
  exact q H' f' js'
theorem ok_Join_win {f : Addr} {fd : FuncData} (F : Fun K "win" "Join.win" ZBR f fd) (T : Bt K mg C_Join C_Pile C_Asker C_AskedRule)
    (t_Join_take_on : Mt P w K mg base CX0 C_Join "take_on" 1 ["self", "side", "more"] (ZCM C_Join))
    (t_Asker_ahead : Mt P w K mg base CX0 C_Asker "ahead" 3 ["self", "p", "q"] (ZCF C_Asker C_AskedRule ZBF))
    (t_Join_front : Mt P w K mg base CX0 C_Join "front" 1 ["self", "side"] (ZDI C_Join))
    : FnOk P w K mg base CX0 4 f fd ["self"] (ZEf C_Asker C_AskedRule C_Join) := by
  refine F.ok sc_Join_win (fun vs H Q E h => ?_) (fun cdv A outer s H vs Q E hr h => ?_)
  . obtain ⟨ks, xs, a, rl, ru, tl, g, lg, jn, sd, la, ra, tk, pc, pr, ls, rs, dn, i, j, x, y, rfl, st, js, nx, hx, hy, hxy, hxk, hyk, hpr, hd1, hd2, q⟩ := h
    rfl
  obtain ⟨ks, xs, a, rl, ru, tl, g, lg, jn, sd, la, ra, tk, pc, pr, ls, rs, dn, i, j, x, y, rfl, st, js, nx, hx, hy, hxy, hxk, hyk, hpr, hd1, hd2, q⟩ := h
  refine ⟨_, (ZAB (ZAK (i := 1) sc_Join_win.nd rfl (by walk_at "o") (ZBO (ZCO (ZBN t_Asker_ahead (hr.mono (by decide)) ZAV (ZAP (pv 0) rfl) (ZAA (ZBN t_Join_front (hr.mono (by decide)) ZAV (pv 0) (ZAA (ZBG rfl T.c_LEFT) ZAE)) (ZAA (ZBN t_Join_front (hr.mono (by decide)) ZAV (pv 0) (ZAA (ZBG rfl T.c_RIGHT) ZAE)) ZAE)))) (ZBG rfl T.c_LEFT) (ZBG rfl T.c_RIGHT)))
   (ZAB (ZAl (ZBN t_Join_take_on (hr.mono (by decide)) ZAV (pv 0) (ZAA (pv 1) (ZAA ZAF ZAE))))
   (ZAJ (ZAZ (pv 1))))), ?_⟩
  walk_at "rd"
  refine js.hj.get T.cl_Join T.n_Join_asker (by walk_at "lk") (st.ha.meth (by walk_at "lk") ?_)
  refine js.hj.meth (by walk_at "lk") ⟨true, jn, a, sd, la, ra, tk, pc, ls, rs, i, j, dn, x, rfl, js, hx, ?_⟩
  refine js.hj.meth (by walk_at "lk") ⟨false, jn, a, sd, ra, la, tk, pc, rs, ls, j, i, dn, y, rfl, js.swap, hy, ?_⟩
  refine st.ahead (p := x) (q := y) hxy hxk hyk (by omega) fun H2 f2 s2 => ?_
  rw [ZDS hxy]
  have js2 := js.fr f2 nx.n1
  have hi := (yAH.mp hx).1
  have hj := (yAH.mp hy).1
  refine ⟨_, rfl, ?_⟩
  by_cases hd : lx ks x y
  . rw [decide_eq_true hd, if_pos rfl]
    walk_at "rd"
    refine js2.hj.meth (by walk_at "lk") ⟨true, jn, a, sd, la, ra, tk, pc, ls, rs, i, j, dn, 1, rfl, js2, by omega, by omega, fun H3 f3 js3 => ?_⟩
    rw [ZDD hx] at js3
    have e := q H3 ((fr5a f2).trans (fr5b f3)) (s2.apart f3 js2.lsts nx.n2) (fun _ => js3) (fun z => absurd hd z)
    rw [decide_eq_true hd] at e
    exact e
  . rw [decide_eq_false hd, if_neg (by decide)]
    walk_at "rd"
    refine js2.hj.meth (by walk_at "lk") ⟨false, jn, a, sd, ra, la, tk, pc, rs, ls, j, i, dn, 1, rfl, js2.swap, by omega, by omega, fun H3 f3 js3 => ?_⟩
    rw [ZDD hy] at js3
    have e := q H3 ((fr5a f2).trans (fr5b f3)) (s2.apart f3 js2.lsts nx.n2) (fun z => absurd z hd) (fun _ => js3.swap)
    rw [decide_eq_false hd] at e
    exact e
theorem ok_Join_leap_on {f : Addr} {fd : FuncData} (F : Fun K "leap_on" "Join.leap_on" ZAz f fd) (T : Bt K mg C_Join C_Pile C_Asker C_AskedRule)
    (f_leap : Fn P w K mg base CX0 "leap" 4 ["asker", "order", "first", "place"] (ZD9 C_Asker C_AskedRule))
    (t_Join_take_on : Mt P w K mg base CX0 C_Join "take_on" 1 ["self", "side", "more"] (ZCM C_Join))
    (t_Join_has_more : Mt P w K mg base CX0 C_Join "has_more" 1 ["self", "side"] (ZCN C_Join))
    (t_Join_front : Mt P w K mg base CX0 C_Join "front" 1 ["self", "side"] (ZDI C_Join))
    : FnOk P w K mg base CX0 5 f fd ["self", "side"] (ZDF C_Asker C_AskedRule C_Join) := by
  refine F.ok sc_Join_leap_on (fun vs H Q E h => ?_) (fun cdv A outer s H vs Q E hr h => ?_)
  . obtain ⟨ks, xs, a, rl, ru, tl, g, lg, jn, sd, ma, ta, tk, pc, b, pr, ms, ts, dn, i, j, y, z, rfl, st, js, nx, hy, hml, hmk, hyk, hpr, hd, hiz, hzn, hlx, q⟩ := h
    rfl
  obtain ⟨ks, xs, a, rl, ru, tl, g, lg, jn, sd, ma, ta, tk, pc, b, pr, ms, ts, dn, i, j, y, z, rfl, st, js, nx, hy, hml, hmk, hyk, hpr, hd, hiz, hzn, hlx, q⟩ := h
  refine ⟨_, (ZAB (ZAK (i := 2) sc_Join_leap_on.nd rfl (by walk_at "o") (ZBO (ZAU ZCd (pv 1) (ZBG rfl T.c_LEFT) (ZAY _)) (ZBG rfl T.c_RIGHT) (ZBG rfl T.c_LEFT)))
    (ZAT
   (ZAB (ZAl (ZBN t_Join_take_on (hr.mono (by decide)) ZAV (pv 0) (ZAA (pv 1) (ZAA (ZBH f_leap (hr.mono (by decide)) rfl ZAV (ZAA (ZAP (pv 0) rfl) (ZAA (ZAa ZAj (ZAP (pv 0) rfl) (pv 1) (fun _ _ => rfl)) (ZAA (ZAa ZAg (ZAP (pv 0) rfl) (pv 1) (fun _ _ => rfl)) (ZAA (ZBN t_Join_front (hr.mono (by decide)) ZAV (pv 0) (ZAA (pv 2) ZAE)) ZAE))))) ZAE))))
   (ZAJ (ZBT (ZCO (ZBN t_Join_has_more (hr.mono (by decide)) ZAV (pv 0) (ZAA (pv 1) ZAE)))
   (ZAJ (ZAl (ZBN t_Join_take_on (hr.mono (by decide)) ZAV (pv 0) (ZAA (pv 2) (ZAA ZAF ZAE))))) ZAu))))), ?_⟩
  walk_at "rd"
  have hj := (yAH.mp hy).1
  refine cut_var fun o ho => ?_
  obtain rfl : o = sv (!b) := by
    rcases ho with ⟨h, e⟩ | ⟨h, e⟩
    . revert h; cases b <;> intro h
      . cases h
      . exact e
    . revert h; cases b <;> intro h
      . exact e
      . exact absurd rfl h
  refine ZAd ?_
  walk_at "rd"
  refine js.hj.meth (by walk_at "lk") ?_
  refine js.hj.get T.cl_Join T.n_Join_asker (by walk_at "lk") ?_
  refine js.hj.get T.cl_Join T.n_Join_sides (by walk_at "lk") (ZAk (SqT.of js.hsd) ZCA ?_)
  refine js.hj.get T.cl_Join T.n_Join_taken (by walk_at "lk") (ZA0 (SqL.of js.htk) ZCA ?_)
  refine js.hj.meth (by walk_at "lk") ⟨!b, jn, a, sd, ta, ma, tk, pc, ts, ms, j, i, dn, y, rfl, js.swap, hy, ?_⟩
  refine ⟨ks, xs, a, rl, ru, tl, g, lg, ma, pr, ms, i, y, z, rfl, st, js.hma, nx.n1.2.2.1, hml, hmk, hyk, hpr, hiz, hzn, hlx, fun H2 G f2 hG s2 => ?_⟩
  have js2 := js.fr f2 nx.n1
  refine ⟨b, jn, a, sd, ma, ta, tk, pc, ms, ts, i, j, dn, z - i, rfl, js2, by omega, by omega, fun H3 f3 js3 => ?_⟩
  rw [show i + (z - i) = z by omega] at js3
  have s3 := s2.apart f3 js2.lsts nx.n2
  have f13 := (fr5a f2 (tk := tk) (pc := pc)).trans (fr5b f3)
  refine js3.hj.meth (by walk_at "lk") ⟨b, jn, a, sd, ma, ta, tk, pc, ms, ts, z, j, _, rfl, js3, ?_⟩
  refine ⟨_, rfl, ?_⟩
  by_cases hz : z < ms.length
  . rw [decide_eq_true hz, if_pos rfl]
    walk_at "rd"
    refine js3.hj.meth (by walk_at "lk") ⟨!b, jn, a, sd, ta, ma, tk, pc, ts, ms, j, z, _, 1, rfl, js3.swap, by omega, by rw [yAA, yAL, yAU]; omega, fun H4 f4 js4 => ?_⟩
    have js5 := js4.swap
    rw [Bool.not_not, ZDD hy] at js5
    exact q H4 G (f13.trans (fr5b f4)) hG (s3.apart f4 js3.lsts nx.n2) (fun _ => js5) (fun e => by omega)
  . rw [decide_eq_false hz, if_neg (by decide)]
    exact q H3 G f13 hG s3 (fun e => absurd e hz) (fun _ => js3)
theorem ok_joined {f : Addr} {fd : FuncData} (F : Fun K "joined" "joined" ZB2 f fd) (T : Bt K mg C_Join C_Pile C_Asker C_AskedRule)
    (t_Join_take_rest : Mt P w K mg base CX0 C_Join "take_rest" 2 ["self", "side"] (ZCW C_Join))
    (t_Join_has_more : Mt P w K mg base CX0 C_Join "has_more" 1 ["self", "side"] (ZCN C_Join))
    (t_Join_win : Mt P w K mg base CX0 C_Join "win" 4 ["self"] (ZEf C_Asker C_AskedRule C_Join))
    (t_Join_leap_on : Mt P w K mg base CX0 C_Join "leap_on" 5 ["self", "side"] (ZDF C_Asker C_AskedRule C_Join))
    (k_Join : Kl P w K mg base CX0 "Join" C_Join 1 ["self", "asker", "left", "right"] (ZDg C_Join))
    : FnOk P w K mg base CX0 6 f fd ["asker", "left", "right"] (ZCg C_Asker C_AskedRule) := by
  refine F.ok sc_joined (fun vs H Q E h => ?_) (fun cdv A outer s H vs Q E hr h => ?_)
  . obtain ⟨ks, xs, a, rl, ru, tl, g, lg, al, ar, pr, ls, rs, rfl, st, hal, har, hll, hrl, hlk, hrk, hlp, hrp, hdis, hpr, q⟩ := h
    rfl
  obtain ⟨ks, xs, a, rl, ru, tl, g, lg, al, ar, pr, ls, rs, rfl, st, hal, har, hll, hrl, hlk, hrk, hlp, hrp, hdis, hpr, q⟩ := h
  refine ⟨_, (ZAB (ZAK (i := 3) sc_joined.nd rfl (by walk_at "o") (ZET k_Join (hr.mono (by decide)) rfl ZAV (ZAA (pv 0) (ZAA (pv 1) (ZAA (pv 2) ZAE)))))
   (ZAB (ZAK (i := 4) sc_joined.nd rfl (by walk_at "o") ZAF)
   (ZAB (ZAK (i := 5) sc_joined.nd rfl (by walk_at "o") (ZBG rfl T.c_LEFT))
   (ZAB (ZBX PassesOwn.never (PW.pt (ZC8 (ZCO (ZBN t_Join_has_more (hr.mono (by decide)) ZAV (pv 3) (ZAA (ZBG rfl T.c_LEFT) ZAE))) (ZCc (ZCO (ZBN t_Join_has_more (hr.mono (by decide)) ZAV (pv 3) (ZAA (ZBG rfl T.c_RIGHT) ZAE))))))
   (ZAB (ZAK (i := 6) sc_joined.nd rfl (by walk_at "o") (ZCB t_Join_win (hr.mono (by decide)) ZAV (pv 3)))
   (ZAB (ZAK (i := 4) sc_joined.nd rfl (by walk_at "o") (ZBO (ZAU ZCd (pv 6) (pv 5) (ZAY _)) (ZAO ZAi (pv 4) ZAF) ZAF))
   (ZAB (ZAK (i := 5) sc_joined.nd rfl (by walk_at "o") (pv 6))
   (ZAJ (ZBT (ZAU ZCd (pv 4) (ZBG rfl T.c_WINS_TO_LEAP) (ZAY _))
   (ZAB (ZAl (ZBN t_Join_leap_on (hr.mono (by decide)) ZAV (pv 3) (ZAA (pv 6) ZAE)))
   (ZAJ (ZAK (i := 4) sc_joined.nd rfl (by walk_at "o") ZAF))) ZAu))))))
   (ZAB (ZAl (ZBN t_Join_take_rest (hr.mono (by decide)) ZAV (pv 3) (ZAA (ZBG rfl T.c_LEFT) ZAE)))
   (ZAB (ZAl (ZBN t_Join_take_rest (hr.mono (by decide)) ZAV (pv 3) (ZAA (ZBG rfl T.c_RIGHT) ZAE)))
   (ZAJ (ZAZ (ZBK ZBb rfl T.b_list PyProof.Rows.boot_list (ZAA (ZAP (pv 3) rfl) ZAE)))))))))), ?_⟩
  walk_at "rd"
  intro jn dj hjn hdj njd
  have hjn' : upd H dj (.own jn) jn = none := by rw [ZAH (Ne.symm njd)]; exact hjn
  have s1 : Same H (upd (upd H dj (.own jn)) jn (.ins C_Join dj [])) := (ZAS hdj _).trans (ZAS hjn' _)
  refine ⟨jn, dj, a, al, ar, ls, rs, rfl, ZAG, s1 _ _ hal, s1 _ _ har, fun sd la ra tk pc H2 k2 nsd nla nra ntk npc js => ⟨rfl, ?_⟩⟩
  have u2 : Same H H2 := fun b o h => k2 b o (ZAD h hjn) (s1 _ _ h)
  have st2 := st.mono u2
  have fH : ∀ {b : Addr}, upd (upd H dj (.own jn)) jn (.ins C_Join dj []) b = none -> H b = none := fun h => s1.free h
  have n3 : ∀ {b : Addr}, H b = none -> b ∉ [a, lg, tl] := fun {b} hb => by
    obtain ⟨w1, h1, _⟩ := st.hlg
    obtain ⟨w2, h2, _⟩ := st.htl
    exact ZDj (st.ha.neN hb) (Ne.symm (ZAD h1 hb)) (Ne.symm (ZAD h2 hb))
  have n2 : ∀ {b : Addr} {o : HO}, H b = some o -> b ∉ [tk, pc] := fun {b o} hb z => by
    rcases yAE.mp z with z | z
    . exact ZAD hb (fH ntk) z
    . exact ZAD hb (fH npc) (yAR.mp z)
  have nx : NX a rl lg tl jn sd la ra tk pc := by
    obtain ⟨w1, h1, _⟩ := st.hlg
    obtain ⟨w2, h2, _⟩ := st.htl
    exact ⟨⟨n3 hjn, n3 (fH nsd), n3 (fH nla), n3 (fH nra), n3 (fH ntk), n3 (fH npc)⟩, n2 st.hrl, n2 h1, n2 h2⟩
  have fr0 : ∀ {H' : Hp}, Fr [a, lg, tl, tk, pc] H2 H' -> Fr [a, lg, tl] H H' := fun f b o n h => f b o (fun z => by
    rcases yAE.mp z with z | z
    . exact n (by rw [z]; exact yAF)
    rcases yAE.mp z with z | z
    . exact n (by rw [z]; exact yAC _ yAF)
    rcases yAE.mp z with z | z
    . exact n (by rw [z]; exact yAC _ (yAC _ yAF))
    . exact n2 h z) (u2 _ _ h)
  refine ZBU (JInv C_Asker C_AskedRule C_Join ks xs a rl ru tl g lg al ar jn sd la ra tk pc pr ls rs H2) ⟨_, JInv.of (i := 0) (j := 0) (w := 0) (s := true) (dn := []) (as := []) (yAG _) (yAG _) (by decide) rfl (yAB _) .refl (by rw [yAT]; exact st2) js fun ps L h => h⟩ ?_
  rintro mm' σ H' ⟨i, j, w, s, v6, dn, as, rfl, rfl, hi, hj, hw, hdl, hal', fr, s', js', hg⟩
  walk_at "rd"
  apply onceP (¬ (i < ls.length /\ j < rs.length))
  . intro tailp
    refine js'.hj.meth (by walk_at "lk") ⟨true, jn, a, sd, la, ra, tk, pc, ls, rs, i, j, dn, rfl, js', ?_⟩
    refine ⟨_, rfl, ?_⟩
    by_cases hil : i < ls.length
    . rw [decide_eq_true hil, if_pos rfl]
      refine js'.hj.meth (by walk_at "lk") ⟨false, jn, a, sd, ra, la, tk, pc, rs, ls, j, i, dn, rfl, js'.swap, ?_⟩
      refine ⟨_, rfl, ?_⟩
      by_cases hjr : j < rs.length
      . rw [decide_eq_true hjr, if_pos rfl]
        refine ZBV ?_
        walk_at "rd"
        have hx := yAQ hil
        have hy := yAQ hjr
        generalize ls[i] = x at hx
        generalize rs[j] = y at hy
        have hxm := yAV hx
        have hym := yAV hy
        have hxy := hdis x hxm y hym
        refine js'.hj.meth (by walk_at "lk") ⟨ks, xs, a, rl, ru, tl, g, lg, jn, sd, la, ra, tk, pc, _, ls, rs, dn, i, j, x, y, rfl, s', js', nx, hx, hy, hxy, hlk x hxm, hrk y hym, by rw [yAA]; omega, by omega, by omega, fun H3 f3 s3 jL jR => ?_⟩
        rw [yAJ] at s3
        walk_at "rd"
        obtain ⟨b, ma, ta, ms, ts, mi, tj, u, v, eb, hbb, hmi, hu, hv, huv, jB, nxB, hmp, hml, htl', hmk, hvk, emm, eij, hgB⟩ : ∃ (b : Bool) (ma ta : Addr) (ms ts : List Nat) (mi tj u v : Nat), decide (lx ks x y) = b /\ ((b = true /\ ma = la /\ ta = ra /\ ms = ls /\ ts = rs) ∨ (b = false /\ ma = ra /\ ta = la /\ ms = rs /\ ts = ls)) /\ mi < ms.length /\ ms[mi]? = some u /\ ts[tj]? = some v /\ lx ks u v /\ JS C_Join H3 b jn a sd ma ta tk pc ms ts (mi + 1) tj (dn ++ [u]) /\ NX a rl lg tl jn sd ma ta tk pc /\ ms.Pairwise (lx ks) /\ ms.length <= 250 /\ ts.length <= 250 /\ (∀ c ∈ ms, c < ks.length /\ c ≠ v) /\ v < ks.length /\ (max x y, min x y) = (max u v, min u v) /\ mi + tj = i + j /\ ∀ ps L, JT ks ms ts mi tj w (if b then s else !s) ps L -> JT ks ms ts 0 0 0 b (dn ++ ps) (as ++ L) := by
          by_cases hd : lx ks x y
          . exact ⟨true, la, ra, ls, rs, i, j, x, y, decide_eq_true hd, .inl ⟨rfl, rfl, rfl, rfl, rfl⟩, hil, hx, hy, hd, jL hd, nx, hlp, hll, hrl, fun c hc => ⟨hlk c hc, hdis c hc y hym⟩, hrk y hym, rfl, rfl, fun ps L h => hg ps L h⟩
          . exact ⟨false, ra, la, rs, ls, j, i, y, x, decide_eq_false hd, .inr ⟨rfl, rfl, rfl, rfl, rfl⟩, hjr, hy, hx, ZEJ hxy hd, (jR hd).swap, nx.swap, hrp, hrl, hll, fun c hc => ⟨hrk c hc, fun e => hdis x hxm c hc e.symm⟩, hlk x hxm, mm_comm x y, Nat.add_comm _ _, fun ps L h => JT.swap (hg ps L (JT.swap h))⟩
        rw [eb]
        rw [emm] at s3
        have htj := (yAH.mp hv).1
        clear jL jR eb emm
        apply ZD1 (fun (n : Int) => n = (nw w (if b then s else !s) : Nat))
        . intro tailp
          by_cases hs : sv b = sv s
          . rw [if_pos hs]
            obtain ⟨n, hn⟩ : ∃ n : Int, n = w + 1 := ⟨_, rfl⟩
            rw [<- hn]
            refine tailp n ?_
            rw [hn]
            revert hs
            cases b <;> cases s <;> intro hs <;> first | rfl | cases hs
          . rw [if_neg hs]
            refine tailp 1 ?_
            revert hs
            cases b <;> cases s <;> intro hs <;> first | rfl | exact absurd rfl hs
        rintro n rfl
        generalize (if b then s else !s) = sb at hgB
        have hnw : nw w sb <= 4 := by unfold nw; split <;> omega
        have hdB := jB.hpc
        by_cases h4 : nw w sb = 4
        . rw [if_pos (by omega)]
          obtain ⟨z, z1, z2, z3⟩ := spot_ex hmp (pl := v) (ms.length - (mi + 1)) (mi + 1) (by omega)
          refine jB.hj.meth (by walk_at "lk") ⟨ks, xs, a, rl, ru, tl, g, lg, jn, sd, ma, ta, tk, pc, b, _, ms, ts, _, mi + 1, tj, v, z, rfl, s3, jB, nxB, hv, by omega, hmk, hvk, by rw [yAA, yAA, yAW]; omega, by rw [yAA, yAW]; omega, z1, z2, z3, fun H4 G f4 hG s4 j1 j2 => ?_⟩
          have hGl : G.length <= 18 := by
            have := hG.looks z1 z2
            have := ZDL (g := z - (mi + 1)) (c := 9) (by show _ < 512; omega)
            omega
          rw [yAJ, yAJ] at s4
          have hasl : (as ++ ([(max u v, min u v)] ++ List.map (ask1 ms v) G)).length <= as.length + 19 := by rw [yAA, yAA, yAW, yAD]; omega
          by_cases hz : z < ms.length
          . refine JInv.fin hbb (w' := 0) z2 (show tj + 1 <= ts.length by omega) (by decide) (by omega) ?_ (by omega) ((fr.trans f3).trans f4) s4 (j1 hz) (fun ps L h => ?_) hi hj
            . rw [yAA, yAA, yAA, yAL, yAU, yAW, yAW]; omega
            . have := hgB _ _ (JT.leap hu hv huv h4 z1 hz z3 hG h)
              rw [seg_cons hu z1] at this
              simpa [yAJ] using this
          . have ez : z = ms.length := by omega
            have j2 := j2 ez
            subst ez
            refine JInv.fin hbb (w' := 0) (yAB _) (yBI htj) (by decide) (by omega) ?_ (by omega) ((fr.trans f3).trans f4) s4 j2 (fun ps L h => ?_) hi hj
            . rw [yAA, yAA, yAL, yAU, yAW]; omega
            . have := hgB _ _ (JT.last hu hv huv h4 (fun k c h1 h2 => (z3 k c h1 h2).mpr (yAH.mp h2).1) hG h)
              rw [ZBv hu] at this
              rw [yCF (by rw [yAU]; exact yAB _)]
              simpa [yAJ] using this
        . rw [if_neg (by omega)]
          refine JInv.fin hbb hmi (yBI htj) (by omega) (by omega) ?_ ?_ (fr.trans f3) s3 jB (fun ps L h => ?_) hi hj
          . rw [yAA, yAW]; omega
          . rw [yAA, yAW]; omega
          . have := hgB _ _ (JT.step hu hv huv h4 h)
            simpa [yAJ] using this
      . rw [decide_eq_false hjr, if_neg (by decide)]
        exact tailp (by omega)
    . rw [decide_eq_false hil, if_neg (by decide)]
      exact tailp (by omega)
  intro hn
  have hdone := hg _ _ (JT.done (s := s) (w := w) hn)
  refine js'.hj.meth (by walk_at "lk") ⟨true, jn, a, sd, la, ra, tk, pc, ls, rs, i, j, dn, rfl, js', hi, by omega, fun H3 f3 js3 => ?_⟩
  have s3 := s'.apart f3 js'.lsts nx.n2
  refine js3.hj.meth (by walk_at "lk") ⟨false, jn, a, sd, ra, la, tk, pc, rs, ls, j, ls.length, _, rfl, js3.swap, hj, by rw [yAA, yAU]; omega, fun H4 f4 js4 => ?_⟩
  have s4 := s3.apart f4 js3.lsts nx.n2
  rw [yAJ] at js4
  rw [yAT] at hdone
  refine js4.hj.get T.cl_Join T.n_Join_places (by walk_at "lk") ⟨pc, _, rfl, .inl (SqL.of js4.hpc), fun l hl => ?_⟩
  have fr4 : Fr [a, lg, tl, tk, pc] H2 H4 := (fr.trans (fr5b f3)).trans (fr5b f4)
  refine q l _ _ as ((fr0 fr4).trans (ZAS hl _).fr) ?_ ZAG hdone (s4.mono (ZAS hl _))
  cases e : H l with
  | none => rfl
  | some o =>
    by_cases hm : l ∈ [a, lg, tl]
    . obtain ⟨ws4, h5, _⟩ := s4.hlg
      obtain ⟨us4, h6, _⟩ := s4.htl
      rcases yAE.mp hm with z | z
      . exact absurd z (s4.ha.neN hl)
      rcases yAE.mp z with z | z
      . rw [z, h5] at hl; cases hl
      . rw [yAR.mp z, h6] at hl; cases hl
    . rw [fr0 fr4 l o hm e] at hl; cases hl
theorem ok_grade {f : Addr} {fd : FuncData} (F : Fun K "grade" "grade" ZCb f fd) (T : Bt K mg C_Join C_Pile C_Asker C_AskedRule)
    : FnOk P w K mg base CX0 1 f fd ["many", "first", "middle", "beyond"] (ZDh) := by
  refine F.ok sc_grade (fun vs H Q E h => ?_) (fun cdv A outer s H vs Q E hr h => ?_)
  . obtain ⟨m, a, b, c, rfl, h1, hm, ha, hab, hbc, hcm, q⟩ := h
    rfl
  obtain ⟨m, a, b, c, rfl, h1, hm, ha, hab, hbc, hcm, q⟩ := h
  refine ⟨_, (ZAB (ZAK (i := 4) sc_grade.nd rfl (by walk_at "o") (ZAO ZCC ZAF (ZAO ZAi (pv 1) (pv 2))))
   (ZAB (ZAK (i := 5) sc_grade.nd rfl (by walk_at "o") (ZAO ZCC ZAF (ZAO ZAi (pv 2) (pv 3))))
   (ZAB (ZAK (i := 6) sc_grade.nd rfl (by walk_at "o") ZAF)
   (ZAB (ZBX PassesOwn.never (ZAU ZCd (ZAO ZCj (pv 4) (ZAO ZCC ZAF (pv 0))) (ZAO ZCj (pv 5) (ZAO ZCC ZAF (pv 0))) (ZAY _))
   (ZAB (ZAK (i := 4) sc_grade.nd rfl (by walk_at "o") (ZAO ZCC ZAF (pv 4)))
   (ZAB (ZAK (i := 5) sc_grade.nd rfl (by walk_at "o") (ZAO ZCC ZAF (pv 5)))
   (ZAJ (ZDs (i := 6) sc_grade.nd rfl (by walk_at "o") ZAF ZDx)))))
   (ZAJ (ZAZ (pv 6))))))), ?_⟩
  walk_at "rd"
  refine ⟨.inl ⟨by decide, by decide⟩, .inl ⟨by decide, by decide⟩, ?_⟩
  refine ZBU (fun n σ H' => ∃ p : Nat, n = 240 - p /\ H' = H /\ σ = [some (.int m), some (.int a), some (.int b), some (.int c), some (.int ((a + b) * 2 ^ p)), some (.int ((b + c) * 2 ^ p)), some (.int p)] /\ 1 <= p /\ p <= 240 /\ ∀ r, 1 <= r -> r < p -> Gr.qt m (a + b) r = Gr.qt m (b + c) r) ⟨_, 1, rfl, rfl, ?_, yAB _, by decide, fun r h1 h2 => by omega⟩ ?_
  . rw [Int.pow_one, Int.mul_comm (a + b), Int.mul_comm (b + c)]; rfl
  rintro n σ H' ⟨p, rfl, rfl, rfl, hp1, hp2, hq⟩
  walk_at "rd"
  refine ⟨.inl ⟨by decide, by decide⟩, ⟨by omega, by omega⟩, .inl ⟨by decide, by decide⟩, ⟨by omega, by omega⟩, ?_⟩
  split
  . rename_i he
    have hp3 : p < 240 := by
      rcases yCB p 240 with l | l
      . exact l
      . exact absurd he (Gr.qt_ne (by omega) (by omega) (pow240 hm l))
    refine ZBV ?_
    walk_at "rd"
    refine ⟨.inl ⟨by decide, by decide⟩, .inl ⟨by decide, by decide⟩, ?_⟩
    walk_at "rd"
    refine ⟨_, ?_, p + 1, rfl, ?_, by omega, by omega, fun r h1 h2 => ?_⟩
    . omega
    . rw [dbl, dbl]; rfl
    . rcases yCB r p with l | l
      . exact hq r h1 l
      . obtain rfl : r = p := by omega
        exact he
  . rename_i he
    exact q p ⟨hp1, hq, he⟩ hp2
theorem ok_cell_at {f : Addr} {fd : FuncData} (F : Fun K "_law_cell_at" "_law_cell_at" ZBi f fd) (T : Bt K mg C_Join C_Pile C_Asker C_AskedRule)
    : FnOk P w K mg base CX0 1 f fd ["_law_script", "_law_k"] (ZDV K) := by
  refine F.ok sc_cell_at (fun vs H Q E h => ?_) (fun cdv A outer s H vs Q E hr h => ?_)
  . obtain ⟨a, ns, k, rfl, hS, h0, q⟩ := h
    rfl
  obtain ⟨a, ns, k, rfl, hS, h0, q⟩ := h
  refine ⟨_, (ZAB (ZBT (ZAU ZC2 (pv 1) (ZAR ZAM rfl T.b_len PySem.boot_len (ZAA (pv 0) ZAE)) (ZAY _))
   (ZAJ (ZAZ (ZAa ZAg (pv 0) (pv 1) (fun _ _ => rfl)))) ZAu)
   (ZAJ (ZAZ ZAF))), ?_⟩
  walk_at "rd"
  refine ⟨a, _, rfl, .inl hS, ?_⟩
  walk_at "rd"
  rw [yAD]
  unfold cellOf at q
  split
  . rename_i hk
    rw [if_pos hk] at q
    have hk' : k.toNat < ns.length := by omega
    refine ZA0 hS (atI_ints h0 (yAQ hk')) ?_
    rw [yAQ hk'] at q
    exact q
  . rename_i hk
    rw [if_neg hk] at q
    exact q
theorem ok_blocks {f : Addr} {fd : FuncData} (F : Fun K "_law_blocks" "_law_blocks" ZB4 f fd) (T : Bt K mg C_Join C_Pile C_Asker C_AskedRule)
    : FnOk P w K mg base CX0 1 f fd ["_law_keys", "_law_one", "_law_two"] (ZEi) := by
  refine F.ok sc_blocks (fun vs H Q E h => ?_) (fun cdv A outer s H vs Q E hr h => ?_)
  . obtain ⟨a, c1, c2, ks, rfl, ha, hk, q⟩ := h
    rfl
  obtain ⟨a, c1, c2, ks, rfl, ha, hk, q⟩ := h
  refine ⟨_, (ZAB (ZAK (i := 3) sc_blocks.nd rfl (by walk_at "o") (ZBJ ZAE))
   (ZAB (ZAK (i := 4) sc_blocks.nd rfl (by walk_at "o") ZAF)
   (ZAB (ZBX PassesOwn.never (ZAU ZC2 (ZAR ZAM rfl T.b_len PySem.boot_len (ZAA (pv 3) ZAE)) (ZAR ZAM rfl T.b_len PySem.boot_len (ZAA (pv 0) ZAE)) (ZAY _))
   (ZAB (ZAK (i := 5) sc_blocks.nd rfl (by walk_at "o") (ZAR ZBy rfl T.b_sorted PyProof.Rows.boot_sorted (ZAA (ZBY ZBs (pv 0) (ZA9 (ZAR ZAM rfl T.b_len PySem.boot_len (ZAA (pv 3) ZAE))) (ZA9 (ZAO ZAi (ZAO ZAi (ZAR ZAM rfl T.b_len PySem.boot_len (ZAA (pv 3) ZAE)) ZAF) (ZAa ZAg (ZBJ (ZAA (ZAO ZBA (pv 1) ZAF) (ZAA (ZAO ZBA (pv 2) ZAF) ZAE))) (ZAO ZBA (pv 4) ZAF) (fun _ _ => rfl))))) ZAE)))
   (ZAB (ZBT (ZAU ZCd (ZAO ZBA (ZAO ZCj (ZAO ZBc (pv 1) ZAF) (ZAO ZAi (pv 4) ZAF)) ZAF) ZAF (ZAY _))
   (ZAJ (ZAl (ZEF PySem.F.plainAttrs_list PySem.F.slot_list_reverse PySem.F.type_list_reverse mt_reverse (pv 5)))) ZAu)
   (ZAB (ZAK (i := 3) sc_blocks.nd rfl (by walk_at "o") (ZAO ZEG (pv 3) (pv 5)))
   (ZAJ (ZAK (i := 4) sc_blocks.nd rfl (by walk_at "o") (ZAO ZAi (pv 4) ZAF)))))))
   (ZAJ (ZAZ (pv 3)))))), ?_⟩
  walk_at "rd"
  refine ⟨yAG _, fun r0 hr0 => ?_⟩
  obtain ⟨H1, e1, s1, h1⟩ := newH hr0 (.lst [])
  rw [e1]; clear e1
  refine ZBU (fun m σ H' => ∃ (rw : Addr) (k : Nat) (v5 : Option V) (rs : List Int), m = ks.length - rs.length /\ σ = [some (.ref a), some (.int c1), some (.int c2), some (.ref rw), some (.int k), v5] /\ k <= rs.length /\ rs.length <= ks.length /\ Same H H' /\ H rw = none /\ H' rw = some (.lst (rs.map V.int))) ⟨_, r0, 0, _, [], rfl, rfl, yAG _, yAG _, s1, hr0, h1⟩ ?_
  rintro m σ H' ⟨rw, k, v5, rs, rfl, rfl, hkr, hrs, s2, hrw0, hrw⟩
  walk_at "rd"
  refine ⟨rw, _, rfl, .inl (SqL.of hrw), a, _, rfl, .inl (SqL.of (s2 _ _ ha)), ?_⟩
  rw [yAD, yAD]
  walk_at "rd"
  by_cases hlt : rs.length < ks.length
  . rw [if_pos (by omega)]
    refine ZBV ?_
    walk_at "rd"
    refine ⟨rw, _, rfl, .inl (SqL.of hrw), rw, _, rfl, .inl (SqL.of hrw), by decide, by decide, ZAe (by decide), fun p hp => ⟨by decide, ?_⟩⟩
    rw [yAD]
    obtain ⟨H3, e3, s3, h3⟩ := newH hp (.lst [.int (c1 % 17), .int (c2 % 40)])
    rw [e3]; clear e3
    obtain ⟨b, hb0, hb⟩ : ∃ b : Nat, 0 <= b /\ atI [V.int (c1 % 17), V.int (c2 % 40)] ((k : Int) % 2) = some (V.int (b : Int)) := by
      have m0 : (k : Int) % 2 = 0 ∨ (k : Int) % 2 = 1 := by omega
      have g1 := Int.emod_nonneg c1 (show (17 : Int) ≠ 0 by decide)
      have g2 := Int.emod_nonneg c2 (show (40 : Int) ≠ 0 by decide)
      rcases m0 with e | e <;> rw [e]
      . exact ⟨(c1 % 17).toNat, yAG _, by rw [Int.toNat_of_nonneg g1]; exact ZAW (by decide) rfl⟩
      . exact ⟨(c2 % 40).toNat, yAG _, by rw [Int.toNat_of_nonneg g2]; exact ZAW (by decide) rfl⟩
    refine ZA0 (SqL.of h3) hb ?_
    walk_at "rd"
    refine ZCe (SqL.of (s3 _ _ (s2 _ _ ha))) fun sl hsl => ?_
    rw [ZCV, show (rs.length : Int) + 1 + (b : Int) = ((rs.length + 1 + b : Nat) : Int) by omega, HT.sIx_nat, HT.sIx_nat, yBG hrs]
    obtain ⟨bl, ebl⟩ : ∃ bl, (ks.drop rs.length).take (min (rs.length + 1 + b) ks.length - rs.length) = bl := ⟨_, rfl⟩
    have hbl : 1 <= bl.length /\ rs.length + bl.length <= ks.length := by rw [<- ebl, yAL, yAU]; omega
    rw [ebl]; clear ebl
    obtain ⟨H4, e4, s4, h4⟩ := newH hsl (.lst (bl.map V.int))
    rw [e4]; clear e4
    refine ⟨sl, bl, rfl, SqL.of h4, by omega, fun l ms hl hperm _ => ⟨⟨by decide, by decide⟩, ⟨by omega, by omega⟩, by decide, ?_⟩⟩
    have hml := hperm.length_eq
    have S4 : Same H H4 := s2.trans (s3.trans s4)
    have hrw4 := s4 _ _ (s3 _ _ hrw)
    have nrl : rw ≠ l := ZAD hrw4 hl
    apply ZD1 (fun X : Hp => Same H X /\ X rw = some (.lst (rs.map V.int)) /\ ∃ us : List Int, us.length = bl.length /\ X l = some (.lst (us.map V.int)))
    . intro tailp
      by_cases hc : c1 / 17 / ((k : Int) + 1) % 2 = 1
      . rw [if_pos hc]
        refine ⟨.inl ⟨rfl, _, SqL.of ZAG⟩, l, _, rfl, rfl, ZAG, ?_⟩
        rw [ZDB, <- List.map_reverse]
        obtain ⟨X, eX, sX, hX⟩ := newH hl (.lst (ms.reverse.map V.int))
        rw [eX]; clear eX
        exact tailp X ⟨S4.trans sX, sX _ _ hrw4, ms.reverse, by rw [List.length_reverse, hml], hX⟩
      . rw [if_neg hc]
        obtain ⟨X, eX, sX, hX⟩ := newH hl (.lst (ms.map V.int))
        rw [eX]; clear eX
        exact tailp X ⟨S4.trans sX, sX _ _ hrw4, ms, hml, hX⟩
    rintro X ⟨sX, hrwX, us, hul, hX⟩
    refine ⟨rw, l, _, _, rfl, rfl, hrwX, hX, ZAe (by rw [yAD, yAD]; omega), fun p2 hp2 => ?_⟩
    refine ⟨_, ?_, p2, k + 1, _, rs ++ us, rfl, by rw [show (k : Int) + 1 = ((k + 1 : Nat) : Int) by omega], ?_, ?_, sX.new hp2, sX.free hp2, by rw [ZAG, yAO]⟩ <;> rw [yAA] <;> omega
  . rw [if_neg (by omega)]
    walk_at "rd"
    exact q rw H' rs s2 hrw0 hrw (by omega)
theorem ok_keys_by {f : Addr} {fd : FuncData} (F : Fun K "_law_keys_by" "_law_keys_by" ZBg f fd) (T : Bt K mg C_Join C_Pile C_Asker C_AskedRule)
    (f_cell_at : Fn P w K mg base CX0 "_law_cell_at" 1 ["_law_script", "_law_k"] (ZDV K))
    : FnOk P w K mg base CX0 2 f fd ["_law_script", "_law_many", "_law_most"] (ZDG K) := by
  refine F.ok sc_keys_by (fun vs H Q E h => ?_) (fun cdv A outer s H vs Q E hr h => ?_)
  . obtain ⟨a, ns, m, rfl, hS, h63, hm0, hm1, q⟩ := h
    rfl
  obtain ⟨a, ns, m, rfl, hS, h63, hm0, hm1, q⟩ := h
  refine ⟨_, (ZAB (ZBT (ZAU ZCd (ZAO ZBA (ZAO ZBc (ZBH f_cell_at (hr.mono (by decide)) rfl ZAV (ZAA (pv 0) (ZAA ZAF ZAE))) ZAF) ZAF) ZAF (ZAY _))
   (ZAJ (ZAZ (pe_comp rfl (k := 1) (js := [1]) (N' := ["_law_cell", "_law_many"]) (by rfl) (pi_list (ZBY ZBs (pv 0) (ZA9 ZAF) (ZA9 (ZAO ZAi ZAF (pv 2))))) (fun _ _ _ _ => ZCr (i := 0) (show (["_law_cell", "_law_many"] : List Str).Nodup by decide +kernel) rfl (by walk_at "o")) (fun _ _ _ _ => pifs_nil) (fun _ _ _ _ => (ZAO ZBA (pv 0) (pv 1)))))) ZAu)
    (ZAT
   (ZAB (ZAK (i := 3) sc_keys_by.nd rfl (by walk_at "o") (ZAO ZBc (ZBH f_cell_at (hr.mono (by decide)) rfl ZAV (ZAA (pv 0) (ZAA ZAF ZAE))) (ZAO ZAi (ZAR (ZBz rfl) rfl T.b_min PyProof.Rows.boot_min (ZAA (pv 2) (ZAA ZAF ZAE))) ZAF)))
   (ZAB (ZAK (i := 4) sc_keys_by.nd rfl (by walk_at "o") (ZBJ ZAE))
   (ZAB (ZED PassesOwn.never rfl (pi_range1 rfl T.b_range (ZAA (ZAO ZBA (ZBH f_cell_at (hr.mono (by decide)) rfl ZAV (ZAA (pv 0) (ZAA ZAF ZAE))) (ZAO ZAi (ZAR (ZBz rfl) rfl T.b_min PyProof.Rows.boot_min (ZAA (pv 2) (ZAA ZAF ZAE))) ZAF)) ZAE)) (ZCr (i := 5) sc_keys_by.nd rfl (by walk_at "o"))
   (ZAB (ZBT (ZAU ZC2 (pv 3) ZAF (ZAY _))
   (ZAJ (ZAK (i := 3) sc_keys_by.nd rfl (by walk_at "o") (ZAO ZAi (ZAO ZCC (ZAR call_absI rfl T.b_abs PyProof.Rows.boot_abs (ZAA (ZBH f_cell_at (hr.mono (by decide)) rfl ZAV (ZAA (pv 0) (ZAA (ZAO ZAi ZAF (pv 5)) ZAE))) ZAE)) ZAF) (ZAO ZCC (ZAO ZCC ZAF (pv 5)) (pv 5))))) ZAu)
   (ZAB (ZAl (ZCP PySem.F.plainAttrs_list PySem.F.slot_list_append PySem.F.type_list_append ZBj (pv 4) (ZAA (ZAO ZBA (pv 3) (pv 1)) ZAE)))
   (ZAJ (ZAK (i := 3) sc_keys_by.nd rfl (by walk_at "o") (ZAO ZCj (pv 3) (pv 1)))))))
   (ZAJ (ZAZ (pv 4)))))))), ?_⟩
  walk_at "rd"
  refine ⟨a, ns, 1, rfl, hS, by decide, ?_⟩
  generalize cellOf ns 1 = c1
  walk_at "rd"
  refine ⟨⟨by decide, by decide⟩, by decide, ?_⟩
  by_cases hc : c1 / 4 % 2 = 0
  . rw [if_pos hc]
    refine ZCe hS fun sl hsl => ?_
    rw [ZCV]
    obtain ⟨bl, ebl⟩ : ∃ bl, (ns.drop (HT.sIx ns.length 0 (some 5))).take (HT.sIx ns.length ns.length (some (5 + 63)) - HT.sIx ns.length 0 (some 5)) = bl := ⟨_, rfl⟩
    have hbl : bl.length <= 63 := by rw [<- ebl, yAL, yAU]; omega
    rw [ebl]; clear ebl
    obtain ⟨H4, e4, s4, h4⟩ := newH hsl (.lst (bl.map V.int))
    rw [e4]; clear e4
    refine compL_of (SqL.of h4) (by rw [yAD]; omega) (fun i ys σ H' => ∃ v, σ = [v, some (.int m)] /\ H' = H4 /\ ∃ cs : List Int, ys = cs.map V.int /\ cs.length = i) ⟨_, rfl, rfl, [], rfl, rfl⟩ (fun i ys σ H' _ ⟨_, _, e, cs, e2, e3⟩ => ⟨by rw [e]; exact SqL.of h4, by rw [e2, yAD]; omega⟩) ?_ ?_
    . rintro i ys x σ H' hi hx ⟨v, rfl, rfl, cs, rfl, hcs⟩
      obtain ⟨n, hn', rfl⟩ := get_ints hx
      walk_at "rd"
      refine ⟨hm0, ?_⟩
      exact Nxt.of hi ⟨_, rfl, rfl, cs ++ [_], by rw [yAO]; rfl, by rw [yAA, hcs]; rfl⟩
    rintro ys σ H2 ⟨v, rfl, rfl, cs, rfl, hcs⟩ k1 hk1
    rw [yAD] at hcs
    exact q k1 _ cs (s4.trans (ZAS hk1 _)) (s4.free hk1) ZAG (by omega)
  rw [if_neg hc]
  refine ZAd ?_
  walk_at "rd"
  refine ⟨a, ns, 5, rfl, hS, by decide, _, _, rfl, ?_⟩
  generalize cellOf ns 5 = c5
  walk_at "rd"
  rw [show ((if (60 : Int) < 63 then (60 : Int) else 63) + 1) = 61 from rfl]
  refine ⟨⟨by decide, by decide⟩, yAG _, fun p hp => ?_⟩
  obtain ⟨H1, e1, s1, h1⟩ := newH hp (.lst [])
  rw [e1]; clear e1
  refine ⟨a, ns, 5, rfl, s1.seq hS, by decide, _, _, rfl, ?_⟩
  generalize cellOf ns 5 = c6
  walk_at "rd"
  rw [show ((if (60 : Int) < 63 then (60 : Int) else 63) + 1) = 61 from rfl]
  refine ⟨by decide, ?_⟩
  have r0 := Int.emod_nonneg c6 (show (61 : Int) ≠ 0 by decide)
  have r1 := Int.emod_lt_of_pos c6 (show (0 : Int) < 61 by decide)
  obtain ⟨z0, ez⟩ : ∃ z0, c5 / 61 = z0 := ⟨_, rfl⟩
  rw [ez]
  refine forR1_of (by omega) (forR_of (fun i σ H' => ∃ (z : Int) (rs : List Int) (v5 : Option V), σ = [some (.ref a), some (.int m), some (.int 63), some (.int z), some (.ref p), v5] /\ Same H H' /\ H' p = some (.lst (rs.map V.int)) /\ rs.length = i) ⟨z0, [], _, rfl, s1, h1, rfl⟩ ?_ ?_)
  . rintro i σ H' hi ⟨z, rs, v5, rfl, s2, h2, hz⟩
    walk_at "rd"
    apply ZD1 (fun y : Int => True)
    . intro tailp
      by_cases hz1 : z < 1
      . rw [if_pos hz1]
        refine ⟨a, ns, 6 + (0 + (i : Int)), rfl, s2.seq hS, by omega, _, rfl, ?_⟩
        walk_at "rd"
        refine ⟨.inr ⟨by decide, by decide⟩, .inr ⟨by omega, by omega⟩, .inr ⟨by omega, by omega⟩, ?_⟩
        obtain ⟨y, ey⟩ : ∃ y, (if cellOf ns (6 + (0 + (i : Int))) < 0 then -cellOf ns (6 + (0 + (i : Int))) else cellOf ns (6 + (0 + (i : Int)))) * 48271 + 16807 * (0 + (i : Int)) * (0 + (i : Int)) = y := ⟨_, rfl⟩
        rw [ey]
        exact tailp y trivial
      . rw [if_neg hz1]
        exact tailp z trivial
    intro y _
    refine ⟨.inl ⟨rfl, _, SqL.of h2⟩, hm0, p, _, _, rfl, rfl, h2, ZBS (by rw [yAD]; omega), ⟨hm0, Int.lt_of_le_of_lt hm1 (by decide)⟩, ?_⟩
    exact ⟨_, rs ++ [_], _, rfl, s2.upd hp, by rw [ZAG, yAO]; rfl, by rw [yAA, hz]; rfl⟩
  . rintro σ H' ⟨z, rs, v5, rfl, s2, h2, hz⟩
    walk_at "rd"
    exact q p H' rs s2 hp h2 (by omega)
theorem ok_row_by {f : Addr} {fd : FuncData} (F : Fun K "_law_row_by" "_law_row_by" ZB1 f fd) (T : Bt K mg C_Join C_Pile C_Asker C_AskedRule)
    (f_keys_by : Fn P w K mg base CX0 "_law_keys_by" 2 ["_law_script", "_law_many", "_law_most"] (ZDG K))
    (f_cell_at : Fn P w K mg base CX0 "_law_cell_at" 1 ["_law_script", "_law_k"] (ZDV K))
    (f_blocks : Fn P w K mg base CX0 "_law_blocks" 1 ["_law_keys", "_law_one", "_law_two"] (ZEi))
    : FnOk P w K mg base CX0 3 f fd ["_law_script"] (ZDd K) := by
  refine F.ok sc_row_by (fun vs H Q E h => ?_) (fun cdv A outer s H vs Q E hr h => ?_)
  . obtain ⟨a, ns, rfl, hS, h63, q⟩ := h
    rfl
  obtain ⟨a, ns, rfl, hS, h63, q⟩ := h
  refine ⟨_, (ZAB (ZAK (i := 1) sc_row_by.nd rfl (by walk_at "o") (ZAa ZAg (ZBJ (ZAA ZAF (ZAA ZAF (ZAA ZAF (ZAA (ZAO op_pow ZAF ZAF) ZAE))))) (ZAO ZBA (ZBH f_cell_at (hr.mono (by decide)) rfl ZAV (ZAA (pv 0) (ZAA ZAF ZAE))) ZAF) (fun _ _ => rfl)))
    (ZAT
   (ZAB (ZAK (i := 2) sc_row_by.nd rfl (by walk_at "o") (ZBH f_keys_by (hr.mono (by decide)) rfl ZAV (ZAA (pv 0) (ZAA (pv 1) (ZAA ZAF ZAE)))))
    (ZAT
   (ZAB (ZAK (i := 3) sc_row_by.nd rfl (by walk_at "o") (ZAO ZBA (ZBH f_cell_at (hr.mono (by decide)) rfl ZAV (ZAA (pv 0) (ZAA ZAF ZAE))) ZAF))
   (ZAB (ZAK (i := 4) sc_row_by.nd rfl (by walk_at "o") (ZBH f_cell_at (hr.mono (by decide)) rfl ZAV (ZAA (pv 0) (ZAA ZAF ZAE))))
   (ZAB (ZAK (i := 5) sc_row_by.nd rfl (by walk_at "o") (ZBH f_cell_at (hr.mono (by decide)) rfl ZAV (ZAA (pv 0) (ZAA ZAF ZAE))))
    (ZAT
   (ZAB (ZBT (ZAU ZCd (pv 3) ZAF (ZAY _))
   (ZAJ (ZAK (i := 2) sc_row_by.nd rfl (by walk_at "o") (ZBH f_blocks (hr.mono (by decide)) rfl ZAV (ZAA (pv 2) (ZAA (pv 4) (ZAA (pv 5) ZAE)))))) ZAu)
    (ZAT
   (ZAB (ZBT (PW.pt (ZC8 (ZAU ZCd (pv 3) ZAF (ZAY _)) (ZCc (ZAU (ZDt hr.units) (pv 2) (ZBJ ZAE) (ZAY _)))))
   (ZAB (ZAK (i := 2) sc_row_by.nd rfl (by walk_at "o") (ZAR ZBy rfl T.b_sorted PyProof.Rows.boot_sorted (ZAA (pv 2) ZAE)))
   (ZAJ (ZAl (ZCP PySem.F.plainAttrs_list PySem.F.slot_list_insert PySem.F.type_list_insert mt_insert (pv 2) (ZAA (ZAO ZBA (pv 5) (ZAR ZAM rfl T.b_len PySem.boot_len (ZAA (pv 2) ZAE))) (ZAA (ZCP PySem.F.plainAttrs_list PySem.F.slot_list_pop PySem.F.type_list_pop ZCk (pv 2) (ZAA (ZAO ZBA (pv 4) (ZAR ZAM rfl T.b_len PySem.boot_len (ZAA (pv 2) ZAE))) ZAE)) ZAE)))))) ZAu)
    (ZAT
   (ZAB (ZBT (PW.pt (ZC8 (ZAU ZCd (pv 3) ZAF (ZAY _)) (ZCc (ZAU (ZDt hr.units) (pv 2) (ZBJ ZAE) (ZAY _)))))
   (ZAJ (ZAK (i := 2) sc_row_by.nd rfl (by walk_at "o") (ZAO ZEG (ZBY ZBs (pv 2) po_none (ZA9 (ZAO ZBA (pv 4) (ZAR ZAM rfl T.b_len PySem.boot_len (ZAA (pv 2) ZAE))))) (ZAR ZBy rfl T.b_sorted PyProof.Rows.boot_sorted (ZAA (ZBY ZBs (pv 2) (ZA9 (ZAO ZBA (pv 4) (ZAR ZAM rfl T.b_len PySem.boot_len (ZAA (pv 2) ZAE)))) po_none) ZAE))))) ZAu)
    (ZAT
   (ZAJ (ZAZ (pe_comp rfl (k := 1) (js := [2]) (N' := ["_law_k", "_law_keys"]) (by rfl) (pi_range1 rfl T.b_range (ZAA (ZAR ZAM rfl T.b_len PySem.boot_len (ZAA (pv 2) ZAE)) ZAE)) (fun _ _ _ _ => ZCr (i := 0) (show (["_law_k", "_law_keys"] : List Str).Nodup by decide +kernel) rfl (by walk_at "o")) (fun _ _ _ _ => pifs_nil) (fun _ _ _ _ => (ZBu (ZAA (ZAa (ix_listK K) (pv 1) (pv 0) (fun _ _ => rfl)) (ZAA (pv 0) ZAE))))))))))))))))))))), ?_⟩
  walk_at "rd"
  refine ⟨⟨by decide, by decide, by decide⟩, ZAe (by decide), fun p hp => ?_⟩
  obtain ⟨H1, e1, s1, h1⟩ := newH hp (.lst [.int 2, .int 5, .int 100, .int (10 ^ Int.toNat 60)])
  rw [e1]; clear e1
  refine ⟨a, ns, 0, rfl, s1.seq hS, by decide, ?_⟩
  generalize cellOf ns 0 = c0
  walk_at "rd"
  refine ⟨by decide, ?_⟩
  obtain ⟨b, hb0, hb1, hb⟩ : ∃ b : Int, 0 < b /\ b <= 10 ^ 60 /\ atI [V.int 2, V.int 5, V.int 100, V.int (10 ^ Int.toNat 60)] (c0 % 4) = some (V.int b) := by
    have m0 : c0 % 4 = 0 ∨ c0 % 4 = 1 ∨ c0 % 4 = 2 ∨ c0 % 4 = 3 := by omega
    rcases m0 with e | e | e | e <;> rw [e]
    . exact ⟨2, by decide, by decide, ZAW (by decide) rfl⟩
    . exact ⟨5, by decide, by decide, ZAW (by decide) rfl⟩
    . exact ⟨100, by decide, by decide, ZAW (by decide) rfl⟩
    . exact ⟨10 ^ Int.toNat 60, by decide, by decide, ZAW (by decide) rfl⟩
  refine ZA0 (SqL.of h1) hb ?_
  refine ZAd ?_
  walk_at "rd"
  refine ⟨a, ns, b, rfl, s1.seq hS, h63, hb0, hb1, fun k1 H2 r1 s2 hk1 h2 hr1 => ?_⟩
  have S2 : Same H H2 := s1.trans s2
  refine ZAd ?_
  walk_at "rd"
  refine ⟨a, ns, 1, rfl, S2.seq hS, by decide, ?_⟩
  generalize cellOf ns 1 = c1
  walk_at "rd"
  refine ⟨by decide, a, ns, 2, rfl, S2.seq hS, by decide, a, ns, 3, rfl, S2.seq hS, by decide, ?_⟩
  generalize c1 % 4 = cw
  generalize cellOf ns 2 = c2
  generalize cellOf ns 3 = c3
  refine ZAd ?_
  walk_at "rd"
  apply ZEV (fun (ky : Addr) (H4 : Hp) => Same H H4 /\ H ky = none /\ ∃ ks : List Int, H4 ky = some (.lst (ks.map V.int)) /\ ks.length <= 63)
  . intro tailp
    by_cases h1 : cw = 1
    . rw [if_pos h1]
      refine ⟨k1, c2, c3, r1, rfl, h2, hr1, fun l H' rs s' hl h' hr => ?_⟩
      exact tailp l H' ⟨S2.trans s', S2.free hl, rs, h', hr⟩
    . rw [if_neg h1]
      exact tailp k1 H2 ⟨S2, s1.free hk1, r1, h2, hr1⟩
  rintro ky H4 ⟨S4, hky, ks, h4, hks⟩
  clear h2 hr1 s2
  refine ZAd ?_
  walk_at "rd"
  apply ZEV (fun (ky : Addr) (H4 : Hp) => Same H H4 /\ H ky = none /\ ∃ ks : List Int, H4 ky = some (.lst (ks.map V.int)) /\ ks.length <= 63)
  . intro tailp
    by_cases h1 : cw = 2
    . rw [if_pos h1]
      refine ⟨yAG _, fun p2 hp2 => ?_⟩
      obtain ⟨H5, e5, s5, h5⟩ := newH hp2 (.lst [])
      rw [e5]; clear e5
      have S5 := S4.trans s5
      refine ZEI Enc.int.list (by decide) (a := ks) (b := []) (ZBw (SqL.of (s5 _ _ h4))) (ZBw (xs := []) (SqL.of h5)) ⟨_, rfl, ?_⟩
      by_cases hkn : ks ≠ []
      . rw [if_pos (by simp [hkn])]
        refine ⟨ky, ks, rfl, SqL.of (s5 _ _ h4), by omega, fun l ms hl hperm _ => ?_⟩
        obtain ⟨H6, e6, s6, h6⟩ := newH hl (.lst (ms.map V.int))
        rw [e6]; clear e6
        have hml := hperm.length_eq
        have hpos : 0 < ms.length := by rw [hml]; exact List.length_pos_iff.mpr hkn
        refine ⟨.inl ⟨rfl, _, SqL.of h6⟩, l, _, rfl, .inl (SqL.of h6), ?_⟩
        rw [yAD]
        refine ⟨by omega, .inl ⟨rfl, _, SqL.of h6⟩, l, _, rfl, .inl (SqL.of h6), ?_⟩
        rw [yAD]
        have g0 := Int.emod_nonneg c2 (show (ms.length : Int) ≠ 0 by omega)
        have g1 := Int.emod_lt_of_pos c2 (show (0 : Int) < ms.length by omega)
        have g2 := Int.emod_nonneg c3 (show (ms.length : Int) ≠ 0 by omega)
        have g3 := Int.emod_lt_of_pos c3 (show (0 : Int) < ms.length by omega)
        have hi : (c2 % (ms.length : Int)).toNat < ms.length := by omega
        refine ⟨by omega, l, _, _, (c2 % (ms.length : Int)).toNat, V.int ms[(c2 % (ms.length : Int)).toNat], rfl, rfl, h6, by omega, by omega, PySem.StrLaws.seqIndex_nonneg g0 (by rw [yAD]; omega), by rw [yAY, yAQ hi]; rfl, ?_⟩
        rw [er_map]
        obtain ⟨us, eu, ul⟩ := insV_ints (ms.eraseIdx (c2 % (ms.length : Int)).toNat) (c3 % (ms.length : Int)) ms[(c2 % (ms.length : Int)).toNat]
        have el := List.length_eraseIdx_of_lt hi
        refine ⟨l, _, _, _, rfl, rfl, ZAG, ZBS (by rw [yAD]; omega), by omega, ?_⟩
        rw [ZDB, eu]
        have sl6 : Same H (upd H6 l (.lst (us.map V.int))) := (S5.trans s6).upd (S5.free hl)
        have hl6 : upd H6 l (.lst (us.map V.int)) l = some (.lst (us.map V.int)) := ZAG
        generalize upd H6 l (.lst (us.map V.int)) = H7 at sl6 hl6 ⊢
        exact tailp l H7 ⟨sl6, S5.free hl, us, hl6, by omega⟩
      . rw [if_neg (by simpa using hkn)]
        exact tailp ky H5 ⟨S5, hky, ks, s5 _ _ h4, hks⟩
    . rw [if_neg h1]
      exact tailp ky H4 ⟨S4, hky, ks, h4, hks⟩
  clear h4 hks hky S4
  clear ks H4 ky
  rintro ky H4 ⟨S4, hky, ks, h4, hks⟩
  refine ZAd ?_
  walk_at "rd"
  apply ZEV (fun (ky : Addr) (H4 : Hp) => Same H H4 /\ H ky = none /\ ∃ ks : List Int, H4 ky = some (.lst (ks.map V.int)) /\ ks.length <= 63)
  . intro tailp
    by_cases h1 : cw = 3
    . rw [if_pos h1]
      refine ⟨yAG _, fun p2 hp2 => ?_⟩
      obtain ⟨H5, e5, s5, h5⟩ := newH hp2 (.lst [])
      rw [e5]; clear e5
      have S5 := S4.trans s5
      refine ZEI Enc.int.list (by decide) (a := ks) (b := []) (ZBw (SqL.of (s5 _ _ h4))) (ZBw (xs := []) (SqL.of h5)) ⟨_, rfl, ?_⟩
      by_cases hkn : ks ≠ []
      . rw [if_pos (by simp [hkn])]
        have hpos : 0 < ks.length := List.length_pos_iff.mpr hkn
        have hk5 := s5 _ _ h4
        refine ⟨ky, _, rfl, .inl (SqL.of hk5), ?_⟩
        rw [yAD]
        have g0 := Int.emod_nonneg c2 (show (ks.length : Int) ≠ 0 by omega)
        have g1 := Int.emod_lt_of_pos c2 (show (0 : Int) < ks.length by omega)
        obtain ⟨d, ed⟩ : ∃ d : Nat, c2 % (ks.length : Int) = d := ⟨(c2 % (ks.length : Int)).toNat, by omega⟩
        rw [ed] at g0 g1 ⊢
        walk_at "rd"
        refine ⟨by omega, ZCe (SqL.of hk5) fun l1 hl1 => ?_⟩
        rw [ZCV, HT.sIx_none, HT.sIx_nat, yBG (show d <= ks.length by omega), Nat.sub_zero]
        obtain ⟨H6, e6, s6, h6⟩ := newH hl1 (.lst (((ks.drop 0).take d).map V.int))
        rw [e6]; clear e6
        have hk6 := s6 _ _ hk5
        refine ⟨ky, _, rfl, .inl (SqL.of hk6), ?_⟩
        rw [yAD, ed]
        walk_at "rd"
        refine ⟨by omega, ZCe (SqL.of hk6) fun l2 hl2 => ?_⟩
        rw [ZCV, HT.sIx_none, HT.sIx_nat, yBG (show d <= ks.length by omega)]
        obtain ⟨H7, e7, s7, h7⟩ := newH hl2 (.lst (((ks.drop d).take (ks.length - d)).map V.int))
        rw [e7]; clear e7
        refine ⟨l2, _, rfl, SqL.of h7, by rw [yAL, yAU]; omega, fun l3 ms hl3 hperm _ => ?_⟩
        have hml := hperm.length_eq
        rw [yAL, yAU] at hml
        obtain ⟨H8, e8, s8, h8⟩ := newH hl3 (.lst (ms.map V.int))
        rw [e8]; clear e8
        refine ⟨l1, l3, _, _, rfl, rfl, s8 _ _ (s7 _ _ h6), h8, ZAe (by rw [yAD, yAD, yAL, yAU]; omega), fun p3 hp3 => ?_⟩
        rw [<- yAO]
        obtain ⟨H9, e9, s9, h9⟩ := newH hp3 (.lst (((ks.drop 0).take d ++ ms).map V.int))
        rw [e9]; clear e9
        have S8 : Same H H8 := S5.trans (s6.trans (s7.trans s8))
        exact tailp p3 H9 ⟨S8.trans s9, S8.free hp3, _, h9, by rw [yAA, yAL, yAU]; omega⟩
      . rw [if_neg (by simpa using hkn)]
        exact tailp ky H5 ⟨S5, hky, ks, s5 _ _ h4, hks⟩
    . rw [if_neg h1]
      exact tailp ky H4 ⟨S4, hky, ks, h4, hks⟩
  clear h4 hks hky S4
  clear ks H4 ky
  rintro ky H4 ⟨S4, hky, ks, h4, hks⟩
  refine ZAd ?_
  walk_at "rd"
  refine ⟨ky, _, rfl, .inl (SqL.of h4), ?_⟩
  rw [yAD]
  refine compR1_of (by omega) (fun i ys σ H' => ∃ v, σ = [v, some (.ref ky)] /\ Same H4 H' /\ ys.length = i /\ ∀ (j : Nat) k, j < i -> ks[j]? = some k -> ∃ r, ys[j]? = some (V.ref r) /\ H' r = some (.tup [.int k, .int j])) ⟨_, rfl, .refl _, rfl, fun _ _ h => by omega⟩ (fun i ys σ H' ⟨_, _, _, l, _⟩ => Nat.le_of_eq l) ?_ ?_
  . rintro i ys σ H' hi ⟨v, rfl, s5, hl, hth⟩
    have hi' : i < ks.length := by omega
    walk_at "rd"
    rw [show (0 + (i : Int)) = i by omega]
    refine ZA0 (SqL.of (s5 _ _ h4)) (atI_ints (v := ks[i]) (by omega) (by rw [Int.toNat_natCast]; exact yAQ hi')) ⟨ZAe (by decide), fun t ht => ?_⟩
    refine Nxt.of hi ⟨_, rfl, s5.new ht, by rw [yAA, hl]; rfl, fun j k' hj hk' => ?_⟩
    by_cases z : j < i
    . obtain ⟨r, a1, a2⟩ := hth j k' z hk'
      exact ⟨r, by rw [yBB (by omega)]; exact a1, ZAS ht _ _ _ a2⟩
    . have : j = i := by omega
      subst this
      rw [yAQ hi'] at hk'; cases hk'
      exact ⟨t, by rw [<- hl, yBA (yAB _), yBH]; rfl, ZAG⟩
  rintro xs σ H5 ⟨v, rfl, s5, hxl, hth⟩ xl hxl0
  refine q xl _ ks xs (S4.trans (s5.new hxl0)) (S4.free (s5.free hxl0)) ZAG hks ⟨by omega, fun i k hk => ?_⟩
  have hi := (yAH.mp hk).1
  obtain ⟨r, a1, a2⟩ := hth i k (by omega) hk
  exact ⟨r, a1, ZAS hxl0 _ _ _ a2⟩
theorem ok_Pile_init {f : Addr} {fd : FuncData} {dv : List Value} (F : FunD K "__init__" "Pile.__init__" ZBD f fd dv) (T : Bt K mg C_Join C_Pile C_Asker C_AskedRule)
    (t_Asker_many : Mt P w K mg base CX0 C_Asker "many" 1 ["self"] (ZDT C_Asker))
    : FnOk P w K mg base CX0 2 f fd ["self", "asker", "least", "part"] (ZCY C_Asker C_Pile) := by
  refine F.ok sc_Pile_init (fun vs H Q E h => ?_) (fun cdv A outer s H vs Q E hr h => ?_)
  . obtain ⟨x, dx, a, ls, s, e, pz, rfl, hx, hpv, q⟩ := h
    rfl
  obtain ⟨x, dx, a, ls, s, e, pz, rfl, hx, hpv, q⟩ := h
  refine ⟨_, (ZAB (ZA8 (pv 0) (pv 1) rfl)
   (ZAB (ZA8 (pv 0) (pv 2) rfl)
   (ZAB (ZA8 (pv 0) (ZBO (ZAU ZDu (pv 3) ZCs (ZAY _)) ZAF (ZAa ZAj (pv 3) ZAF (fun _ _ => rfl))) rfl)
    (ZAT
   (ZAB (ZA8 (pv 0) (ZBO (ZAU ZDu (pv 3) ZCs (ZAY _)) (ZCB t_Asker_many (hr.mono (by decide)) ZAV (pv 1)) (ZAa ZAj (pv 3) ZAF (fun _ _ => rfl))) rfl)
    (ZAT
   (ZAB (ZA8 (pv 0) (ZAP (pv 0) rfl) rfl)
   (ZAB (ZA8 (pv 0) (ZBJ ZAE) rfl)
   (ZAB (ZA8 (pv 0) (ZBJ ZAE) rfl)
   (ZAJ (ZA8 (pv 0) (ZBJ ZAE) rfl))))))))))), ?_⟩
  walk_at "rd"
  refine setX hx T.cl_Pile T.n_Pile_asker (by decide) fun H2 x2 k2 => ?_
  walk_at "rd"
  refine setX x2 T.cl_Pile T.n_Pile_least ZES fun H3 x3 k3 => ?_
  walk_at "rd"
  have u3 : ∀ b o, b ≠ x -> H b = some o -> H3 b = some o := fun b o n h => by rw [k3 b n, k2 b n]; exact h
  apply ZD1 (fun H4 : Hp => H4 x = some (.ins C_Pile dx (putF "start" (.int s) (putF "least" (.int ls) (putF "asker" (.ref a) [])))) /\ ∀ b, b ≠ x -> H4 b = H3 b)
  . intro tailp
    rcases hpv with ⟨pt, hz, hpt⟩ | ⟨hz, hs0, nax, rl, ru, m, n, tl, us, ha, hrl, hul⟩
    . rw [if_neg (by rw [hz]; simp)]
      have hix : ∀ {Q' : VK}, Q' (.int s) H3 -> rIxT K pz (.int 0) H3 Q' := fun h => by rw [hz]; exact ZAk (SqT.of (u3 _ _ (fun z => by rw [z, hx] at hpt; cases hpt) hpt)) (ZAW (by decide) rfl) h
      exact hix (setX x3 T.cl_Pile T.n_Pile_start ZER fun H4 x4 k4 => tailp H4 ⟨x4, k4⟩)
    . rw [if_pos hz]
      exact setX x3 T.cl_Pile T.n_Pile_start ZER fun H4 x4 k4 => tailp H4 ⟨by rw [hs0]; exact x4, k4⟩
  rintro H4 ⟨x4, k4⟩
  refine ZAd ?_
  walk_at "rd"
  have u4 : ∀ b o, b ≠ x -> H b = some o -> H4 b = some o := fun b o n h => by rw [k4 b n]; exact u3 b o n h
  apply ZD1 (fun H5 : Hp => H5 x = some (.ins C_Pile dx (putF "end" (.int e) (putF "start" (.int s) (putF "least" (.int ls) (putF "asker" (.ref a) []))))) /\ ∀ b, b ≠ x -> H5 b = H4 b)
  . intro tailp
    rcases hpv with ⟨pt, hz, hpt⟩ | ⟨hz, hs0, nax, rl, ru, m, n, tl, us, ha, hrl, hul⟩
    . rw [if_neg (by rw [hz]; simp)]
      have hix : ∀ {Q' : VK}, Q' (.int e) H4 -> rIxT K pz (.int 1) H4 Q' := fun h => by rw [hz]; exact ZAk (SqT.of (u4 _ _ (fun z => by rw [z, hx] at hpt; cases hpt) hpt)) (ZAW (by decide) rfl) h
      exact hix (setX x4 T.cl_Pile T.n_Pile_end ZEQ fun H5 x5 k5 => tailp H5 ⟨x5, k5⟩)
    . rw [if_pos hz]
      have nrl : rl ≠ x := fun z => by rw [z, hx] at hrl; cases hrl
      have ha4 : Ins H4 a C_Asker (fA rl ru m n tl) := let ⟨d1, f1, e1, e2, e3⟩ := ha.ex; ⟨d1, f1, u4 _ _ nax e1, e2, e3⟩
      refine ha4.meth (by walk_at "lk") ⟨a, rl, ru, tl, m, n, us, rfl, ha4, u4 _ _ nrl hrl, ?_⟩
      rw [hul]
      exact setX x4 T.cl_Pile T.n_Pile_end ZEQ fun H5 x5 k5 => tailp H5 ⟨x5, k5⟩
  clear hpv
  rintro H5 ⟨x5, k5⟩
  have u5 : ∀ b o, b ≠ x -> H b = some o -> H5 b = some o := fun b o n h => by rw [k5 b n]; exact u4 b o n h
  clear u3 u4 k2 k3 k4 k5 x2 x3 x4
  refine ZAd ?_
  walk_at "rd"
  refine getF_of x5 T.cl_Pile T.n_Pile_start (by simp only [ZAc, lkc]; walk_at "lk") ?_
  refine setX x5 T.cl_Pile T.n_Pile_reached ZEj fun H6 x6 k6 => ?_
  walk_at "rd"
  refine ⟨yAG _, fun fs hfs => ?_⟩
  obtain ⟨H7, e7, s7, h7⟩ := newH hfs (.lst [])
  rw [e7]; clear e7
  refine setX (s7 _ _ x6) T.cl_Pile T.n_Pile_firsts putL5 fun H8 x8 k8 => ?_
  walk_at "rd"
  refine ⟨yAG _, fun od hod => ?_⟩
  obtain ⟨H9, e9, s9, h9⟩ := newH hod (.lst [])
  rw [e9]; clear e9
  refine setX (s9 _ _ x8) T.cl_Pile T.n_Pile_orders putL6 fun HA xA kA => ?_
  walk_at "rd"
  refine ⟨yAG _, fun gr hgr => ?_⟩
  obtain ⟨HB, eB, sB, hB⟩ := newH hgr (.lst [])
  rw [eB]; clear eB
  refine setX (sB _ _ xA) T.cl_Pile T.n_Pile_grades putL7 fun HC xC kC => ?_
  have nfs : fs ≠ x := Ne.symm (ZAD x6 hfs)
  have nod : od ≠ x := Ne.symm (ZAD x8 hod)
  have ngr : gr ≠ x := Ne.symm (ZAD xA hgr)
  have h8 : H8 fs = some (.lst []) := by rw [k8 fs nfs]; exact h7
  have hAf : HA fs = some (.lst []) := by rw [kA fs nfs]; exact s9 _ _ h8
  have hAo : HA od = some (.lst []) := by rw [kA od nod]; exact h9
  have f6 : ∀ b, b ≠ x -> H6 b = none -> H b = none := fun b n e => by
    cases eb : H b with
    | none => rfl
    | some o => have := u5 b o n eb; rw [k6 b n, this] at e; cases e
  have f8 : ∀ b, b ≠ x -> H8 b = none -> H b = none := fun b n e => f6 b n (s7.free (by rw [<- k8 b n]; exact e))
  have fA' : ∀ b, b ≠ x -> HA b = none -> H b = none := fun b n e => f8 b n (s9.free (by rw [<- kA b n]; exact e))
  refine q fs od gr HC (fun b o n h => ?_) (f6 fs nfs hfs) (f8 od nod hod) (fA' gr ngr hgr) ⟨(Ins.of xC (yAK putL8 (by decide))).congr fun f => by simp only [ZAc, lkc], by rw [kC fs nfs]; exact sB _ _ hAf, by rw [kC od nod]; exact sB _ _ hAo, by rw [kC gr ngr]; exact hB, trivial, ⟨ZAD h8 hod, ZAD hAf hgr, ZAD hAo hgr⟩, fun b hb => by cases hb⟩
  rw [kC b n]
  refine sB _ _ ?_
  rw [kA b n]
  refine s9 _ _ ?_
  rw [k8 b n]
  refine s7 _ _ ?_
  rw [k6 b n]
  exact u5 b o n h
theorem ok_Pile_beyond_of {f : Addr} {fd : FuncData} (F : Fun K "beyond_of" "Pile.beyond_of" ZAo f fd) (T : Bt K mg C_Join C_Pile C_Asker C_AskedRule)
    : FnOk P w K mg base CX0 1 f fd ["self", "number"] (ZCa C_Pile) := by
  refine F.ok sc_Pile_beyond_of (fun vs H Q E h => ?_) (fun cdv A outer s H vs Q E hr h => ?_)
  . obtain ⟨x, a, fs, od, gr, ls, s, e, r, oa, A, p, B, gs, rfl, pa, q⟩ := h
    rfl
  obtain ⟨x, a, fs, od, gr, ls, s, e, r, oa, A, p, B, gs, rfl, pa, q⟩ := h
  refine ⟨_, (ZAJ (ZAZ (ZBO (ZAU ZC2 (ZAO ZAi (pv 1) ZAF) (ZAR ZAM rfl T.b_len PySem.boot_len (ZAA (ZAP (pv 0) rfl) ZAE)) (ZAY _)) (ZAa ZAg (ZAP (pv 0) rfl) (ZAO ZAi (pv 1) ZAF) (fun _ _ => rfl)) (ZAP (pv 0) rfl)))), ?_⟩
  walk_at "rd"
  refine pa.hp.get T.cl_Pile T.n_Pile_firsts (by walk_at "lk") ⟨fs, _, rfl, .inl (SqL.of pa.hfs), ?_⟩
  rw [yAD, yAD, yAA, yAI]
  cases B with
  | nil =>
    rw [if_neg (by rw [yBV]; omega)]
    exact pa.hp.get T.cl_Pile T.n_Pile_reached (by walk_at "lk") q
  | cons p2 B =>
    rw [if_pos (by rw [yAI]; omega)]
    refine pa.hp.get T.cl_Pile T.n_Pile_firsts (by walk_at "lk") ?_
    rw [show (A.length : Int) + 1 = ((A.length + 1 : Nat) : Int) by omega]
    exact ZA0 (SqL.of pa.hfs) (ZC0 (by rw [yAY, ZCS]; rfl)) q
theorem ok_Pile_is_due_beneath {f : Addr} {fd : FuncData} (F : Fun K "is_due_beneath" "Pile.is_due_beneath" ZAX f fd) (T : Bt K mg C_Join C_Pile C_Asker C_AskedRule)
    : FnOk P w K mg base CX0 1 f fd ["self"] (ZEh C_Pile) := by
  refine F.ok sc_Pile_is_due_beneath (fun vs H Q E h => ?_) (fun cdv A outer s H vs Q E hr h => ?_)
  . obtain ⟨x, a, fs, od, gr, ls, s, e, r, oa, ps, gs, rfl, pa, q⟩ := h
    rfl
  obtain ⟨x, a, fs, od, gr, ls, s, e, r, oa, ps, gs, rfl, pa, q⟩ := h
  refine ⟨_, (ZAJ (ZAZ (pe_and (ZCt ZEU (ZAR ZAM rfl T.b_len PySem.boot_len (ZAA (ZAP (pv 0) rfl) ZAE)) ZAF (ZAY _)) (pe_one (ZCt ZEU (ZAa ZAg (ZAP (pv 0) rfl) (ZEk ZD4 ZAF) (fun _ _ => rfl)) (ZAa ZAg (ZAP (pv 0) rfl) (ZEk ZD4 ZAF) (fun _ _ => rfl)) (ZAY _)))))), ?_⟩
  walk_at "rd"
  refine pa.hp.get T.cl_Pile T.n_Pile_grades (by walk_at "lk") ⟨gr, _, rfl, .inl (SqL.of pa.hgr), ?_⟩
  rw [yAD]
  by_cases h2 : 2 <= gs.length
  . rw [if_pos (by omega)]
    obtain ⟨G, g1, g2, rfl⟩ := ZDC h2
    have hg := pa.hgr
    rw [show nL (G ++ [g1, g2]) = nL G ++ [.int (g1 : Nat), .int (g2 : Nat)] by unfold nL; rw [yAO]; rfl] at hg
    refine pa.hp.get T.cl_Pile T.n_Pile_grades (by walk_at "lk") (ZA0 (SqL.of hg) atI_m2 ?_)
    refine pa.hp.get T.cl_Pile T.n_Pile_grades (by walk_at "lk") ?_
    rw [show nL G ++ [V.int (g1 : Nat), V.int (g2 : Nat)] = (nL G ++ [.int (g1 : Nat)]) ++ [.int (g2 : Nat)] by rw [yAJ]; rfl] at hg
    refine ZA0 (SqL.of hg) atI_m1 ⟨_, _, rfl, rfl, ?_⟩
    rw [dueB_two] at q
    have e : decide ((g2 : Int) < g1) = decide (g2 < g1) := by rw [decide_eq_decide]; omega
    rw [<- e] at q
    exact q
  . rw [if_neg (by omega)]
    rw [dueB_few (by omega)] at q
    exact q
theorem ok_Pile_grade_on_top {f : Addr} {fd : FuncData} (F : Fun K "grade_on_top" "Pile.grade_on_top" ZAb f fd) (T : Bt K mg C_Join C_Pile C_Asker C_AskedRule)
    (f_grade : Fn P w K mg base CX0 "grade" 1 ["many", "first", "middle", "beyond"] (ZDh))
    : FnOk P w K mg base CX0 2 f fd ["self", "middle", "beyond"] (ZDf C_Pile) := by
  refine F.ok sc_Pile_grade_on_top (fun vs H Q E h => ?_) (fun cdv A outer s H vs Q E hr h => ?_)
  . obtain ⟨x, a, fs, od, gr, ls, s, e, r, oa, A, p, gs, m, b, rfl, pa, h1, h2, h3, h4, h5, q⟩ := h
    rfl
  obtain ⟨x, a, fs, od, gr, ls, s, e, r, oa, A, p, gs, m, b, rfl, pa, h1, h2, h3, h4, h5, q⟩ := h
  refine ⟨_, (ZAJ (ZAZ (ZBH f_grade (hr.mono (by decide)) rfl ZAV (ZAA (ZAO ZBB (ZAP (pv 0) rfl) (ZAP (pv 0) rfl)) (ZAA (ZAO ZBB (ZAa ZAg (ZAP (pv 0) rfl) (ZEk ZD4 ZAF) (fun _ _ => rfl)) (ZAP (pv 0) rfl)) (ZAA (ZAO ZBB (pv 1) (ZAP (pv 0) rfl)) (ZAA (ZAO ZBB (pv 2) (ZAP (pv 0) rfl)) ZAE))))))), ?_⟩
  walk_at "rd"
  have hf := pa.hfs
  rw [yAO, show nL (A.map Prod.fst ++ [p].map Prod.fst) = nL (A.map Prod.fst) ++ [.int (p.1 : Nat)] by unfold nL; rw [yAO]; rfl] at hf
  refine pa.hp.get T.cl_Pile T.n_Pile_end (by walk_at "lk") (pa.hp.get T.cl_Pile T.n_Pile_start (by walk_at "lk") ⟨_, _, rfl, rfl, ?_⟩)
  refine pa.hp.get T.cl_Pile T.n_Pile_firsts (by walk_at "lk") (ZA0 (SqL.of hf) atI_m1 (pa.hp.get T.cl_Pile T.n_Pile_start (by walk_at "lk") ⟨_, _, rfl, rfl, ?_⟩))
  refine pa.hp.get T.cl_Pile T.n_Pile_start (by walk_at "lk") ⟨_, _, rfl, rfl, pa.hp.get T.cl_Pile T.n_Pile_start (by walk_at "lk") ⟨_, _, rfl, rfl, ?_⟩⟩
  exact ⟨_, _, _, _, rfl, by omega, by omega, by omega, by omega, by omega, by omega, q⟩
theorem ok_Pile_join_two {f : Addr} {fd : FuncData} (F : Fun K "join_two" "Pile.join_two" ZAs f fd) (T : Bt K mg C_Join C_Pile C_Asker C_AskedRule)
    (f_joined : Fn P w K mg base CX0 "joined" 6 ["asker", "left", "right"] (ZCg C_Asker C_AskedRule))
    (t_Pile_beyond_of : Mt P w K mg base CX0 C_Pile "beyond_of" 1 ["self", "number"] (ZCa C_Pile))
    : FnOk P w K mg base CX0 7 f fd ["self", "lower"] (ZCq C_Asker C_AskedRule C_Pile) := by
  refine F.ok sc_Pile_join_two (fun vs H Q E h => ?_) (fun cdv A outer s H vs Q E hr h => ?_)
  . obtain ⟨ks, xs, a, rl, ru, tl, g, lg, x, fs, od, gr, pr, ls, s, e, r, oa, A, v1, v2, o1, o2, B, gs, rfl, st, pa, px, ch, hgl, hrk, hk, hpr, q⟩ := h
    rfl
  obtain ⟨ks, xs, a, rl, ru, tl, g, lg, x, fs, od, gr, pr, ls, s, e, r, oa, A, v1, v2, o1, o2, B, gs, rfl, st, pa, px, ch, hgl, hrk, hk, hpr, q⟩ := h
  refine ⟨_, (ZAB (ZAK (i := 2) sc_Pile_join_two.nd rfl (by walk_at "o") (ZBH f_joined (hr.mono (by decide)) rfl ZAV (ZAA (ZAP (pv 0) rfl) (ZAA (ZAa ZAg (ZAP (pv 0) rfl) (pv 1) (fun _ _ => rfl)) (ZAA (ZAa ZAg (ZAP (pv 0) rfl) (ZAO ZAi (pv 1) ZAF) (fun _ _ => rfl)) ZAE)))))
    (ZAT
   (ZAB (ZAK (i := 3) sc_Pile_join_two.nd rfl (by walk_at "o") (ZBu (ZAA ZEE (ZAA (ZAa ZAg (ZAP (pv 0) rfl) (pv 1) (fun _ _ => rfl)) (ZAA (ZAa ZAg (ZAP (pv 0) rfl) (ZAO ZAi (pv 1) ZAF) (fun _ _ => rfl)) (ZAA (ZBN t_Pile_beyond_of (hr.mono (by decide)) ZAV (pv 0) (ZAA (ZAO ZAi (pv 1) ZAF) ZAE)) ZAE))))))
    (ZAT
   (ZAB (ps_asg (pv 2) (pg_sub (ZAP (pv 0) rfl) (pv 1) set_list))
   (ZAB (ZAl (ZCP PySem.F.plainAttrs_list PySem.F.slot_list_pop PySem.F.type_list_pop ZCk (ZAP (pv 0) rfl) (ZAA (ZAO ZAi (pv 1) ZAF) ZAE)))
   (ZAB (ZAl (ZCP PySem.F.plainAttrs_list PySem.F.slot_list_pop PySem.F.type_list_pop ZCk (ZAP (pv 0) rfl) (ZAA (ZAO ZAi (pv 1) ZAF) ZAE)))
   (ZAB (ZAl (ZCP PySem.F.plainAttrs_list PySem.F.slot_list_pop PySem.F.type_list_pop ZCk (ZAP (pv 0) rfl) (ZAA (pv 1) ZAE)))
   (ZAJ (ZAZ (pv 3))))))))))), ?_⟩
  walk_at "rd"
  obtain ⟨OA, b1, b2, OB, rfl, hoa, at1, hb1, hb2, at2⟩ := pa.oat.two
  obtain ⟨v3, c1, c2, c3, c4, c5, c6, c7⟩ := ch.two
  have l1 := c4.len
  have l2 := c5.len
  have l6 := c6.le
  have hlr : (OA.map V.ref).length <= 63 := by rw [yAD, hoa]; have := c1.le; omega
  have m1 : b1 ∈ OA ++ b1 :: b2 :: OB := yAX _ yAF
  have m2 : b2 ∈ OA ++ b1 :: b2 :: OB := yAX _ (yAC _ yAF)
  refine pa.hp.get T.cl_Pile T.n_Pile_asker (by walk_at "lk") (pa.hp.get T.cl_Pile T.n_Pile_orders (by walk_at "lk") (ZA0 (SqL.of pa.hod) (atI_refs (b := b1) (by rw [<- hoa]; exact ZDM ..)) ?_))
  refine pa.hp.get T.cl_Pile T.n_Pile_orders (by walk_at "lk") ?_
  rw [show (A.length : Int) + 1 = ((A.length + 1 : Nat) : Int) by omega]
  refine ZA0 (SqL.of pa.hod) (atI_refs (b := b2) (by rw [<- hoa]; exact ZCS ..)) ?_
  refine ⟨ks, xs, a, rl, ru, tl, g, lg, b1, b2, pr, o1, o2, rfl, st, hb1, hb2, by omega, by omega, fun u hu => by have := (c4.mem u).mp hu; omega, fun u hu => by have := (c5.mem u).mp hu; omega, c4.srt, c5.srt, fun u hu v hv => by have := (c4.mem u).mp hu; have := (c5.mem v).mp hv; omega, by omega, fun l H1 o L fr1 hl0 hl1 hJ st1 => ?_⟩
  have pa1 := pa.fr fr1 px.n1 px.n2
  refine ZAd ?_
  walk_at "rd"
  refine pa1.hp.get T.cl_Pile T.n_Pile_firsts (by walk_at "lk") (ZA0 (SqL.of pa1.hfs) (ZC0 (o := v1) (by rw [yAY, ZDM]; rfl)) ?_)
  refine pa1.hp.get T.cl_Pile T.n_Pile_firsts (by walk_at "lk") ?_
  rw [show (A.length : Int) + 1 = ((A.length + 1 : Nat) : Int) by omega]
  refine ZA0 (SqL.of pa1.hfs) (ZC0 (o := v2) (by rw [yAY, ZCS]; rfl)) ?_
  refine pa1.hp.meth (by walk_at "lk") ⟨x, a, fs, od, gr, ls, s, e, r, _, A ++ [(v1, o1)], (v2, o2), B, gs, by rw [yAA]; rfl, by rw [yAJ]; exact pa1, ?_⟩
  refine ⟨ZAe (by decide), fun t ht => ?_⟩
  obtain ⟨H2, e2, s2, h2⟩ := newH ht (.tup [.str "join", .int (v1 : Nat), .int (v2 : Nat), .int (bB B r : Nat)])
  rw [e2]; clear e2
  have pa2 := pa1.mono s2
  have st2 := st1.mono s2
  refine ZAd ?_
  walk_at "rd"
  have nxl := pa2.xl
  have nx1 : x ≠ fs := fun z => nxl (by rw [z]; exact yAF)
  have nx2 : x ≠ od := fun z => nxl (by rw [z]; exact yAC _ yAF)
  have nx3 : x ≠ gr := fun z => nxl (by rw [z]; exact yAC _ (yAC _ yAF))
  obtain ⟨ne1, ne2, ne3⟩ := pa.ne
  refine pa2.hp.get T.cl_Pile T.n_Pile_orders (by walk_at "lk") ⟨od, _, _, _, rfl, rfl, pa2.hod, ixN_of (by omega) (by rw [yAD, yAA, yAI]; omega), ?_⟩
  rw [Int.toNat_natCast, yAO, yAZ, yAZ, show A.length = (OA.map V.ref).length by rw [yAD, hoa], set_mid]
  have hp3 : Ins (upd H2 od (.lst (OA.map V.ref ++ .ref l :: .ref b2 :: OB.map V.ref))) x C_Pile (fPl a ls s e r fs od gr) := pa2.hp.keep (ZAH nx2)
  refine hp3.get T.cl_Pile T.n_Pile_orders (by walk_at "lk") ?_
  walk_at "rd"
  refine ⟨.inl ⟨rfl, _, SqL.of ZAG⟩, od, _, _, (OA.map V.ref).length + 1, _, rfl, rfl, ZAG, by omega, by omega, ?_, ZCS .., ?_⟩
  . rw [show ((OA.map V.ref).length : Int) + 1 = (((OA.map V.ref).length + 1 : Nat) : Int) by omega]
    exact PySem.StrLaws.seqIndex_nonneg (by omega) (by rw [yAA, yAI, yAI]; omega)
  rw [er_mid2, ZDB]
  have hp4 : Ins (upd H2 od (.lst (OA.map V.ref ++ .ref l :: OB.map V.ref))) x C_Pile (fPl a ls s e r fs od gr) := pa2.hp.keep (ZAH nx2)
  have hf4 : upd H2 od (.lst (OA.map V.ref ++ .ref l :: OB.map V.ref)) fs = some (.lst (nL (A.map Prod.fst) ++ .int (v1 : Nat) :: .int (v2 : Nat) :: nL (B.map Prod.fst))) := by
    rw [ZAH ne1, pa2.hfs, yAO]; unfold nL; rw [yAO]; rfl
  have la : (nL (A.map Prod.fst)).length = (OA.map V.ref).length := by rw [yAD, yAD, yAD, hoa]
  refine hp4.get T.cl_Pile T.n_Pile_firsts (by walk_at "lk") ?_
  walk_at "rd"
  refine ⟨.inl ⟨rfl, _, SqL.of hf4⟩, fs, _, _, (nL (A.map Prod.fst)).length + 1, _, rfl, rfl, hf4, by omega, by omega, ?_, ZCS .., ?_⟩
  . rw [<- la, show ((nL (A.map Prod.fst)).length : Int) + 1 = (((nL (A.map Prod.fst)).length + 1 : Nat) : Int) by omega]
    exact PySem.StrLaws.seqIndex_nonneg (by omega) (by rw [yAA, yAI, yAI]; omega)
  rw [er_mid2]
  have hp5 : Ins (upd (upd H2 od (.lst (OA.map V.ref ++ .ref l :: OB.map V.ref))) fs (.lst (nL (A.map Prod.fst) ++ .int (v1 : Nat) :: nL (B.map Prod.fst)))) x C_Pile (fPl a ls s e r fs od gr) := hp4.keep (ZAH nx1)
  have hg5 : upd (upd H2 od (.lst (OA.map V.ref ++ .ref l :: OB.map V.ref))) fs (.lst (nL (A.map Prod.fst) ++ .int (v1 : Nat) :: nL (B.map Prod.fst))) gr = some (.lst (nL gs)) := by rw [ZAH (Ne.symm ne2), ZAH (Ne.symm ne3)]; exact pa2.hgr
  refine hp5.get T.cl_Pile T.n_Pile_grades (by walk_at "lk") ?_
  walk_at "rd"
  refine ⟨.inl ⟨rfl, _, SqL.of hg5⟩, gr, _, _, A.length, .int (gs[A.length] : Nat), rfl, rfl, hg5, by omega, by omega, ?_, by rw [yAY, yAQ hgl]; rfl, ?_⟩
  . rw [show (OA.map V.ref).length = A.length by rw [yAD, hoa]]
    exact PySem.StrLaws.seqIndex_nonneg (by omega) (by rw [yAD]; omega)
  rw [er_map]
  have F3 : Fr [fs, od, gr] H2 (upd (upd (upd H2 od (.lst (OA.map V.ref ++ .ref l :: OB.map V.ref))) fs (.lst (nL (A.map Prod.fst) ++ .int (v1 : Nat) :: nL (B.map Prod.fst)))) gr (.lst (nL (gs.eraseIdx A.length)))) := ((Fr.upd (yAC _ yAF)).trans (Fr.upd yAF)).trans (Fr.upd (yAC _ (yAC _ yAF)))
  have hp6 : Ins (upd (upd (upd H2 od (.lst (OA.map V.ref ++ .ref l :: OB.map V.ref))) fs (.lst (nL (A.map Prod.fst) ++ .int (v1 : Nat) :: nL (B.map Prod.fst)))) gr (.lst (nL (gs.eraseIdx A.length)))) x C_Pile (fPl a ls s e r fs od gr) := hp5.keep (ZAH nx3)
  have hf6 : (upd (upd (upd H2 od (.lst (OA.map V.ref ++ .ref l :: OB.map V.ref))) fs (.lst (nL (A.map Prod.fst) ++ .int (v1 : Nat) :: nL (B.map Prod.fst)))) gr (.lst (nL (gs.eraseIdx A.length)))) fs = some (.lst (nL (A.map Prod.fst) ++ .int (v1 : Nat) :: nL (B.map Prod.fst))) := by rw [ZAH ne2, ZAG]
  have ho6 : (upd (upd (upd H2 od (.lst (OA.map V.ref ++ .ref l :: OB.map V.ref))) fs (.lst (nL (A.map Prod.fst) ++ .int (v1 : Nat) :: nL (B.map Prod.fst)))) gr (.lst (nL (gs.eraseIdx A.length)))) od = some (.lst (OA.map V.ref ++ .ref l :: OB.map V.ref)) := by rw [ZAH ne3, ZAH (Ne.symm ne1), ZAG]
  have hg6 : (upd (upd (upd H2 od (.lst (OA.map V.ref ++ .ref l :: OB.map V.ref))) fs (.lst (nL (A.map Prod.fst) ++ .int (v1 : Nat) :: nL (B.map Prod.fst)))) gr (.lst (nL (gs.eraseIdx A.length)))) gr = some (.lst (nL (gs.eraseIdx A.length))) := ZAG
  generalize (upd (upd (upd H2 od (.lst (OA.map V.ref ++ .ref l :: OB.map V.ref))) fs (.lst (nL (A.map Prod.fst) ++ .int (v1 : Nat) :: nL (B.map Prod.fst)))) gr (.lst (nL (gs.eraseIdx A.length)))) = H3 at F3 hp6 hf6 ho6 hg6 ⊢
  have nl3 : l ∉ [fs, od, gr] := fun z => by obtain ⟨y, hy⟩ := pa.lsts l z; rw [hy] at hl0; cases hl0
  have nt3 : t ∉ [fs, od, gr] := fun z => by obtain ⟨y, hy⟩ := pa1.lsts t z; rw [hy] at ht; cases ht
  have nb' : ∀ b ∈ OA ++ l :: OB, b ∉ [fs, od, gr] /\ b ∉ [a, lg, tl] /\ (b ∈ OA ++ b1 :: b2 :: OB ∨ H b = none) := fun b hb => by
    rcases yBC.mp hb with z | z
    . have m := yBO (b1 :: b2 :: OB) z
      exact ⟨pa.nb b m, px.n2 b m, .inl m⟩
    rcases yAE.mp z with z | z
    . rw [z]; exact ⟨nl3, st.newS hl0, .inr hl0⟩
    . have m : b ∈ OA ++ b1 :: b2 :: OB := yAX _ (yAC _ (yAC _ z))
      exact ⟨pa.nb b m, px.n2 b m, .inl m⟩
  have kp : ∀ b ∈ OA ++ b1 :: b2 :: OB, ∀ o, H b = some o -> H3 b = some o := fun b hb o h => F3 _ _ (pa.nb b hb) (s2 _ _ (fr1 _ _ (px.n2 b hb) h))
  refine q t H3 o L (OA ++ l :: OB) hJ ⟨fun b o n h => ?_, fun b hb => (nb' b hb).2.2, F3 _ _ nt3 h2, ⟨hp6, ?_, ?_, hg6, ?_, pa.ne, fun b hb => (nb' b hb).1⟩, ⟨px.n1, fun b hb => (nb' b hb).2.1, px.n3, px.nr⟩, ?_⟩
  . refine F3 _ _ (fun z => n (yAC _ ?_)) (s2 _ _ (fr1 _ _ (fun z => n (yAC _ (yAC _ (yAC _ (yAC _ z))))) h))
    exact yBO [a, lg, tl] z
  . rw [hf6, yAO]; unfold nL; rw [yAO]; rfl
  . rw [ho6, yAO]; rfl
  . exact (at1.keep fun b hb => kp b (yBO _ hb)).app ⟨F3 _ _ nl3 (s2 _ _ hl1), at2.keep fun b hb => kp b (yAX _ (yAC _ (yAC _ hb)))⟩
  . refine st2.apart F3 pa2.lsts ⟨px.n3, ?_, ?_⟩
    . intro z
      obtain ⟨w1, w2, w3, w4⟩ := px.n1
      rcases yAE.mp z with z | z
      . exact w2 (by rw [<- z]; exact yAC _ yAF)
      rcases yAE.mp z with z | z
      . exact w3 (by rw [<- z]; exact yAC _ yAF)
      . exact w4 (by rw [<- yAR.mp z]; exact yAC _ yAF)
    . intro z
      obtain ⟨w1, w2, w3, w4⟩ := px.n1
      rcases yAE.mp z with z | z
      . exact w2 (by rw [<- z]; exact yAC _ (yAC _ yAF))
      rcases yAE.mp z with z | z
      . exact w3 (by rw [<- z]; exact yAC _ (yAC _ yAF))
      . exact w4 (by rw [<- yAR.mp z]; exact yAC _ (yAC _ yAF))
theorem ok_Pile_lay {f : Addr} {fd : FuncData} (F : Fun K "lay" "Pile.lay" ZBQ f fd) (T : Bt K mg C_Join C_Pile C_Asker C_AskedRule)
    (f_filled : Fn P w K mg base CX0 "filled" 5 ["asker", "first", "least", "end"] (ZCh C_Asker C_AskedRule))
    (t_Pile_grade_on_top : Mt P w K mg base CX0 C_Pile "grade_on_top" 2 ["self", "middle", "beyond"] (ZDf C_Pile))
    : FnOk P w K mg base CX0 6 f fd ["self"] (ZEg C_Asker C_AskedRule C_Pile) := by
  refine F.ok sc_Pile_lay (fun vs H Q E h => ?_) (fun cdv A outer s H vs Q E hr h => ?_)
  . obtain ⟨ks, xs, a, rl, ru, tl, g, lg, x, fs, od, gr, pr, ls, s, e, r, oa, ps, gs, rfl, st, pa, px, pi, hdue, hre, hek, hk, hls, hpr, q⟩ := h
    rfl
  obtain ⟨ks, xs, a, rl, ru, tl, g, lg, x, fs, od, gr, pr, ls, s, e, r, oa, ps, gs, rfl, st, pa, px, pi, hdue, hre, hek, hk, hls, hpr, q⟩ := h
  refine ⟨_, (ZAB (ZAK (i := 1) sc_Pile_lay.nd rfl (by walk_at "o") (ZAP (pv 0) rfl))
   (ZAB (ZAK (i := 2) sc_Pile_lay.nd rfl (by walk_at "o") (ZBH f_filled (hr.mono (by decide)) rfl ZAV (ZAA (ZAP (pv 0) rfl) (ZAA (pv 1) (ZAA (ZAP (pv 0) rfl) (ZAA (ZAP (pv 0) rfl) ZAE))))))
    (ZAT
   (ZAB (ZAK (i := 3) sc_Pile_lay.nd rfl (by walk_at "o") (ZAO ZAi (pv 1) (ZAR ZAM rfl T.b_len PySem.boot_len (ZAA (ZAa ZAj (pv 2) ZAF (fun _ _ => rfl)) ZAE))))
    (ZAT
   (ZAB (ZBT (pt_lst (ZAP (pv 0) rfl))
   (ZAJ (ZAl (ZCP PySem.F.plainAttrs_list PySem.F.slot_list_append PySem.F.type_list_append ZBj (ZAP (pv 0) rfl) (ZAA (ZBN t_Pile_grade_on_top (hr.mono (by decide)) ZAV (pv 0) (ZAA (pv 1) (ZAA (pv 3) ZAE))) ZAE)))) ZAu)
    (ZAT
   (ZAB (ZAl (ZCP PySem.F.plainAttrs_list PySem.F.slot_list_append PySem.F.type_list_append ZBj (ZAP (pv 0) rfl) (ZAA (pv 1) ZAE)))
   (ZAB (ZAl (ZCP PySem.F.plainAttrs_list PySem.F.slot_list_append PySem.F.type_list_append ZBj (ZAP (pv 0) rfl) (ZAA (ZAa ZAj (pv 2) ZAF (fun _ _ => rfl)) ZAE)))
   (ZAB (ZA8 (pv 0) (pv 3) rfl)
   (ZAJ (ZAZ (ZBu (ZAA ZEE (ZAA (pv 1) (ZAA (ZAa ZAj (pv 2) ZAF (fun _ _ => rfl)) (ZAA (pv 3) ZAE))))))))))))))))), ?_⟩
  walk_at "rd"
  have hcl := pi.ch.le
  refine pa.hp.get T.cl_Pile T.n_Pile_reached (by walk_at "lk") (pa.hp.get T.cl_Pile T.n_Pile_asker (by walk_at "lk") (pa.hp.get T.cl_Pile T.n_Pile_least (by walk_at "lk") (pa.hp.get T.cl_Pile T.n_Pile_end (by walk_at "lk") ?_)))
  refine ⟨ks, xs, a, rl, ru, tl, g, lg, pr, r, ls, e, .int e, rfl, st, by omega, .inr rfl, hre, hek, by omega, hls, fun H1 t ol j f os l fr1 hol0 nol ht hol hb hput st1 => ?_⟩
  have pa1 := pa.fr fr1 px.n1 px.n2
  have hj := hb.two
  obtain ⟨o1, _, _⟩ := hput.all (first := r) (asks r (min (j + 1) e)) (by omega) hb.ord (fun i x y hx hy => (hb.adj i x y hx hy).2)
  obtain ⟨v3, ev3⟩ : ∃ v3, v3 = max j (min (r + ls) e) := ⟨_, rfl⟩
  rw [<- ev3] at o1
  have hv3 : r < v3 /\ v3 <= e := by omega
  have hol1 := o1.len
  refine ZAd ?_
  walk_at "rd"
  refine ZAk (SqT.of ht) (ZAW (by decide) rfl) ⟨ol, _, rfl, .inl (SqL.of hol), ?_⟩
  rw [yAD]
  walk_at "rd"
  rw [show (r : Int) + (os.length : Int) = (v3 : Nat) by omega]
  refine ZAd ?_
  walk_at "rd"
  have nt3 : t ∉ [fs, od, gr] := fun z => by obtain ⟨y, hy⟩ := pa1.lsts t z; rw [hy] at ht; cases ht
  have nol3 : ol ∉ [fs, od, gr] := fun z => by obtain ⟨y, hy⟩ := pa.lsts ol z; rw [hy] at hol0; cases hol0
  apply ZD1 (fun X : Hp => ∃ gs', ((ps = [] /\ gs' = gs) ∨ ∃ A p g, ps = A ++ [p] /\ gs' = gs ++ [g] /\ Gr.IsG ((e : Int) - s) (((p.1 : Int) - s) + ((r : Int) - s)) (((r : Int) - s) + ((v3 : Int) - s)) g /\ g <= 240) /\ PileAt C_Pile X x a fs od gr ls s e r oa ps gs' /\ Fr [fs, od, gr] H1 X)
  . intro tailp
    refine pa1.hp.get T.cl_Pile T.n_Pile_firsts (by walk_at "lk") ⟨fs, _, rfl, SqL.of pa1.hfs, ?_⟩
    by_cases hps : ps ≠ []
    . obtain ⟨A, p, rfl⟩ : ∃ A p, ps = A ++ [p] := ⟨ps.dropLast, ps.getLast hps, (List.dropLast_concat_getLast _).symm⟩
      rw [if_pos (by simp)]
      obtain ⟨m, c1, c2, m2, c3, c4, c5⟩ := Ch.app.mp pi.ch
      have c5 : m2 = r := c5
      have c1' := c1.le
      have hgl := pi.gl
      rw [yAA, yAW] at hgl hcl
      refine pa1.hp.get T.cl_Pile T.n_Pile_grades (by walk_at "lk") ?_
      walk_at "rd"
      refine ⟨.inl ⟨rfl, _, SqL.of pa1.hgr⟩, pa1.hp.meth (by walk_at "lk") ⟨x, a, fs, od, gr, ls, s, e, r, oa, A, p, gs, r, v3, rfl, pa1, by omega, by omega, by omega, by omega, by omega, fun gg hg1 hg2 => ?_⟩⟩
      refine ⟨gr, _, _, rfl, rfl, pa1.hgr, ZBS (by rw [yAD]; omega), ?_⟩
      have F : Fr [fs, od, gr] H1 (upd H1 gr (.lst (nL gs ++ [.int (gg : Nat)]))) := Fr.upd (yAC _ (yAC _ yAF))
      have P : PileAt C_Pile (upd H1 gr (.lst (nL gs ++ [.int (gg : Nat)]))) x a fs od gr ls s e r oa (A ++ [p]) (gs ++ [gg]) := ⟨ZCx F pa1.xl pa1.hp, by rw [ZAH pa1.ne.2.1]; exact pa1.hfs, by rw [ZAH pa1.ne.2.2]; exact pa1.hod, by rw [ZAG]; unfold nL; rw [yAO]; rfl, pa1.oat.keep fun b hb o h => F _ _ (pa1.nb b hb) h, pa1.ne, pa1.nb⟩
      generalize upd H1 gr (.lst (nL gs ++ [.int (gg : Nat)])) = X at F P ⊢
      exact tailp X ⟨gs ++ [gg], .inr ⟨A, p, gg, rfl, rfl, hg1, hg2⟩, P, F⟩
    . have hps : ps = [] := Classical.byContradiction hps
      rw [if_neg (by rw [hps]; simp)]
      exact tailp H1 ⟨gs, .inl ⟨hps, rfl⟩, pa1, .refl⟩
  rintro X ⟨gs', hgr', paX, FX⟩
  have htX := FX _ _ nt3 ht
  have holX := FX _ _ nol3 hol
  have hoal := paX.oat.len
  have nxl := paX.xl
  have nx1 : x ≠ fs := fun z => nxl (by rw [z]; exact yAF)
  have nx2 : x ≠ od := fun z => nxl (by rw [z]; exact yAC _ yAF)
  have nx3 : x ≠ gr := fun z => nxl (by rw [z]; exact yAC _ (yAC _ yAF))
  obtain ⟨ne1, ne2, ne3⟩ := paX.ne
  refine ZAd ?_
  walk_at "rd"
  refine paX.hp.get T.cl_Pile T.n_Pile_firsts (by walk_at "lk") ?_
  walk_at "rd"
  refine ⟨.inl ⟨rfl, _, SqL.of paX.hfs⟩, fs, _, _, rfl, rfl, paX.hfs, ZBS (by rw [yAD, yAD]; omega), ?_⟩
  obtain ⟨us, eus⟩ : ∃ us, nL (ps.map Prod.fst) ++ [.int (r : Nat)] = us := ⟨_, rfl⟩
  rw [eus]
  have hp3 : Ins (upd X fs (.lst us)) x C_Pile (fPl a ls s e r fs od gr) := paX.hp.keep (ZAH nx1)
  have hod3 : upd X fs (.lst us) od = some (.lst (oa.map V.ref)) := by rw [ZAH (Ne.symm ne1)]; exact paX.hod
  refine hp3.get T.cl_Pile T.n_Pile_orders (by walk_at "lk") ?_
  walk_at "rd"
  refine ⟨.inl ⟨rfl, _, SqL.of hod3⟩, ZAk (SqT.of (by rw [ZAH (fun z => nt3 (by rw [z]; exact yAF))]; exact htX)) (ZAW (by decide) rfl) ⟨od, _, _, rfl, rfl, hod3, ZBS (by rw [yAD]; omega), ?_⟩⟩
  have F2 : Fr [fs, od, gr] X (upd (upd X fs (.lst us)) od (.lst (oa.map V.ref ++ [.ref ol]))) := (Fr.upd yAF).trans (Fr.upd (yAC _ yAF))
  have hp4 : Ins (upd (upd X fs (.lst us)) od (.lst (oa.map V.ref ++ [.ref ol]))) x C_Pile (fPl a ls s e r fs od gr) := hp3.keep (ZAH nx2)
  have hf4 : (upd (upd X fs (.lst us)) od (.lst (oa.map V.ref ++ [.ref ol]))) fs = some (.lst us) := by rw [ZAH ne1, ZAG]
  have ho4 : (upd (upd X fs (.lst us)) od (.lst (oa.map V.ref ++ [.ref ol]))) od = some (.lst (oa.map V.ref ++ [.ref ol])) := ZAG
  have hg4 : (upd (upd X fs (.lst us)) od (.lst (oa.map V.ref ++ [.ref ol]))) gr = some (.lst (nL gs')) := by rw [ZAH (Ne.symm ne3), ZAH (Ne.symm ne2)]; exact paX.hgr
  generalize (upd (upd X fs (.lst us)) od (.lst (oa.map V.ref ++ [.ref ol]))) = Y at F2 hp4 hf4 ho4 hg4 ⊢
  refine hp4.set T.cl_Pile T.n_Pile_reached (fun Z hpZ kZ => ?_) ⟨_, by walk_at "lk"⟩
  have ltop : ∀ {b : Addr} {us : List V}, Y b = some (.lst us) -> Z b = some (.lst us) := fun {b us} h => by rw [kZ b (hp4.ne h fun _ _ _ z => by cases z)]; exact h
  have htY := F2 _ _ nt3 htX
  have htZ : Z t = some (.tup [.int (j : Nat), .ref ol]) := by rw [kZ t (hp4.ne htY fun _ _ _ z => by cases z)]; exact htY
  walk_at "rd"
  refine ZAk (SqT.of htZ) (ZAW (by decide) rfl) ⟨ZAe (by decide), fun t2 ht2 => ?_⟩
  obtain ⟨W, eW, sW, hW⟩ := newH ht2 (.tup [.str "lay", .int (r : Nat), .int (j : Nat), .int (v3 : Nat)])
  rw [eW]; clear eW
  have FY : Fr [fs, od, gr] H1 Y := FX.trans F2
  have nb' : ∀ b ∈ oa ++ [ol], b ∉ [fs, od, gr] /\ b ∉ [a, lg, tl] /\ (b ∈ oa ∨ H b = none) := fun b hb => by
    rcases yBC.mp hb with z | z
    . exact ⟨pa.nb b z, px.n2 b z, .inl z⟩
    . rw [yAR.mp z]; exact ⟨nol3, nol, .inr hol0⟩
  have oatW : OrdAt W (oa ++ [ol]) (ps ++ [(r, os)]) := by
    refine OrdAt.app ?_ ⟨sW _ _ (ltop (F2 _ _ nol3 holX)), trivial⟩
    refine paX.oat.keep fun b hb o h => sW _ _ ?_
    obtain ⟨i, hi⟩ := yBF hb
    obtain ⟨p', _, hp'⟩ := paX.oat.get hi
    have e1 : o = .lst (nL p'.2) := Option.some.inj (h.symm.trans hp')
    rw [e1]
    exact ltop (F2 _ _ (paX.nb b hb) hp')
  obtain ⟨dx, fl, hxY, _, _⟩ := hp4.ex
  have stY : SitL C_Asker C_AskedRule Y ks xs a rl ru tl g lg (pr ++ (asks r (min (j + 1) e) ++ l)) := st1.apart FY pa1.lsts ⟨px.n3, fun z => (by
      obtain ⟨w1, w2, w3, w4⟩ := px.n1
      rcases yAE.mp z with z | z
      . exact w2 (by rw [<- z]; exact yAC _ yAF)
      rcases yAE.mp z with z | z
      . exact w3 (by rw [<- z]; exact yAC _ yAF)
      . exact w4 (by rw [<- yAR.mp z]; exact yAC _ yAF)), fun z => by
      obtain ⟨w1, w2, w3, w4⟩ := px.n1
      rcases yAE.mp z with z | z
      . exact w2 (by rw [<- z]; exact yAC _ (yAC _ yAF))
      rcases yAE.mp z with z | z
      . exact w3 (by rw [<- z]; exact yAC _ (yAC _ yAF))
      . exact w4 (by rw [<- yAR.mp z]; exact yAC _ (yAC _ yAF))⟩
  have stZ := stY.butN hxY px.n1.1 px.nr (H' := Z) fun b o n h => by rw [kZ b n]; exact h
  refine q t2 W j v3 _ (oa ++ [ol]) (ps ++ [(r, os)]) gs' f os l ⟨rfl, hre, hb, hput, rfl, ev3, rfl, rfl, hdue, hgr'⟩ ⟨fun b o n h => ?_, fun b hb => (nb' b hb).2.2, hW, ⟨?_, ?_, ?_, ?_, oatW, paX.ne, fun b hb => (nb' b hb).1⟩, ⟨px.n1, fun b hb => (nb' b hb).2.1, px.n3, px.nr⟩, stZ.mono sW⟩
  . refine sW _ _ ?_
    rw [kZ b (fun z => n (by rw [z]; exact yAF))]
    refine FY _ _ (fun z => n (yAC _ (yBO [a, lg, tl] z))) (fr1 _ _ (fun z => n (yAC _ (yAC _ (yAC _ (yAC _ z))))) h)
  . exact (hpZ.congr fPl_reached).mono sW
  . refine sW _ _ (ltop ?_)
    rw [hf4, <- eus, yAO]; unfold nL; rw [yAO]; rfl
  . refine sW _ _ (ltop ?_)
    rw [ho4, yAO]; rfl
  . exact sW _ _ (ltop hg4)
theorem ok_Pile_step {f : Addr} {fd : FuncData} (F : Fun K "step" "Pile.step" ZBC f fd) (T : Bt K mg C_Join C_Pile C_Asker C_AskedRule)
    (t_Pile_is_due_beneath : Mt P w K mg base CX0 C_Pile "is_due_beneath" 1 ["self"] (ZEh C_Pile))
    (t_Pile_join_two : Mt P w K mg base CX0 C_Pile "join_two" 7 ["self", "lower"] (ZCq C_Asker C_AskedRule C_Pile))
    (t_Pile_lay : Mt P w K mg base CX0 C_Pile "lay" 6 ["self"] (ZEg C_Asker C_AskedRule C_Pile))
    : FnOk P w K mg base CX0 8 f fd ["self"] (ZD8 C_Asker C_AskedRule C_Pile) := by
  refine F.ok sc_Pile_step (fun vs H Q E h => ?_) (fun cdv A outer s H vs Q E hr h => ?_)
  . obtain ⟨ks, xs, a, rl, ru, tl, g, lg, x, fs, od, gr, pr, ls, s, e, r, oa, ps, gs, rfl, st, pa, px, pi, hek, hk, hls, hpr, q0, q⟩ := h
    rfl
  obtain ⟨ks, xs, a, rl, ru, tl, g, lg, x, fs, od, gr, pr, ls, s, e, r, oa, ps, gs, rfl, st, pa, px, pi, hek, hk, hls, hpr, q0, q⟩ := h
  refine ⟨_, (ZAB (ZBT (ZCO (ZCB t_Pile_is_due_beneath (hr.mono (by decide)) ZAV (pv 0)))
   (ZAJ (ZAZ (ZBN t_Pile_join_two (hr.mono (by decide)) ZAV (pv 0) (ZAA (ZAO ZBB (ZAR ZAM rfl T.b_len PySem.boot_len (ZAA (ZAP (pv 0) rfl) ZAE)) ZAF) ZAE)))) ZAu)
   (ZAB (ZBT (ZAU ZC2 (ZAP (pv 0) rfl) (ZAP (pv 0) rfl) (ZAY _))
   (ZAJ (ZAZ (ZCB t_Pile_lay (hr.mono (by decide)) ZAV (pv 0)))) ZAu)
   (ZAB (ZBT (ZAU ZEU (ZAR ZAM rfl T.b_len PySem.boot_len (ZAA (ZAP (pv 0) rfl) ZAE)) ZAF (ZAY _))
   (ZAJ (ZAZ (ZBN t_Pile_join_two (hr.mono (by decide)) ZAV (pv 0) (ZAA (ZAO ZBB (ZAR ZAM rfl T.b_len PySem.boot_len (ZAA (ZAP (pv 0) rfl) ZAE)) ZAF) ZAE)))) ZAu)
   (ZAJ (ZAZ ZCs))))), ?_⟩
  walk_at "rd"
  have hol := pa.oat.len
  have hgl := pi.gl
  have hcl := pi.ch.le
  have hre := pi.re
  refine pa.hp.meth (by walk_at "lk") ⟨x, a, fs, od, gr, ls, s, e, r, oa, ps, gs, rfl, pa, _, rfl, ?_⟩
  cases hd : dueB gs with
  | true =>
    rw [if_pos rfl]
    have h2 : 2 <= gs.length := Nat.lt_of_not_le fun z => by rw [dueB_few z] at hd; cases hd
    obtain ⟨A', p2, p3, rfl⟩ := ZDC (l := ps) (by omega)
    rw [yAA] at hgl hol hcl
    have hA : 1 <= A'.length := by have : ([p2, p3] : List (Nat × List Nat)).length = 2 := rfl; omega
    obtain ⟨A, p1, rfl⟩ : ∃ A p1, A' = A ++ [p1] := ⟨A'.dropLast, A'.getLast (List.ne_nil_of_length_pos hA), (List.dropLast_concat_getLast _).symm⟩
    rw [yAJ] at pa
    have pic := pi.ch
    rw [yAJ] at pic
    obtain ⟨v1, o1⟩ := p1
    obtain ⟨v2, o2⟩ := p2
    rw [yAA, yAW] at hgl hol hcl
    have t2 : ([(v2, o2), p3] : List (Nat × List Nat)).length = 2 := rfl
    refine pa.hp.meth (by walk_at "lk") (pa.hp.get T.cl_Pile T.n_Pile_orders (by walk_at "lk") ⟨od, _, rfl, .inl (SqL.of pa.hod), ?_⟩)
    refine ⟨ks, xs, a, rl, ru, tl, g, lg, x, fs, od, gr, pr, ls, s, e, r, oa, A, v1, v2, o1, o2, [p3], gs, ?_, st, pa, px, pic, by omega, by omega, hk, hpr, fun t H' o L oa' hJ lf => ?_⟩
    . rw [yAD]; congr 3; omega
    . exact q t H' true v1 v2 _ L oa' _ _ r (.inl ⟨rfl, rfl, A, o1, o2, o, [p3], ⟨yAJ .., rfl, rfl, hJ, rfl, .inl ⟨hd, rfl⟩⟩⟩) lf
  | false =>
    rw [if_neg (by decide)]
    refine pa.hp.get T.cl_Pile T.n_Pile_reached (by walk_at "lk") (pa.hp.get T.cl_Pile T.n_Pile_end (by walk_at "lk") ⟨_, _, rfl, rfl, _, rfl, ?_⟩)
    by_cases hlt : r < e
    . rw [if_pos (decide_eq_true (by omega))]
      refine pa.hp.meth (by walk_at "lk") ⟨ks, xs, a, rl, ru, tl, g, lg, x, fs, od, gr, pr, ls, s, e, r, oa, ps, gs, rfl, st, pa, px, pi, hd, hlt, hek, hk, hls, hpr, fun t H' v2 v3 L oa' ps' gs' f os l sl lf => ?_⟩
      exact q t H' false r v2 v3 L oa' ps' gs' v3 (.inr ⟨rfl, f, os, l, sl⟩) lf
    . rw [if_neg (by simp; omega)]
      have hre' : r = e := by omega
      refine pa.hp.get T.cl_Pile T.n_Pile_orders (by walk_at "lk") ⟨od, _, rfl, .inl (SqL.of pa.hod), ?_⟩
      rw [yAD]
      by_cases h2 : 2 <= ps.length
      . rw [if_pos (by omega)]
        obtain ⟨A, p1, p2, rfl⟩ := ZDC (l := ps) h2
        obtain ⟨v1, o1⟩ := p1
        obtain ⟨v2, o2⟩ := p2
        rw [yAA] at hgl hol hcl
        have t2 : ([(v1, o1), (v2, o2)] : List (Nat × List Nat)).length = 2 := rfl
        refine pa.hp.meth (by walk_at "lk") (pa.hp.get T.cl_Pile T.n_Pile_orders (by walk_at "lk") ⟨od, _, rfl, .inl (SqL.of pa.hod), ?_⟩)
        refine ⟨ks, xs, a, rl, ru, tl, g, lg, x, fs, od, gr, pr, ls, s, e, r, oa, A, v1, v2, o1, o2, [], gs, ?_, st, pa, px, pi.ch, by omega, by omega, hk, hpr, fun t H' o L oa' hJ lf => ?_⟩
        . rw [yAD]; congr 3; omega
        . exact q t H' true v1 v2 _ L oa' _ _ r (.inl ⟨rfl, rfl, A, o1, o2, o, [], ⟨rfl, rfl, rfl, hJ, rfl, .inr ⟨hd, hre', rfl⟩⟩⟩) lf
      . rw [if_neg (by omega)]
        exact q0 hd hre' (by omega)
theorem ok_Pile_paper {f : Addr} {fd : FuncData} (F : Fun K "paper" "Pile.paper" ZA4 f fd) (T : Bt K mg C_Join C_Pile C_Asker C_AskedRule)
    : FnOk P w K mg base CX0 1 f fd ["self"] (ZDe C_Pile) := by
  refine F.ok sc_Pile_paper (fun vs H Q E h => ?_) (fun cdv A outer s H vs Q E hr h => ?_)
  . obtain ⟨x, a, fs, od, gr, ls, s, e, r, oa, ps, gs, rfl, pa, hfl, hre, he, q⟩ := h
    rfl
  obtain ⟨x, a, fs, od, gr, ls, s, e, r, oa, ps, gs, rfl, pa, hfl, hre, he, q⟩ := h
  refine ⟨_, (ZAB (ZAK (i := 1) sc_Pile_paper.nd rfl (by walk_at "o") (ZBJ ZAE))
   (ZAB (ZED PassesOwn.never rfl (pi_list (ZAP (pv 0) rfl)) (ZCr (i := 2) sc_Pile_paper.nd rfl (by walk_at "o"))
   (ZAJ (ZAl (ZCP PySem.F.plainAttrs_list PySem.F.slot_list_extend PySem.F.type_list_extend mt_extend (pv 1) (ZAA (pv 2) ZAE)))))
   (ZAJ (ZAZ (ZAO ZEG (pv 1) (ZBK (call_list_rng rfl) rfl T.b_list PyProof.Rows.boot_list (ZAA (ZBK call_rng2 rfl T.b_range PyProof.Rows.boot_range (ZAA (ZAP (pv 0) rfl) (ZAA (ZAP (pv 0) rfl) ZAE))) ZAE))))))), ?_⟩
  walk_at "rd"
  refine ⟨yAG _, fun p hp => ?_⟩
  obtain ⟨H1, e1, s1, h1⟩ := newH hp (.lst [])
  rw [e1]; clear e1
  have pa1 := pa.mono s1
  have hol := pa.oat.len
  refine pa1.hp.get T.cl_Pile T.n_Pile_orders (by walk_at "lk") ?_
  refine forL_of (SqL.of pa1.hod) (fun i σ X => ∃ v2, σ = [some (.ref x), some (.ref p), v2] /\ Same H X /\ X p = some (.lst (nL (flt (ps.take i))))) ⟨_, rfl, s1, h1⟩ (fun i σ X _ ⟨_, _, sX, _⟩ => SqL.of (sX _ _ pa.hod)) ?_ ?_
  . rintro i y σ X hy ⟨v2, rfl, sX, hX⟩
    obtain ⟨b, hb, rfl⟩ : ∃ b, oa[i]? = some b /\ y = .ref b := by
      rw [yAY] at hy
      cases hz : oa[i]? with
      | none => rw [hz] at hy; cases hy
      | some b => rw [hz] at hy; exact ⟨b, rfl, (Option.some.inj hy).symm⟩
    obtain ⟨p1, g1, g2⟩ := pa.oat.get hb
    have e1 : flt (ps.take (i + 1)) = flt (ps.take i) ++ p1.2 := by
      rw [List.take_add_one, g1, ZCz]
      congr 1
      unfold flt
      simp
    have hle : (flt (ps.take i)).length + p1.2.length <= 63 := by
      have e2 : flt ps = flt (ps.take (i + 1)) ++ flt (ps.drop (i + 1)) := by rw [<- ZCz, yBK]
      rw [e2, e1, yAA, yAA] at hfl
      omega
    walk_at "rd"
    refine ⟨.inl ⟨rfl, _, SqL.of hX⟩, p, b, _, _, rfl, rfl, hX, sX _ _ g2, ZAe (by rw [yAD, yAD]; omega), ?_⟩
    refine ⟨_, rfl, sX.upd hp, ?_⟩
    rw [ZAG, e1]
    unfold nL
    rw [yAO]
  rintro σ X ⟨v2, rfl, sX, hX⟩
  rw [yAD, hol, List.take_length] at hX
  walk_at "rd"
  have paX := pa.mono sX
  refine paX.hp.get T.cl_Pile T.n_Pile_reached (by walk_at "lk") (paX.hp.get T.cl_Pile T.n_Pile_end (by walk_at "lk") ⟨_, _, rfl, fun p2 hp2 => ?_⟩)
  obtain ⟨H3, e3, s3, h3⟩ := newH hp2 (.rng r e)
  rw [e3]; clear e3
  refine ⟨p2, r, e, rfl, h3, by omega, fun l2 hl2 => ?_⟩
  rw [rints_nat]
  obtain ⟨H4, e4, s4, h4⟩ := newH hl2 (.lst (nL (List.range' r (e - r))))
  rw [e4]; clear e4
  refine ⟨p, l2, _, _, rfl, rfl, s4 _ _ (s3 _ _ hX), h4, ZAe (by rw [yAD, yAD, yCJ]; omega), fun l hl => ?_⟩
  refine q l _ (sX.trans (s3.trans (s4.new hl))) ((sX.trans (s3.trans s4)).free hl) ?_
  rw [ZAG]
  unfold nL
  rw [yAO]
theorem ok_part_by {f : Addr} {fd : FuncData} (F : Fun K "_law_part_by" "_law_part_by" ZBf f fd) (T : Bt K mg C_Join C_Pile C_Asker C_AskedRule)
    : FnOk P w K mg base CX0 1 f fd ["_law_cell", "_law_many"] (ZCZ) := by
  refine F.ok sc_part_by (fun vs H Q E h => ?_) (fun cdv A outer s H vs Q E hr h => ?_)
  . obtain ⟨c, n, rfl, hn, q⟩ := h
    rfl
  obtain ⟨c, n, rfl, hn, q⟩ := h
  refine ⟨_, (ZAB (ZAK (i := 2) sc_part_by.nd rfl (by walk_at "o") (ZAO ZBA (ZAO ZBc (pv 0) ZAF) (ZAO ZAi (pv 1) ZAF)))
   (ZAB (ZBT (ZAU ZCd (ZAO ZBA (pv 0) ZAF) ZAF (ZAY _))
   (ZAJ (ZAZ (ZBu (ZAA ZAF (ZAA (pv 1) ZAE))))) ZAu)
   (ZAJ (ZAZ (ZBu (ZAA (pv 2) (ZAA (ZAO ZAi (pv 2) (ZAO ZBA (ZAO ZBc (ZAO ZBc (pv 0) ZAF) (ZAO ZAi (pv 1) ZAF)) (ZAO ZAi (ZAO ZBB (pv 1) (pv 2)) ZAF))) ZAE))))))), ?_⟩
  walk_at "rd"
  have q0 := Int.emod_nonneg (c / 2) (show (n : Int) + 1 ≠ 0 by omega)
  have q1 := Int.emod_lt_of_pos (c / 2) (show (0 : Int) < (n : Int) + 1 by omega)
  refine ⟨⟨by decide, by decide⟩, by omega, by decide, ?_⟩
  obtain ⟨lo, elo⟩ : ∃ lo : Nat, c / 2 % ((n : Int) + 1) = lo := ⟨(c / 2 % ((n : Int) + 1)).toNat, by omega⟩
  rw [elo] at q0 q1 ⊢
  by_cases h : c % 2 = 0
  . rw [if_pos h]
    exact ⟨ZAe (by decide), fun t ht => q t _ 0 n (ZAS ht _) ht ZAG (yAG _) (yAB _)⟩
  . rw [if_neg h]
    walk_at "rd"
    have r0 := Int.emod_nonneg (c / 2 / ((n : Int) + 1)) (show (n : Int) - lo + 1 ≠ 0 by omega)
    have r1 := Int.emod_lt_of_pos (c / 2 / ((n : Int) + 1)) (show (0 : Int) < (n : Int) - lo + 1 by omega)
    refine ⟨⟨by decide, by decide⟩, ⟨by omega, by omega⟩, by omega, ZAe (by decide), fun t ht => ?_⟩
    obtain ⟨d, ed⟩ : ∃ d : Nat, c / 2 / ((n : Int) + 1) % ((n : Int) - lo + 1) = d := ⟨(c / 2 / ((n : Int) + 1) % ((n : Int) - lo + 1)).toNat, by omega⟩
    rw [ed] at r0 r1 ⊢
    rw [show (lo : Int) + d = ((lo + d : Nat) : Int) by omega]
    exact q t _ lo (lo + d) (ZAS ht _) ht ZAG (by omega) (by omega)
theorem ok_beside {f : Addr} {fd : FuncData} (F : Fun K "_law_beside" "_law_beside" ZB5 f fd) (T : Bt K mg C_Join C_Pile C_Asker C_AskedRule)
    (f_joined : Fn P w K mg base CX0 "joined" 6 ["asker", "left", "right"] (ZCg C_Asker C_AskedRule))
    (f_teller : Fn P w K mg base CX0 "_law_teller" 1 ["_law_written"] (ZDU Pt_teller (ZBM ZAI) "_law_ask" "_law_teller.<locals>._law_ask" (ZAN ZAI) (ZAL ZAI) (ZAC ZAI) ["_law_written"] [0] 1))
    (f_filled : Fn P w K mg base CX0 "filled" 5 ["asker", "first", "least", "end"] (ZCh C_Asker C_AskedRule))
    (k_Asker_3 : KlD P w K mg base CX0 "Asker" C_Asker 1 ["self", "row", "rule", "most"] (ZBl C_Asker) [.non])
    (k_AskedRule : Kl P w K mg base CX0 "AskedRule" C_AskedRule 1 ["self", "teller"] (ZB0 C_AskedRule))
    : FnOk P w K mg base CX0 7 f fd ["_law_step", "_law_row", "_law_least", "_law_part", "_law_paper", "_law_written"] (ZDJ Pt_teller) := by
  refine F.ok sc_beside (fun vs H Q E h => ?_) (fun cdv A outer s H vs Q E hr h => ?_)
  . obtain ⟨t, rw, pt, pp, lg, ks, xs, ls, s, e, pl, k, v1, v2, v3, X, o1, o2, Z, rfl, hTb, ht, hrw0, hth0, hk, hpt, hpp, npl, hlg0, hlay, hjoin, q⟩ := h
    rfl
  obtain ⟨t, rw, pt, pp, lg, ks, xs, ls, s, e, pl, k, v1, v2, v3, X, o1, o2, Z, rfl, hTb, ht, hrw0, hth0, hk, hpt, hpp, npl, hlg0, hlay, hjoin, q⟩ := h
  refine ⟨_, (ZAB (ZAK (i := 6) sc_beside.nd rfl (by walk_at "o") (pe_mkD k_Asker_3 (hr.mono (by decide)) rfl ZAV (ZAA (pv 1) (ZAA (ZET k_AskedRule (hr.mono (by decide)) rfl ZAV (ZAA (ZBH f_teller (hr.mono (by decide)) rfl ZAV (ZAA (pv 5) ZAE)) ZAE)) ZAE))))
    (ZAT
   (ZAB (ZBT (ZAU ZCd (ZAa ZAj (pv 0) ZAF (fun _ _ => rfl)) ZEE (ZAY _))
   (ZAJ (ZAZ (ZAa ZAj (ZBH f_filled (hr.mono (by decide)) rfl ZAV (ZAA (pv 6) (ZAA (ZAa ZAj (pv 0) ZAF (fun _ _ => rfl)) (ZAA (pv 2) (ZAA (ZAa ZAj (pv 3) ZAF (fun _ _ => rfl)) ZAE))))) ZAF (fun _ _ => rfl)))) ZAu)
    (ZAT
   (ZAB (ZAK (i := 7) sc_beside.nd rfl (by walk_at "o") (ZBY ZBs (pv 4) (ZA9 (ZAO ZBB (ZAa ZAj (pv 0) ZAF (fun _ _ => rfl)) (ZAa ZAj (pv 3) ZAF (fun _ _ => rfl)))) (ZA9 (ZAO ZBB (ZAa ZAj (pv 0) ZAF (fun _ _ => rfl)) (ZAa ZAj (pv 3) ZAF (fun _ _ => rfl))))))
   (ZAB (ZAK (i := 8) sc_beside.nd rfl (by walk_at "o") (ZBY ZBs (pv 4) (ZA9 (ZAO ZBB (ZAa ZAj (pv 0) ZAF (fun _ _ => rfl)) (ZAa ZAj (pv 3) ZAF (fun _ _ => rfl)))) (ZA9 (ZAO ZBB (ZAa ZAj (pv 0) ZAF (fun _ _ => rfl)) (ZAa ZAj (pv 3) ZAF (fun _ _ => rfl))))))
   (ZAJ (ZAZ (ZBH f_joined (hr.mono (by decide)) rfl ZAV (ZAA (pv 6) (ZAA (pv 7) (ZAA (pv 8) ZAE)))))))))))), ?_⟩
  walk_at "rd"
  obtain ⟨tPt, hPt⟩ : ∃ t, H Pt_teller = some (.tbl t) := by
    rcases hTb with h | ⟨c', h, _⟩ <;> exact ⟨_, h⟩
  refine ⟨rfl, hTb, fun g H5 md => ?_⟩
  have nP : ∀ b o, H b = some o -> (∀ t, o ≠ .tbl t) -> b ≠ Pt_teller := fun b o h n z => by rw [z, hPt] at h; exact n _ (Option.some.inj h).symm
  intro ru dr hru hdr nrd
  have hru' : upd H5 dr (.own ru) ru = none := by rw [ZAH (Ne.symm nrd)]; exact hru
  have s6 : Same H5 (upd (upd H5 dr (.own ru)) ru (.ins C_AskedRule dr [])) := (ZAS hdr _).trans (ZAS hru' _)
  refine ⟨ru, dr, g, rfl, ZAG, fun H7 k7 ir => ⟨rfl, ?_⟩⟩
  have k7' : ∀ b o, H5 b = some o -> H7 b = some o := fun b o h => k7 b o (ZAD h hru) (s6 _ _ h)
  intro ak da hak hda nad
  have hak' : upd H7 da (.own ak) ak = none := by rw [ZAH (Ne.symm nad)]; exact hak
  have s8 : Same H7 (upd (upd H7 da (.own ak)) ak (.ins C_Asker da [])) := (ZAS hda _).trans (ZAS hak' _)
  have hPtB : ∃ t, H5 Pt_teller = some (.tbl t) := by
    rcases md.tab with h | ⟨c', h, _⟩
    . exact ⟨_, h⟩
    . exact ⟨_, h⟩
  have u7 : ∀ b o, H b = some o -> (∀ t, o ≠ .tbl t) -> H7 b = some o := fun b o h n => k7' _ _ (md.same b o (nP b o h n) h)
  have h7xl := u7 rw _ hrw0 fun _ z => by cases z
  refine ⟨ak, da, rw, ru, .non, xs, rfl, ZAG, s8 _ _ h7xl, fun rl tl HA k9 nrl ntl nrt ia hrl htl => ⟨rfl, ?_⟩⟩
  have u9 : ∀ b o, H7 b = some o -> HA b = some o := fun b o h => k9 b o (ZAD h hak) (s8 _ _ h)
  have h7lg := u7 lg _ hlg0 fun _ z => by cases z
  have h8ak : upd (upd H7 da (.own ak)) ak (.ins C_Asker da []) ak = some (.ins C_Asker da []) := ZAG
  obtain ⟨dr', fs'', er, _, _⟩ := ir.ex
  have nak_ru : ru ≠ ak := ZAD er hak
  have st : SitL C_Asker C_AskedRule HA ks ⟨xs, 0⟩ ak rl ru tl g lg [] := {
    ha := ia
    hrl := hrl
    hru := ZCx (S := [ak]) (fun b o n h => k9 b o (fun z => n (by rw [z]; exact yAF)) (s8 _ _ h)) (fun z => nak_ru (yAR.mp z)) ir
    clo := md.clo.mono fun b o h => u9 _ _ (k7' _ _ h)
    len := hth0.1
    row := fun i k hk => by
      obtain ⟨r, a1, a2⟩ := hth0.2 i k hk
      exact ⟨r, a1, u9 _ _ (u7 _ _ a2 fun _ z => by cases z)⟩
    hlg := ⟨[], u9 _ _ h7lg, yAG _, rfl, fun j p q h => by simp at h⟩
    htl := ⟨[], htl, rfl, fun j p q h => by simp at h⟩
    ne := ⟨ZAD (s8 _ _ h7lg) ntl, ZDj (Ne.symm (ZAD h8ak nrl)) (Ne.symm (ZAD (s8 _ _ h7lg) nrl)) nrt, nak_ru⟩ }
  have upP : ∀ b o, b ≠ Pt_teller -> H b = some o -> HA b = some o /\ (b ≠ lg -> b ∉ [ak, lg, tl]) := fun b o n h => by
    have h7 := k7' _ _ (md.same b o n h)
    exact ⟨u9 _ _ h7, fun nl => ZDj (ZAD h7 hak) nl (ZAD (s8 _ _ h7) ntl)⟩
  have hTA : TabSt HA Pt_teller (ZBM ZAI) "_law_teller.<locals>._law_ask" := by
    rcases md.tab with h | ⟨c', h, hc⟩
    . exact .inl (u9 _ _ (k7' _ _ h))
    . exact .inr ⟨c', u9 _ _ (k7' _ _ h), hc.mono fun b o hb => u9 _ _ (k7' _ _ hb)⟩
  have nPA : Pt_teller ∉ [ak, lg, tl] := by
    obtain ⟨t, ht⟩ := hPtB
    exact ZDj (ZAD (k7' _ _ ht) hak) (fun z => by rw [z, hlg0] at hPt; cases hPt) (ZAD (s8 _ _ (k7' _ _ ht)) ntl)
  clear u7 u9 k9 k7 k7' md s8 s6 hPtB h7xl h7lg er h8ak nak_ru ia hrl htl hru hru' hak' hdr hda
  have ntP : t ≠ Pt_teller := nP t _ ht fun _ z => by cases z
  have npP : pt ≠ Pt_teller := nP pt _ hpt fun _ z => by cases z
  have nppP : pp ≠ Pt_teller := nP pp _ hpp fun _ z => by cases z
  have ntl' : t ≠ lg := fun z => by rw [z, hlg0] at ht; cases ht
  have nptl : pt ≠ lg := fun z => by rw [z, hlg0] at hpt; cases hpt
  obtain ⟨htA, atS⟩ := upP t _ ntP ht
  obtain ⟨hptA, aptS⟩ := upP pt _ npP hpt
  obtain ⟨hppA, appS⟩ := upP pp _ nppP hpp
  have fin : ∀ {H' : Hp}, Fr [ak, lg, tl] HA H' -> (∀ b o, b ≠ Pt_teller -> b ≠ lg -> H b = some o -> H' b = some o) /\ TabSt H' Pt_teller (ZBM ZAI) "_law_teller.<locals>._law_ask" := fun {H'} f => by
    refine ⟨fun b o n1 n2 h => ?_, ?_⟩
    . obtain ⟨a1, a2⟩ := upP b o n1 h
      exact f _ _ (a2 n2) a1
    . rcases hTA with h | ⟨c', h, hc⟩
      . exact .inl (f _ _ nPA h)
      . exact .inr ⟨c', f _ _ nPA h, hc.mono fun b o hb => f _ _ (st.tupS hb (fun _ z => by cases z) (fun _ _ _ z => by cases z)) hb⟩
  refine ZAd ?_
  walk_at "rd"
  refine ZAk (SqT.of htA) (ZAW (by decide) rfl) ?_
  cases k with
  | false =>
    refine ⟨rfl, _, rfl, ?_⟩
    rw [if_pos (by decide)]
    obtain ⟨hv1, hek, hls⟩ := hlay rfl
    refine ZAk (SqT.of htA) (ZAW (by decide) rfl) (ZAk (SqT.of hptA) (ZAW (by decide) rfl) ?_)
    refine ⟨ks, ⟨xs, 0⟩, ak, rl, ru, tl, g, lg, [], v1, ls, e, .int e, rfl, st, yAG _, .inr rfl, hv1, hek, by omega, hls, fun H1 t1 ol j f os l fr1 hol0 nol ht1 hol hb hput st1 => ?_⟩
    refine ZAk (SqT.of ht1) (ZAW (by decide) rfl) ?_
    obtain ⟨f1, f2⟩ := fin fr1
    obtain ⟨ws, hw1, hw2⟩ := st1.hlg
    exact q ol H1 (asks v1 (min (j + 1) e) ++ l) os ws f1 f2 hol hw1 hw2.prs (fun _ => ⟨j, f, l, hb, hput, rfl⟩) (fun z => by cases z)
  | true =>
    refine ⟨rfl, _, rfl, ?_⟩
    rw [if_neg (by decide)]
    have sd := hjoin rfl
    obtain ⟨l0, l1, l2, l3⟩ := sd.le
    have n1 := sd.h1.len
    have n2 := sd.h2.len
    have epl := sd.e
    have hplen : v3 - s <= pl.length := by rw [epl, yAA, yAA, yAA, sd.hx]; omega
    have es1 : (v1 : Int) - s = ((v1 - s : Nat) : Int) := by omega
    have es2 : (v2 : Int) - s = ((v2 - s : Nat) : Int) := by omega
    have es3 : (v3 : Int) - s = ((v3 - s : Nat) : Int) := by omega
    refine ZAd ?_
    walk_at "rd"
    refine ZAk (SqT.of htA) (ZAW (by decide) rfl) (ZAk (SqT.of hptA) (ZAW (by decide) rfl) ⟨_, _, rfl, rfl, ?_⟩)
    refine ⟨_, rfl, ZAk (SqT.of htA) (ZAW (by decide) rfl) (ZAk (SqT.of hptA) (ZAW (by decide) rfl) ⟨_, _, rfl, rfl, _, rfl, ?_⟩)⟩
    rw [es1, es2]
    refine ZCe (SqL.of hppA) fun c1 hc1 => ?_
    rw [ZDq (by omega) (by omega), show (pl.drop (v1 - s)).take ((v2 - s) - (v1 - s)) = o1 by rw [epl]; exact ZEB sd.hx (by omega)]
    obtain ⟨HB, eB, sB, hB⟩ := newH hc1 (.lst (nL o1))
    rw [eB]; clear eB
    walk_at "rd"
    refine ZAk (SqT.of (sB _ _ htA)) (ZAW (by decide) rfl) (ZAk (SqT.of (sB _ _ hptA)) (ZAW (by decide) rfl) ⟨_, _, rfl, rfl, ?_⟩)
    refine ⟨_, rfl, ZAk (SqT.of (sB _ _ htA)) (ZAW (by decide) rfl) (ZAk (SqT.of (sB _ _ hptA)) (ZAW (by decide) rfl) ⟨_, _, rfl, rfl, _, rfl, ?_⟩)⟩
    rw [es2, es3]
    refine ZCe (SqL.of (sB _ _ hppA)) fun c2 hc2 => ?_
    rw [ZDq (by omega) (by omega), show (pl.drop (v2 - s)).take ((v3 - s) - (v2 - s)) = o2 by rw [epl, <- yAJ]; exact ZEB (by rw [yAA, sd.hx]; omega) (by omega)]
    obtain ⟨HC, eC, sC, hC⟩ := newH hc2 (.lst (nL o2))
    rw [eC]; clear eC
    walk_at "rd"
    refine ⟨ks, ⟨xs, 0⟩, ak, rl, ru, tl, g, lg, c1, c2, [], o1, o2, rfl, (st.mono sB).mono sC, sC _ _ hB, hC, by omega, by omega, fun u hu => by have := (sd.h1.mem u).mp hu; omega, fun u hu => by have := (sd.h2.mem u).mp hu; omega, sd.h1.srt, sd.h2.srt, fun u hu v hv => by have := (sd.h1.mem u).mp hu; have := (sd.h2.mem v).mp hv; omega, yAG _, fun l H1 os L fr1 hl0 hl1 hJ st1 => ?_⟩
    obtain ⟨f1, f2⟩ := fin (fun b o n h => fr1 b o n (sC _ _ (sB _ _ h)))
    obtain ⟨ws, hw1, hw2⟩ := st1.hlg
    exact q l H1 L os ws f1 f2 hl1 hw1 hw2.prs (fun z => by cases z) (fun _ => hJ)
theorem ok_law {f : Addr} {fd : FuncData} (F : Fun K "law" "law" ZDK f fd) (T : Bt K mg C_Join C_Pile C_Asker C_AskedRule)
    (f_row_by : Fn P w K mg base CX0 "_law_row_by" 3 ["_law_script"] (ZDd K))
    (f_part_by : Fn P w K mg base CX0 "_law_part_by" 1 ["_law_cell", "_law_many"] (ZCZ))
    (f_cell_at : Fn P w K mg base CX0 "_law_cell_at" 1 ["_law_script", "_law_k"] (ZDV K))
    (f_beside : Fn P w K mg base CX0 "_law_beside" 7 ["_law_step", "_law_row", "_law_least", "_law_part", "_law_paper", "_law_written"] (ZDJ Pt_teller))
    (f_teller : Fn P w K mg base CX0 "_law_teller" 1 ["_law_written"] (ZDU Pt_teller (ZBM ZAI) "_law_ask" "_law_teller.<locals>._law_ask" (ZAN ZAI) (ZAL ZAI) (ZAC ZAI) ["_law_written"] [0] 1))
    (t_Pile_paper : Mt P w K mg base CX0 C_Pile "paper" 1 ["self"] (ZDe C_Pile))
    (t_Pile_step : Mt P w K mg base CX0 C_Pile "step" 8 ["self"] (ZD8 C_Asker C_AskedRule C_Pile))
    (k_Pile : Kl P w K mg base CX0 "Pile" C_Pile 2 ["self", "asker", "least", "part"] (ZCY C_Asker C_Pile))
    (k_Asker_3 : KlD P w K mg base CX0 "Asker" C_Asker 1 ["self", "row", "rule", "most"] (ZBl C_Asker) [.non])
    (k_AskedRule : Kl P w K mg base CX0 "AskedRule" C_AskedRule 1 ["self", "teller"] (ZB0 C_AskedRule))
    : FnOk P w K mg base CX0 9 f fd ["_law_script"] (ZEA K [(cc_teller, Pt_teller)]) := by
  refine F.ok sc_law (fun vs H Q E h => ?_) (fun cdv A outer s H vs Q E hr h => ?_)
  . obtain ⟨a, ns, rfl, hS, h63, hT, q⟩ := h
    rfl
  obtain ⟨a, ns, rfl, hS, h63, hT, q⟩ := h
  refine ⟨_, (ZAB (ZAK (i := 1) sc_law.nd rfl (by walk_at "o") (ZBH f_row_by (hr.mono (by decide)) rfl ZAV (ZAA (pv 0) ZAE)))
    (ZAT
   (ZAB (ZAK (i := 2) sc_law.nd rfl (by walk_at "o") (ZAa ZAg (ZBJ (ZAA ZAF (ZAA ZAF (ZAA (ZAO ZAi ZAF (ZAO ZBA (ZAO ZBc (ZBH f_cell_at (hr.mono (by decide)) rfl ZAV (ZAA (pv 0) (ZAA ZAF ZAE))) ZAF) ZAF)) ZAE)))) (ZAO ZBA (ZAO ZBc (ZBH f_cell_at (hr.mono (by decide)) rfl ZAV (ZAA (pv 0) (ZAA ZAF ZAE))) ZAF) ZAF) (fun _ _ => rfl)))
    (ZAT
   (ZAB (ZAK (i := 3) sc_law.nd rfl (by walk_at "o") (ZBH f_part_by (hr.mono (by decide)) rfl ZAV (ZAA (ZBH f_cell_at (hr.mono (by decide)) rfl ZAV (ZAA (pv 0) (ZAA ZAF ZAE))) (ZAA (ZAR ZAM rfl T.b_len PySem.boot_len (ZAA (pv 1) ZAE)) ZAE))))
    (ZAT
   (ZAB (ZAK (i := 4) sc_law.nd rfl (by walk_at "o") (ZBJ ZAE))
    (ZAT
   (ZAB (ZAK (i := 5) sc_law.nd rfl (by walk_at "o") (ZET k_Pile (hr.mono (by decide)) rfl ZAV (ZAA (pe_mkD k_Asker_3 (hr.mono (by decide)) rfl ZAV (ZAA (pv 1) (ZAA (ZET k_AskedRule (hr.mono (by decide)) rfl ZAV (ZAA (ZBH f_teller (hr.mono (by decide)) rfl ZAV (ZAA (pv 4) ZAE)) ZAE)) ZAE))) (ZAA (pv 2) (ZAA (pv 3) ZAE)))))
    (ZAT
   (ZAB (ZAK (i := 6) sc_law.nd rfl (by walk_at "o") (ZCB t_Pile_paper (hr.mono (by decide)) ZAV (pv 5)))
    (ZAT
   (ZAB (ZAK (i := 7) sc_law.nd rfl (by walk_at "o") (ZCB t_Pile_step (hr.mono (by decide)) ZAV (pv 5)))
    (ZAT
   (ZAB (ZBX PassesOwn.never (ZAU op_notN (pv 7) ZCs (ZAY _))
   (ZAB (ZAK (i := 8) sc_law.nd rfl (by walk_at "o") (ZBJ ZAE))
      (ZAT
   (ZAB (ZAK (i := 9) sc_law.nd rfl (by walk_at "o") (ZBH f_beside (hr.mono (by decide)) rfl ZAV (ZAA (pv 7) (ZAA (pv 1) (ZAA (pv 2) (ZAA (pv 3) (ZAA (pv 6) (ZAA (pv 8) ZAE))))))))
      (ZAT
   (ZAB (ZBT (ZAU (ZDt hr.units) (pv 4) (pv 8) (ZAY _))
   (ZAJ (ZAZ ZEl)) ZAu)
      (ZAT
   (ZAB (ZAK (i := 6) sc_law.nd rfl (by walk_at "o") (ZCB t_Pile_paper (hr.mono (by decide)) ZAV (pv 5)))
      (ZAT
   (ZAB (ZBT (ZAU (ZDt hr.units) (ZBY ZBs (pv 6) (ZA9 (ZAO ZBB (ZAa ZAj (pv 7) ZAF (fun _ _ => rfl)) (ZAa ZAj (pv 3) ZAF (fun _ _ => rfl)))) (ZA9 (ZAO ZBB (ZAa ZAj (pv 7) ZAF (fun _ _ => rfl)) (ZAa ZAj (pv 3) ZAF (fun _ _ => rfl))))) (pv 9) (ZAY _))
   (ZAJ (ZAZ ZEl)) ZAu)
      (ZAT
   (ZAB (ZAl (ZEF PySem.F.plainAttrs_list PySem.F.slot_list_clear PySem.F.type_list_clear mt_clear (pv 4)))
      (ZAT
   (ZAJ (ZAK (i := 7) sc_law.nd rfl (by walk_at "o") (ZCB t_Pile_step (hr.mono (by decide)) ZAV (pv 5)))))))))))))))))
   (ZAJ (ZAZ (ZCt (op_eqD hr.units) (pv 4) (ZBJ ZAE) (ZAY _))))))))))))))))))), ?_⟩
  walk_at "rd"
  refine ⟨a, ns, rfl, hS, h63, fun rw H1 ks xs S1 hrw hrw1 hkl hth1 => ?_⟩
  refine ZAd ?_
  walk_at "rd"
  refine ⟨a, ns, 0, rfl, S1.seq hS, by decide, ?_⟩
  generalize cellOf ns 0 = c0
  walk_at "rd"
  refine ⟨⟨by decide, by decide⟩, by decide, ZAe (by decide), fun p hp => ?_⟩
  obtain ⟨H2, e2, s2, h2⟩ := newH hp (.lst [.int 1, .int 1, .int (1 + c0 / 12 % 20)])
  rw [e2]; clear e2
  have S2 := S1.trans s2
  refine ⟨a, ns, 0, rfl, S2.seq hS, by decide, ?_⟩
  generalize cellOf ns 0 = c1
  walk_at "rd"
  refine ⟨⟨by decide, by decide⟩, by decide, ?_⟩
  obtain ⟨ls, hls, hat⟩ : ∃ ls : Nat, ls <= 500 /\ atI [V.int 1, V.int 1, V.int (1 + c0 / 12 % 20)] (c1 / 4 % 3) = some (V.int (ls : Int)) := by
    have r0 := Int.emod_nonneg (c0 / 12) (show (20 : Int) ≠ 0 by decide)
    have r1 := Int.emod_lt_of_pos (c0 / 12) (show (0 : Int) < 20 by decide)
    have m0 : c1 / 4 % 3 = 0 ∨ c1 / 4 % 3 = 1 ∨ c1 / 4 % 3 = 2 := by omega
    rcases m0 with e | e | e <;> rw [e]
    . exact ⟨1, by decide, ZAW (by decide) rfl⟩
    . exact ⟨1, by decide, ZAW (by decide) rfl⟩
    . exact ⟨(1 + c0 / 12 % 20).toNat, by omega, by rw [Int.toNat_of_nonneg (by omega)]; exact ZAW (by decide) rfl⟩
  refine ZA0 (SqL.of h2) hat ?_
  refine ZAd ?_
  walk_at "rd"
  refine ⟨a, ns, 4, rfl, S2.seq hS, by decide, ?_⟩
  generalize cellOf ns 4 = c4
  refine ⟨rw, _, rfl, .inl (SqL.of (s2 _ _ hrw1)), ?_⟩
  rw [hth1.1]
  refine ⟨c4, ks.length, rfl, hkl, fun pt H3 s e s3 hpt0 hpt hse hek => ?_⟩
  refine ZAd ?_
  walk_at "rd"
  refine ⟨yAG _, fun lg hlg => ?_⟩
  obtain ⟨H0, e0, s0, hlg0⟩ := newH hlg (.lst [])
  rw [e0]; clear e0
  have S0 : Same H H0 := S2.trans (s3.trans s0)
  have hTb : TabSt H0 Pt_teller (ZBM ZAI) "_law_teller.<locals>._law_ask" := .inl (S0 _ _ (hT _ yAF))
  have hrw0 := s0 _ _ (s3 _ _ (s2 _ _ hrw1))
  have hth0 : Things H0 ks xs := hth1.mono fun b o h _ _ => s0 _ _ (s3 _ _ (s2 _ _ h))
  have hpt00 := s0 _ _ hpt
  refine ZAd ?_
  walk_at "rd"
  obtain ⟨tPt, hPt⟩ : ∃ t, H0 Pt_teller = some (.tbl t) := by
    rcases hTb with h | ⟨c', h, _⟩ <;> exact ⟨_, h⟩
  refine ⟨rfl, hTb, fun g H5 md => ?_⟩
  have nP : ∀ b o, H0 b = some o -> (∀ t, o ≠ .tbl t) -> b ≠ Pt_teller := fun b o h n z => by rw [z, hPt] at h; exact n _ (Option.some.inj h).symm
  intro ru dr hru hdr nrd
  have hru' : upd H5 dr (.own ru) ru = none := by rw [ZAH (Ne.symm nrd)]; exact hru
  have s6 : Same H5 (upd (upd H5 dr (.own ru)) ru (.ins C_AskedRule dr [])) := (ZAS hdr _).trans (ZAS hru' _)
  refine ⟨ru, dr, g, rfl, ZAG, fun H7 k7 ir => ⟨rfl, ?_⟩⟩
  have k7' : ∀ b o, H5 b = some o -> H7 b = some o := fun b o h => k7 b o (ZAD h hru) (s6 _ _ h)
  intro ak da hak hda nad
  have hak' : upd H7 da (.own ak) ak = none := by rw [ZAH (Ne.symm nad)]; exact hak
  have s8 : Same H7 (upd (upd H7 da (.own ak)) ak (.ins C_Asker da [])) := (ZAS hda _).trans (ZAS hak' _)
  have hPtB : ∃ t, H5 Pt_teller = some (.tbl t) := by
    rcases md.tab with h | ⟨c', h, _⟩
    . exact ⟨_, h⟩
    . exact ⟨_, h⟩
  have u7 : ∀ b o, H0 b = some o -> (∀ t, o ≠ .tbl t) -> H7 b = some o := fun b o h n => k7' _ _ (md.same b o (nP b o h n) h)
  have h7xl := u7 rw _ hrw0 fun _ z => by cases z
  refine ⟨ak, da, rw, ru, .non, xs, rfl, ZAG, s8 _ _ h7xl, fun rl tl HA k9 nrl ntl nrt ia hrl htl => ⟨rfl, ?_⟩⟩
  have u9 : ∀ b o, H7 b = some o -> HA b = some o := fun b o h => k9 b o (ZAD h hak) (s8 _ _ h)
  have h7lg := u7 lg _ hlg0 fun _ z => by cases z
  have h8ak : upd (upd H7 da (.own ak)) ak (.ins C_Asker da []) ak = some (.ins C_Asker da []) := ZAG
  obtain ⟨dr', fs'', er, _, _⟩ := ir.ex
  have nak_ru : ru ≠ ak := ZAD er hak
  have st : SitL C_Asker C_AskedRule HA ks ⟨xs, 0⟩ ak rl ru tl g lg [] := {
    ha := ia
    hrl := hrl
    hru := ZCx (S := [ak]) (fun b o n h => k9 b o (fun z => n (by rw [z]; exact yAF)) (s8 _ _ h)) (fun z => nak_ru (yAR.mp z)) ir
    clo := md.clo.mono fun b o h => u9 _ _ (k7' _ _ h)
    len := hth0.1
    row := fun i k hk => by
      obtain ⟨r, a1, a2⟩ := hth0.2 i k hk
      exact ⟨r, a1, u9 _ _ (u7 _ _ a2 fun _ z => by cases z)⟩
    hlg := ⟨[], u9 _ _ h7lg, yAG _, rfl, fun j p q h => by simp at h⟩
    htl := ⟨[], htl, rfl, fun j p q h => by simp at h⟩
    ne := ⟨ZAD (s8 _ _ h7lg) ntl, ZDj (Ne.symm (ZAD h8ak nrl)) (Ne.symm (ZAD (s8 _ _ h7lg) nrl)) nrt, nak_ru⟩ }
  have upP : ∀ b o, b ≠ Pt_teller -> H0 b = some o -> HA b = some o /\ (b ≠ lg -> b ∉ [ak, lg, tl]) := fun b o n h => by
    have h7 := k7' _ _ (md.same b o n h)
    exact ⟨u9 _ _ h7, fun nl => ZDj (ZAD h7 hak) nl (ZAD (s8 _ _ h7) ntl)⟩
  have hTA : TabSt HA Pt_teller (ZBM ZAI) "_law_teller.<locals>._law_ask" := by
    rcases md.tab with h | ⟨c', h, hc⟩
    . exact .inl (u9 _ _ (k7' _ _ h))
    . exact .inr ⟨c', u9 _ _ (k7' _ _ h), hc.mono fun b o hb => u9 _ _ (k7' _ _ hb)⟩
  have nPA : Pt_teller ∉ [ak, lg, tl] := by
    obtain ⟨t, ht⟩ := hPtB
    exact ZDj (ZAD (k7' _ _ ht) hak) (fun z => by rw [z, hlg0] at hPt; cases hPt) (ZAD (s8 _ _ (k7' _ _ ht)) ntl)
  clear u7 u9 k9 k7 k7' md s8 s6 hPtB h7xl h7lg er h8ak nak_ru ia hrl htl hru hru' hak' hdr hda
  have nrwlg : rw ≠ lg := ZAD (s3 _ _ (s2 _ _ hrw1)) hlg
  have nptlg : pt ≠ lg := ZAD hpt hlg
  obtain ⟨hrwA, arw⟩ := upP rw _ (nP rw _ hrw0 fun _ z => by cases z) hrw0
  obtain ⟨hptA, apt⟩ := upP pt _ (nP pt _ hpt00 fun _ z => by cases z) hpt00
  have arw := arw nrwlg
  have apt := apt nptlg
  have hthA : Things HA ks xs := hth0.mono fun b o h n _ => (upP b o (nP b o h n) h).1
  intro x dx hx hdx nxd
  have hx' : upd HA dx (.own x) x = none := by rw [ZAH (Ne.symm nxd)]; exact hx
  have sB : Same HA (upd (upd HA dx (.own x)) x (.ins C_Pile dx [])) := (ZAS hdx _).trans (ZAS hx' _)
  have hB : (upd (upd HA dx (.own x)) x (.ins C_Pile dx [])) x = some (.ins C_Pile dx []) := ZAG
  generalize upd (upd HA dx (.own x)) x (.ins C_Pile dx []) = HB at sB hB ⊢
  refine ⟨x, dx, ak, ls, s, e, .ref pt, rfl, hB, .inl ⟨pt, rfl, sB _ _ hptA⟩, fun fs od gr HC kC nfs nod ngr paC => ⟨rfl, ?_⟩⟩
  have kA : ∀ b o, HA b = some o -> HC b = some o := fun b o h => kC b o (ZAD h hx) (sB _ _ h)
  have stC := st.mono (H' := HC) kA
  have fA : ∀ b, HB b = none -> HA b = none := fun b h => sB.free h
  have obtNe : ∀ b o, HA b = some o -> b ∉ [ak, lg, tl] -> b ∉ [x, fs, od, gr, ak, lg, tl] := fun b o h n z => by
    rcases yAE.mp z with z | z
    . exact ZAD h hx z
    rcases yAE.mp z with z | z
    . exact ZAD h (fA fs nfs) z
    rcases yAE.mp z with z | z
    . exact ZAD h (fA od nod) z
    rcases yAE.mp z with z | z
    . exact ZAD h (fA gr ngr) z
    . exact n z
  have arw7 := obtNe rw _ hrwA arw
  have apt7 := obtNe pt _ hptA apt
  obtain ⟨tPtA, hPtA⟩ : ∃ t, HA Pt_teller = some (.tbl t) := by
    rcases hTA with h | ⟨c', h, _⟩ <;> exact ⟨_, h⟩
  have aPt7 := obtNe Pt_teller _ hPtA nPA
  have nP7 : ∀ {Y : Hp} {b : Addr} {o : HO} {t}, Y Pt_teller = some (.tbl t) -> Y b = some o -> (∀ t, o ≠ .tbl t) -> b ≠ Pt_teller := fun {Y b o t} hY h n z => by rw [z, hY] at h; exact n _ (Option.some.inj h).symm
  have pxC : PXl ak rl ru lg tl x fs od gr [] := ⟨⟨st.newS hx, st.newS (fA fs nfs), st.newS (fA od nod), st.newS (fA gr ngr)⟩, fun b hb => (by cases hb), fun z => by
    rcases yAE.mp z with z | z
    . exact ZAD st.hrl (fA fs nfs) z
    rcases yAE.mp z with z | z
    . exact ZAD st.hrl (fA od nod) z
    . exact ZAD st.hrl (fA gr ngr) (yAR.mp z), by
    obtain ⟨d1, f1, e1, _⟩ := st.hru.ex
    exact ZAD e1 hx⟩
  have tabC : TabSt HC Pt_teller (ZBM ZAI) "_law_teller.<locals>._law_ask" := by
    rcases hTA with h | ⟨c', h, hc⟩
    . exact .inl (kA _ _ h)
    . exact .inr ⟨c', kA _ _ h, hc.mono fun b o hb => kA _ _ hb⟩
  have tabFr : ∀ {Y Z : Hp}, TabSt Y Pt_teller (ZBM ZAI) "_law_teller.<locals>._law_ask" -> (∀ b o, Y b = some o -> (b = Pt_teller ∨ ((∀ l, o ≠ .lst l) /\ ∀ C d f, o ≠ .ins C d f)) -> Z b = some o) -> TabSt Z Pt_teller (ZBM ZAI) "_law_teller.<locals>._law_ask" := fun {Y Z} h f => by
    rcases h with h | ⟨c', h, hc⟩
    . exact .inl (f _ _ h (.inl rfl))
    . exact .inr ⟨c', f _ _ h (.inl rfl), hc.mono fun b o hb => f _ _ hb (.inr ⟨fun _ z => (by cases z), fun _ _ _ z => by cases z⟩)⟩
  have hrwC := kA _ _ hrwA
  have hptC := kA _ _ hptA
  have hthC : Things HC ks xs := hthA.mono fun b o h _ _ => kA _ _ h
  clear upP nP hTA nPA arw apt hthA hrw0 hth0 hpt00 hTb sB hB kC nfs nod ngr obtNe
  refine ZAd ?_
  walk_at "rd"
  have piC : PInv ks s e s [] [] := ⟨rfl, hse, rfl, fun g hg => by cases hg⟩
  refine paC.hp.meth (by walk_at "lk") ⟨x, ak, fs, od, gr, ls, s, e, s, [], [], [], rfl, paC, yAG _, hse, by omega, fun pp HD sD hpp0 hpp => ?_⟩
  refine ZAd ?_
  walk_at "rd"
  have fresh7 : ∀ {Y : Hp} {b : Addr} {r : Nat} {oa : List Addr} {ps : List (Nat × List Nat)} {gs : List Nat} {c : Nat} {pr : List (Nat × Nat)}, PileAt C_Pile Y x ak fs od gr ls s e r oa ps gs -> SitL C_Asker C_AskedRule Y ks ⟨xs, c⟩ ak rl ru tl g lg pr -> Y b = none -> b ∉ [x, fs, od, gr, ak, lg, tl] := fun {Y b r oa ps gs c pr} pa st hb => by
    obtain ⟨w1, h1, _⟩ := st.hlg
    obtain ⟨w2, h2, _⟩ := st.htl
    exact mem7 (o := .lst []) pa.hp pa.hfs pa.hod pa.hgr st.ha h1 h2 fun o h => by rw [hb] at h; cases h
  have w : W59 C_Asker C_AskedRule C_Pile Pt_teller HD ks xs ak rl ru tl g lg x fs od gr rw pt pp [] ls s e s [] [] [] (flt [] ++ List.range' s (e - s)) := ⟨tabFr tabC fun b o h _ => sD _ _ h, sD _ _ hrwC, hthC.mono fun b o h _ _ => sD _ _ h, sD _ _ hptC, hpp, fresh7 paC stC hpp0, paC.mono sD, pxC, piC, yAG _⟩
  have stD := stC.mono sD
  clear hpp0 hpp sD tabC hrwC hthC hptC paC stC pxC
  apply ZEV (fun (sv : V) (Y : Hp) => ∃ n, I59 C_Asker C_AskedRule C_Pile Pt_teller ks xs ak rl ru tl g lg x fs od gr rw pt a ls s e n [some (.ref a), some (.ref rw), some (.int ls), some (.ref pt), some (.ref lg), some (.ref x), some (.ref pp), some sv, none, none] Y)
  . intro tailp
    obtain ⟨pr, hpr0⟩ : ∃ pr : List (Nat × Nat), pr = [] := ⟨_, rfl⟩
    rw [<- hpr0] at w stD
    have st : SitL C_Asker C_AskedRule HD ks ⟨xs, pr.length⟩ ak rl ru tl g lg pr := by rw [hpr0] at stD ⊢; exact stD
    refine w.pa.hp.meth (by walk_at "lk") ⟨ks, ⟨xs, pr.length⟩, ak, rl, ru, tl, g, lg, x, fs, od, gr, pr, ls, s, e, s, [], [], [], rfl, st, w.pa, w.px, w.pi, hek, hkl, hls, by rw [hpr0]; exact yAG _, fun h1 h2 h3 => ?_, fun t Y k v1 v2 v3 L oa' ps' gs' r' stp lf => ?_⟩
    rotate_left
    . obtain ⟨sv, esv⟩ : ∃ sv, sv = V.ref t := ⟨_, rfl⟩
      rw [<- esv]
      exact tailp sv Y ⟨_, sv, pp, _, _, pr, L, r', oa', ps', gs', _, rfl, w.step st arw7 aPt7 lf stp (by omega), lf.2.2.2.2.2, .inr ⟨t, k, v1, v2, v3, s, [], [], esv, rfl, lf.2.2.1, piC, stp, rfl⟩⟩
    . exact tailp .non HD ⟨_, .non, pp, _, _, pr, [], s, [], [], [], _, rfl, by rw [yAT]; exact w, by rw [yAT]; exact st, .inl ⟨rfl, rfl, rfl⟩⟩
  clear w stD st piC
  rintro sv Y ⟨n, hI⟩
  refine ZAd ?_
  walk_at "rd"
  refine ZBU (I59 C_Asker C_AskedRule C_Pile Pt_teller ks xs ak rl ru tl g lg x fs od gr rw pt a ls s e) ⟨n, hI⟩ ?_
  clear hI
  rintro n σ X ⟨sv, pp, v8, v9, pr, L, r, oa, ps, gs, pl, rfl, w, st, hsv⟩
  walk_at "rd"
  rcases hsv with ⟨rfl, rfl, rfl⟩ | ⟨t, k, v1, v2, v3, r0, ps0, gs0, rfl, rfl, ht, pi0, stp, rfl⟩
  . rw [if_neg (by simp)]
    walk_at "rd"
    refine ⟨yAG _, fun p2 hp2 => ?_⟩
    obtain ⟨X2, e2, s2, h2⟩ := newH hp2 (.lst [])
    rw [e2]; clear e2
    obtain ⟨ws, hlgX, hws⟩ := st.hlg
    have hw0 : ws = [] := List.length_eq_zero_iff.mp (by rw [hws.prs.len, yAT, List.drop_length]; rfl)
    subst hw0
    exact eqD_of Enc.int.list (by decide) (a := []) (b := []) (ZBw (xs := []) (SqL.of (s2 _ _ hlgX))) (ZBw (xs := []) (SqL.of h2)) (by simpa using q _)
  rw [if_pos (by simp)]
  refine ZBV ?_
  walk_at "rd"
  obtain ⟨XX, o1, o2, ZZ, os, X2, Z2, hlay, hjoin, huniq, hfl, hx2, hosl, hsv1, hv13⟩ := stp.beside pi0 hek hls
  refine ⟨yAG _, fun bh hbh => ?_⟩
  obtain ⟨Y1, e1, s1, h1⟩ := newH hbh (.lst [])
  rw [e1]; clear e1
  have tab1 : TabSt Y1 Pt_teller (ZBM ZAI) "_law_teller.<locals>._law_ask" := tabFr w.tab fun b o h _ => s1 _ _ h
  refine ZAd ?_
  walk_at "rd"
  refine ⟨t, rw, pt, pp, bh, ks, xs, ls, s, e, _, k, v1, v2, v3, XX, o1, o2, ZZ, rfl, tab1, s1 _ _ ht, s1 _ _ w.hrw, w.th.mono fun b o h _ _ => s1 _ _ h, hkl, s1 _ _ w.hpt, s1 _ _ w.hpp, ZAD w.hpp hbh, h1, hlay, hjoin, fun l Y2 L2 os2 ws k2 tab2 hl2 hbh2 hprs hlayr hjoinr => ?_⟩
  obtain ⟨rfl, rfl⟩ := huniq os2 L2 hlayr hjoinr
  clear huniq hlayr hjoinr hlay hjoin
  obtain ⟨tP, hP⟩ : ∃ t, X Pt_teller = some (.tbl t) := by
    rcases w.tab with h | ⟨c', h, _⟩ <;> exact ⟨_, h⟩
  have kT : ∀ b o, X b = some o -> (∀ t, o ≠ .tbl t) -> Y2 b = some o := fun b o h n => k2 b o (nP7 hP h n) (ZAD h hbh) (s1 _ _ h)
  have st2 := st.butT kT
  have pa2 := w.pa.butT kT
  have ht2 := kT _ _ ht fun _ z => by cases z
  have hpt2 := kT _ _ w.hpt fun _ z => by cases z
  have hrw2 := kT _ _ w.hrw fun _ z => by cases z
  have hth2 : Things Y2 ks xs := w.th.mono fun b o h n _ => kT _ _ h n
  clear k2 tab1 s1 h1
  obtain ⟨ws2, hlg2, hws2⟩ := st2.hlg
  have hws2 := hws2.prs
  rw [List.drop_left] at hws2
  refine ZAd ?_
  walk_at "rd"
  refine prs_ne hlg2 hbh2 hws2 hprs ⟨_, rfl, ?_⟩
  rw [if_neg (by decide)]
  refine ZAd ?_
  walk_at "rd"
  have hre := w.pi.re
  have hcl := w.pi.ch.le
  refine pa2.hp.meth (by walk_at "lk") ⟨x, ak, fs, od, gr, ls, s, e, r, oa, ps, gs, rfl, pa2, by rw [w.pi.ch.flen]; omega, hre, by omega, fun pp2 Y3 s3 hpp20 hpp2 => ?_⟩
  have a2 := fresh7 pa2 st2 hpp20
  have st3 := st2.mono s3
  have pa3 := pa2.mono s3
  have hl3 := s3 _ _ hl2
  have ht3 := s3 _ _ ht2
  have hpt3 := s3 _ _ hpt2
  have tab3 : TabSt Y3 Pt_teller (ZBM ZAI) "_law_teller.<locals>._law_ask" := tabFr tab2 fun b o h _ => s3 _ _ h
  refine ZAd ?_
  walk_at "rd"
  refine ZAk (SqT.of ht3) (ZAW (by decide) rfl) (ZAk (SqT.of hpt3) (ZAW (by decide) rfl) ⟨_, _, rfl, rfl, ?_⟩)
  refine ⟨_, rfl, ZAk (SqT.of ht3) (ZAW (by decide) rfl) (ZAk (SqT.of hpt3) (ZAW (by decide) rfl) ⟨_, _, rfl, rfl, _, rfl, ?_⟩)⟩
  rw [show (v1 : Int) - s = ((v1 - s : Nat) : Int) by omega, show (v3 : Int) - s = ((v3 - s : Nat) : Int) by omega]
  refine ZCe (SqL.of hpp2) fun c1 hc1 => ?_
  rw [hfl, ZDq (by omega) (by rw [yAA, yAA, hx2, hosl]; omega), ZEB hx2 (by omega)]
  obtain ⟨Y4, e4, s4, h4⟩ := newH hc1 (.lst (nL os2))
  rw [e4]; clear e4
  refine ZEI Enc.int.list (by decide) (a := os2.map fun (n : Nat) => (n : Int)) (b := os2.map fun (n : Nat) => (n : Int)) (ZBw (SqL.of (by rw [h4, nL_ints]))) (ZBw (SqL.of (by rw [s4 _ _ hl3, nL_ints]))) ⟨_, rfl, ?_⟩
  rw [if_neg (by simp)]
  refine ZAd ?_
  walk_at "rd"
  have st4 := st3.mono s4
  have pa4 := pa3.mono s4
  have hlg4 := s4 _ _ (s3 _ _ hlg2)
  refine ⟨.inl ⟨rfl, _, SqL.of hlg4⟩, ?_⟩
  refine ⟨lg, _, rfl, rfl, hlg4, ?_⟩
  obtain ⟨pq, epq⟩ : ∃ pq, pq = pr ++ L2 := ⟨_, rfl⟩
  have wcs := w.cs
  rw [<- epq] at st4 wcs
  have st5 : SitL C_Asker C_AskedRule (upd Y4 lg (.lst [])) ks ⟨xs, pq.length⟩ ak rl ru tl g lg pq := sitl_clear st4
  have F5 : Fr [lg] Y4 (upd Y4 lg (.lst [])) := Fr.upd yAF
  generalize upd Y4 lg (.lst []) = Y5 at st5 F5 ⊢
  have n3 : ∀ {b : Addr}, b ∉ [ak, lg, tl] -> b ∉ [lg] := fun {b} h z => h (yAC _ (by rw [yAR.mp z]; exact yAF))
  have n7 : ∀ {b : Addr}, b ∉ [x, fs, od, gr, ak, lg, tl] -> b ∉ [lg] := fun {b} h => n3 fun z => h (yAX [x, fs, od, gr] z)
  obtain ⟨m1, m2, m3, m4⟩ := w.px.n1
  have pa5 := pa4.fr F5 ⟨n3 m1, n3 m2, n3 m3, n3 m4⟩ fun b hb => n3 (w.px.n2 b hb)
  have nt : ∀ {b : Addr} {o : HO}, Y4 b = some o -> (∀ l, o ≠ .lst l) -> b ∉ [lg] := fun {b o} h n z => by rw [yAR.mp z, hlg4] at h; exact n _ (Option.some.inj h).symm
  have w5 : W59 C_Asker C_AskedRule C_Pile Pt_teller Y5 ks xs ak rl ru tl g lg x fs od gr rw pt pp2 pq ls s e r oa ps gs (flt ps ++ List.range' r (e - r)) := by
    refine ⟨tabFr tab3 fun b o h hz => ?_, F5 _ _ (n7 arw7) (s4 _ _ (s3 _ _ hrw2)), ⟨hth2.1, fun i kk hkk => let ⟨r0, a1, a2⟩ := hth2.2 i kk hkk; ⟨r0, a1, F5 _ _ (nt (s4 _ _ (s3 _ _ a2)) fun _ z => by cases z) (s4 _ _ (s3 _ _ a2))⟩⟩, F5 _ _ (nt (s4 _ _ hpt3) fun _ z => by cases z) (s4 _ _ hpt3), F5 _ _ (n7 a2) (s4 _ _ hpp2), a2, pa5, w.px, w.pi, wcs⟩
    rcases hz with rfl | hz
    . exact F5 _ _ (n7 aPt7) (s4 _ _ h)
    . exact F5 _ _ (nt (s4 _ _ h) hz.1) (s4 _ _ h)
  clear pa5 pa4 pa3 pa2 st4 st3 st2 tab3 tab2 hth2 hrw2 hlg4 hpt3 hpt2 ht3 ht2 hl3 hl2
  refine ZAd ?_
  walk_at "rd"
  refine w5.pa.hp.meth (by walk_at "lk") ⟨ks, ⟨xs, pq.length⟩, ak, rl, ru, tl, g, lg, x, fs, od, gr, pq, ls, s, e, r, oa, ps, gs, rfl, st5, w5.pa, w5.px, w5.pi, hek, hkl, hls, by omega, fun z1 z2 z3 => ?_, fun t' Y k' u1 u2 u3 L' oa' ps' gs' r' stp' lf => ?_⟩
  . exact ⟨0, by omega, .non, pp2, _, _, pq, [], r, oa, ps, gs, _, rfl, by rw [yAT]; exact w5, by rw [yAT]; exact st5, .inl ⟨rfl, rfl, rfl⟩⟩
  . exact ⟨_, by have := stp'.less; omega, .ref t', pp2, _, _, pq, L', r', oa', ps', gs', _, rfl, w5.step st5 arw7 aPt7 lf stp' (by omega), lf.2.2.2.2.2, .inr ⟨t', k', u1, u2, u3, r, ps, gs, rfl, rfl, lf.2.2.1, w.pi, stp', rfl⟩⟩
end
theorem all_mk {l : PySem.W.OpenLaw} {w : World} {K : W.Frag} {h : Heap} {mg : Str -> Option Value} {fa C_Join f_Join_init f_Join_has_more f_Join_front f_Join_take_on f_Join_take_rest f_Join_win f_Join_leap_on C_Pile f_Pile_init T_Pile_init f_Pile_beyond_of f_Pile_is_due_beneath f_Pile_grade_on_top f_Pile_join_two f_Pile_lay f_Pile_step f_Pile_paper C_Asker f_Asker_init T_Asker_init f_Asker_many f_Asker_ahead C_AskedRule f_AskedRule_init f_AskedRule_before f_stretch_from T_stretch_from f_in_turn f_spot_of f_filled T_filled f_leap f_joined f_grade f_cell_at f_blocks f_keys_by f_row_by f_part_by f_beside f_law f_teller cc_teller Pt_teller : Addr} {td_Pile_init_0 t_LEFT t_RIGHT t_WINS_TO_LEAP : Tok} (X : K.In h) (G : h.Ns mainGlobals mg) (hfa : mg "law" = some (.ref fa))
    {od_Join_init an_Join_init : Option Addr} {sl_Join_init : Array (Option Value)} {oc_Join_init kV_Join_init dc_Join_init pm_Join_init cd_Join_init ct_Join_init : Value}
    {od_Join_has_more an_Join_has_more : Option Addr} {sl_Join_has_more : Array (Option Value)} {oc_Join_has_more kV_Join_has_more dc_Join_has_more pm_Join_has_more cd_Join_has_more ct_Join_has_more : Value}
    {od_Join_front an_Join_front : Option Addr} {sl_Join_front : Array (Option Value)} {oc_Join_front kV_Join_front dc_Join_front pm_Join_front cd_Join_front ct_Join_front : Value}
    {od_Join_take_on an_Join_take_on : Option Addr} {sl_Join_take_on : Array (Option Value)} {oc_Join_take_on kV_Join_take_on dc_Join_take_on pm_Join_take_on cd_Join_take_on ct_Join_take_on : Value}
    {od_Join_take_rest an_Join_take_rest : Option Addr} {sl_Join_take_rest : Array (Option Value)} {oc_Join_take_rest kV_Join_take_rest dc_Join_take_rest pm_Join_take_rest cd_Join_take_rest ct_Join_take_rest : Value}
    {od_Join_win an_Join_win : Option Addr} {sl_Join_win : Array (Option Value)} {oc_Join_win kV_Join_win dc_Join_win pm_Join_win cd_Join_win ct_Join_win : Value}
    {od_Join_leap_on an_Join_leap_on : Option Addr} {sl_Join_leap_on : Array (Option Value)} {oc_Join_leap_on kV_Join_leap_on dc_Join_leap_on pm_Join_leap_on cd_Join_leap_on ct_Join_leap_on : Value}
    {ocT_Pile_init : Value} {odT_Pile_init : Option Addr} {nT_Pile_init : Nat} {slT_Pile_init : Array (Option Value)}
    {od_Pile_init an_Pile_init : Option Addr} {sl_Pile_init : Array (Option Value)} {oc_Pile_init kV_Pile_init dc_Pile_init pm_Pile_init cd_Pile_init ct_Pile_init : Value}
    {od_Pile_beyond_of an_Pile_beyond_of : Option Addr} {sl_Pile_beyond_of : Array (Option Value)} {oc_Pile_beyond_of kV_Pile_beyond_of dc_Pile_beyond_of pm_Pile_beyond_of cd_Pile_beyond_of ct_Pile_beyond_of : Value}
    {od_Pile_is_due_beneath an_Pile_is_due_beneath : Option Addr} {sl_Pile_is_due_beneath : Array (Option Value)} {oc_Pile_is_due_beneath kV_Pile_is_due_beneath dc_Pile_is_due_beneath pm_Pile_is_due_beneath cd_Pile_is_due_beneath ct_Pile_is_due_beneath : Value}
    {od_Pile_grade_on_top an_Pile_grade_on_top : Option Addr} {sl_Pile_grade_on_top : Array (Option Value)} {oc_Pile_grade_on_top kV_Pile_grade_on_top dc_Pile_grade_on_top pm_Pile_grade_on_top cd_Pile_grade_on_top ct_Pile_grade_on_top : Value}
    {od_Pile_join_two an_Pile_join_two : Option Addr} {sl_Pile_join_two : Array (Option Value)} {oc_Pile_join_two kV_Pile_join_two dc_Pile_join_two pm_Pile_join_two cd_Pile_join_two ct_Pile_join_two : Value}
    {od_Pile_lay an_Pile_lay : Option Addr} {sl_Pile_lay : Array (Option Value)} {oc_Pile_lay kV_Pile_lay dc_Pile_lay pm_Pile_lay cd_Pile_lay ct_Pile_lay : Value}
    {od_Pile_step an_Pile_step : Option Addr} {sl_Pile_step : Array (Option Value)} {oc_Pile_step kV_Pile_step dc_Pile_step pm_Pile_step cd_Pile_step ct_Pile_step : Value}
    {od_Pile_paper an_Pile_paper : Option Addr} {sl_Pile_paper : Array (Option Value)} {oc_Pile_paper kV_Pile_paper dc_Pile_paper pm_Pile_paper cd_Pile_paper ct_Pile_paper : Value}
    {ocT_Asker_init : Value} {odT_Asker_init : Option Addr} {nT_Asker_init : Nat} {slT_Asker_init : Array (Option Value)}
    {od_Asker_init an_Asker_init : Option Addr} {sl_Asker_init : Array (Option Value)} {oc_Asker_init kV_Asker_init dc_Asker_init pm_Asker_init cd_Asker_init ct_Asker_init : Value}
    {od_Asker_many an_Asker_many : Option Addr} {sl_Asker_many : Array (Option Value)} {oc_Asker_many kV_Asker_many dc_Asker_many pm_Asker_many cd_Asker_many ct_Asker_many : Value}
    {od_Asker_ahead an_Asker_ahead : Option Addr} {sl_Asker_ahead : Array (Option Value)} {oc_Asker_ahead kV_Asker_ahead dc_Asker_ahead pm_Asker_ahead cd_Asker_ahead ct_Asker_ahead : Value}
    {od_AskedRule_init an_AskedRule_init : Option Addr} {sl_AskedRule_init : Array (Option Value)} {oc_AskedRule_init kV_AskedRule_init dc_AskedRule_init pm_AskedRule_init cd_AskedRule_init ct_AskedRule_init : Value}
    {od_AskedRule_before an_AskedRule_before : Option Addr} {sl_AskedRule_before : Array (Option Value)} {oc_AskedRule_before kV_AskedRule_before dc_AskedRule_before pm_AskedRule_before cd_AskedRule_before ct_AskedRule_before : Value}
    {ocT_stretch_from : Value} {odT_stretch_from : Option Addr} {nT_stretch_from : Nat} {slT_stretch_from : Array (Option Value)}
    {od_stretch_from an_stretch_from : Option Addr} {sl_stretch_from : Array (Option Value)} {oc_stretch_from kV_stretch_from dc_stretch_from pm_stretch_from cd_stretch_from ct_stretch_from : Value}
    {od_in_turn an_in_turn : Option Addr} {sl_in_turn : Array (Option Value)} {oc_in_turn kV_in_turn dc_in_turn pm_in_turn cd_in_turn ct_in_turn : Value}
    {od_spot_of an_spot_of : Option Addr} {sl_spot_of : Array (Option Value)} {oc_spot_of kV_spot_of dc_spot_of pm_spot_of cd_spot_of ct_spot_of : Value}
    {ocT_filled : Value} {odT_filled : Option Addr} {nT_filled : Nat} {slT_filled : Array (Option Value)}
    {od_filled an_filled : Option Addr} {sl_filled : Array (Option Value)} {oc_filled kV_filled dc_filled pm_filled cd_filled ct_filled : Value}
    {od_leap an_leap : Option Addr} {sl_leap : Array (Option Value)} {oc_leap kV_leap dc_leap pm_leap cd_leap ct_leap : Value}
    {od_joined an_joined : Option Addr} {sl_joined : Array (Option Value)} {oc_joined kV_joined dc_joined pm_joined cd_joined ct_joined : Value}
    {od_grade an_grade : Option Addr} {sl_grade : Array (Option Value)} {oc_grade kV_grade dc_grade pm_grade cd_grade ct_grade : Value}
    {od_cell_at an_cell_at : Option Addr} {sl_cell_at : Array (Option Value)} {oc_cell_at kV_cell_at dc_cell_at pm_cell_at cd_cell_at ct_cell_at : Value}
    {od_blocks an_blocks : Option Addr} {sl_blocks : Array (Option Value)} {oc_blocks kV_blocks dc_blocks pm_blocks cd_blocks ct_blocks : Value}
    {od_keys_by an_keys_by : Option Addr} {sl_keys_by : Array (Option Value)} {oc_keys_by kV_keys_by dc_keys_by pm_keys_by cd_keys_by ct_keys_by : Value}
    {od_row_by an_row_by : Option Addr} {sl_row_by : Array (Option Value)} {oc_row_by kV_row_by dc_row_by pm_row_by cd_row_by ct_row_by : Value}
    {od_part_by an_part_by : Option Addr} {sl_part_by : Array (Option Value)} {oc_part_by kV_part_by dc_part_by pm_part_by cd_part_by ct_part_by : Value}
    {od_beside an_beside : Option Addr} {sl_beside : Array (Option Value)} {oc_beside kV_beside dc_beside pm_beside cd_beside ct_beside : Value}
    {od_law an_law : Option Addr} {sl_law : Array (Option Value)} {oc_law kV_law dc_law pm_law cd_law ct_law : Value}
    {oc2_teller : Value} {od2_teller : Option Addr} {vs_teller : Array Value} {sl2_teller : Array (Option Value)}
    {od_teller an_teller : Option Addr} {sl_teller : Array (Option Value)} {oc_teller kV_teller dc_teller pm_teller ct_teller : Value}
    (a_Join : W.nsIn K mainGlobals "Join" = some (some (.ref C_Join)))
    (pg_Join : PySem.W.plainGet K C_Join Str.empty = true)
    (hd_Join : PySem.W.hasDictIn K C_Join = true)
    (po_Join : PySem.W.plainOver K C_Join = true)
    (sa_Join : W.findIn K (.ref C_Join) "__setattr__" = some (some (.builtin "object.__setattr__")))
    (mk_Join : PySem.W.makesIn K C_Join = true)
    (kc_Join : W.keepIn K (.ref C_Join) = true)
    (n_Join_asker : W.findIn K (.ref C_Join) "asker" = some none)
    (n_Join_sides : W.findIn K (.ref C_Join) "sides" = some none)
    (n_Join_taken : W.findIn K (.ref C_Join) "taken" = some none)
    (n_Join_places : W.findIn K (.ref C_Join) "places" = some none)
    (a_Join_init : W.findIn K (.ref C_Join) "__init__" = some (some (.ref f_Join_init)))
    (i_Join_init : PySem.W.isFn K (.ref f_Join_init) = true)
    (l_Join_init : K.lookup f_Join_init = some ⟨oc_Join_init, od_Join_init, .func (W.fnOf "__init__" "Join.__init__" (ZAN ZBE) (ZAL ZBE) (ZAC ZBE) .none kV_Join_init dc_Join_init pm_Join_init an_Join_init cd_Join_init ct_Join_init), sl_Join_init⟩)
    (c_Join_init : W.codeIn K cd_Join_init "Join.__init__" = true)
    (k_Join_init : W.keepIn K (.ref f_Join_init) = true)
    (a_Join_has_more : W.findIn K (.ref C_Join) "has_more" = some (some (.ref f_Join_has_more)))
    (i_Join_has_more : PySem.W.isFn K (.ref f_Join_has_more) = true)
    (l_Join_has_more : K.lookup f_Join_has_more = some ⟨oc_Join_has_more, od_Join_has_more, .func (W.fnOf "has_more" "Join.has_more" (ZAN ZAt) (ZAL ZAt) (ZAC ZAt) .none kV_Join_has_more dc_Join_has_more pm_Join_has_more an_Join_has_more cd_Join_has_more ct_Join_has_more), sl_Join_has_more⟩)
    (c_Join_has_more : W.codeIn K cd_Join_has_more "Join.has_more" = true)
    (k_Join_has_more : W.keepIn K (.ref f_Join_has_more) = true)
    (a_Join_front : W.findIn K (.ref C_Join) "front" = some (some (.ref f_Join_front)))
    (i_Join_front : PySem.W.isFn K (.ref f_Join_front) = true)
    (l_Join_front : K.lookup f_Join_front = some ⟨oc_Join_front, od_Join_front, .func (W.fnOf "front" "Join.front" (ZAN ZA5) (ZAL ZA5) (ZAC ZA5) .none kV_Join_front dc_Join_front pm_Join_front an_Join_front cd_Join_front ct_Join_front), sl_Join_front⟩)
    (c_Join_front : W.codeIn K cd_Join_front "Join.front" = true)
    (k_Join_front : W.keepIn K (.ref f_Join_front) = true)
    (a_Join_take_on : W.findIn K (.ref C_Join) "take_on" = some (some (.ref f_Join_take_on)))
    (i_Join_take_on : PySem.W.isFn K (.ref f_Join_take_on) = true)
    (l_Join_take_on : K.lookup f_Join_take_on = some ⟨oc_Join_take_on, od_Join_take_on, .func (W.fnOf "take_on" "Join.take_on" (ZAN ZAy) (ZAL ZAy) (ZAC ZAy) .none kV_Join_take_on dc_Join_take_on pm_Join_take_on an_Join_take_on cd_Join_take_on ct_Join_take_on), sl_Join_take_on⟩)
    (c_Join_take_on : W.codeIn K cd_Join_take_on "Join.take_on" = true)
    (k_Join_take_on : W.keepIn K (.ref f_Join_take_on) = true)
    (a_Join_take_rest : W.findIn K (.ref C_Join) "take_rest" = some (some (.ref f_Join_take_rest)))
    (i_Join_take_rest : PySem.W.isFn K (.ref f_Join_take_rest) = true)
    (l_Join_take_rest : K.lookup f_Join_take_rest = some ⟨oc_Join_take_rest, od_Join_take_rest, .func (W.fnOf "take_rest" "Join.take_rest" (ZAN ZAp) (ZAL ZAp) (ZAC ZAp) .none kV_Join_take_rest dc_Join_take_rest pm_Join_take_rest an_Join_take_rest cd_Join_take_rest ct_Join_take_rest), sl_Join_take_rest⟩)
    (c_Join_take_rest : W.codeIn K cd_Join_take_rest "Join.take_rest" = true)
    (k_Join_take_rest : W.keepIn K (.ref f_Join_take_rest) = true)
    (a_Join_win : W.findIn K (.ref C_Join) "win" = some (some (.ref f_Join_win)))
    (i_Join_win : PySem.W.isFn K (.ref f_Join_win) = true)
    (l_Join_win : K.lookup f_Join_win = some ⟨oc_Join_win, od_Join_win, .func (W.fnOf "win" "Join.win" (ZAN ZBR) (ZAL ZBR) (ZAC ZBR) .none kV_Join_win dc_Join_win pm_Join_win an_Join_win cd_Join_win ct_Join_win), sl_Join_win⟩)
    (c_Join_win : W.codeIn K cd_Join_win "Join.win" = true)
    (k_Join_win : W.keepIn K (.ref f_Join_win) = true)
    (a_Join_leap_on : W.findIn K (.ref C_Join) "leap_on" = some (some (.ref f_Join_leap_on)))
    (i_Join_leap_on : PySem.W.isFn K (.ref f_Join_leap_on) = true)
    (l_Join_leap_on : K.lookup f_Join_leap_on = some ⟨oc_Join_leap_on, od_Join_leap_on, .func (W.fnOf "leap_on" "Join.leap_on" (ZAN ZAz) (ZAL ZAz) (ZAC ZAz) .none kV_Join_leap_on dc_Join_leap_on pm_Join_leap_on an_Join_leap_on cd_Join_leap_on ct_Join_leap_on), sl_Join_leap_on⟩)
    (c_Join_leap_on : W.codeIn K cd_Join_leap_on "Join.leap_on" = true)
    (k_Join_leap_on : W.keepIn K (.ref f_Join_leap_on) = true)
    (a_Pile : W.nsIn K mainGlobals "Pile" = some (some (.ref C_Pile)))
    (pg_Pile : PySem.W.plainGet K C_Pile Str.empty = true)
    (hd_Pile : PySem.W.hasDictIn K C_Pile = true)
    (po_Pile : PySem.W.plainOver K C_Pile = true)
    (sa_Pile : W.findIn K (.ref C_Pile) "__setattr__" = some (some (.builtin "object.__setattr__")))
    (mk_Pile : PySem.W.makesIn K C_Pile = true)
    (kc_Pile : W.keepIn K (.ref C_Pile) = true)
    (n_Pile_asker : W.findIn K (.ref C_Pile) "asker" = some none)
    (n_Pile_least : W.findIn K (.ref C_Pile) "least" = some none)
    (n_Pile_start : W.findIn K (.ref C_Pile) "start" = some none)
    (n_Pile_end : W.findIn K (.ref C_Pile) "end" = some none)
    (n_Pile_reached : W.findIn K (.ref C_Pile) "reached" = some none)
    (n_Pile_firsts : W.findIn K (.ref C_Pile) "firsts" = some none)
    (n_Pile_orders : W.findIn K (.ref C_Pile) "orders" = some none)
    (n_Pile_grades : W.findIn K (.ref C_Pile) "grades" = some none)
    (a_Pile_init : W.findIn K (.ref C_Pile) "__init__" = some (some (.ref f_Pile_init)))
    (i_Pile_init : PySem.W.isFn K (.ref f_Pile_init) = true)
    (l_Pile_init : K.lookup f_Pile_init = some ⟨oc_Pile_init, od_Pile_init, .func (W.fnOf "__init__" "Pile.__init__" (ZAN ZBD) (ZAL ZBD) (ZAC ZBD) (.ref T_Pile_init) kV_Pile_init dc_Pile_init pm_Pile_init an_Pile_init cd_Pile_init ct_Pile_init), sl_Pile_init⟩)
    (c_Pile_init : W.codeIn K cd_Pile_init "Pile.__init__" = true)
    (d_Pile_init : K.lookup T_Pile_init = some ⟨ocT_Pile_init, odT_Pile_init, .seq ([.int 1 td_Pile_init_0, .none] : List Value).toArray nT_Pile_init, slT_Pile_init⟩)
    (k_Pile_init : W.keepIn K (.ref f_Pile_init) = true)
    (a_Pile_beyond_of : W.findIn K (.ref C_Pile) "beyond_of" = some (some (.ref f_Pile_beyond_of)))
    (i_Pile_beyond_of : PySem.W.isFn K (.ref f_Pile_beyond_of) = true)
    (l_Pile_beyond_of : K.lookup f_Pile_beyond_of = some ⟨oc_Pile_beyond_of, od_Pile_beyond_of, .func (W.fnOf "beyond_of" "Pile.beyond_of" (ZAN ZAo) (ZAL ZAo) (ZAC ZAo) .none kV_Pile_beyond_of dc_Pile_beyond_of pm_Pile_beyond_of an_Pile_beyond_of cd_Pile_beyond_of ct_Pile_beyond_of), sl_Pile_beyond_of⟩)
    (c_Pile_beyond_of : W.codeIn K cd_Pile_beyond_of "Pile.beyond_of" = true)
    (k_Pile_beyond_of : W.keepIn K (.ref f_Pile_beyond_of) = true)
    (a_Pile_is_due_beneath : W.findIn K (.ref C_Pile) "is_due_beneath" = some (some (.ref f_Pile_is_due_beneath)))
    (i_Pile_is_due_beneath : PySem.W.isFn K (.ref f_Pile_is_due_beneath) = true)
    (l_Pile_is_due_beneath : K.lookup f_Pile_is_due_beneath = some ⟨oc_Pile_is_due_beneath, od_Pile_is_due_beneath, .func (W.fnOf "is_due_beneath" "Pile.is_due_beneath" (ZAN ZAX) (ZAL ZAX) (ZAC ZAX) .none kV_Pile_is_due_beneath dc_Pile_is_due_beneath pm_Pile_is_due_beneath an_Pile_is_due_beneath cd_Pile_is_due_beneath ct_Pile_is_due_beneath), sl_Pile_is_due_beneath⟩)
    (c_Pile_is_due_beneath : W.codeIn K cd_Pile_is_due_beneath "Pile.is_due_beneath" = true)
    (k_Pile_is_due_beneath : W.keepIn K (.ref f_Pile_is_due_beneath) = true)
    (a_Pile_grade_on_top : W.findIn K (.ref C_Pile) "grade_on_top" = some (some (.ref f_Pile_grade_on_top)))
    (i_Pile_grade_on_top : PySem.W.isFn K (.ref f_Pile_grade_on_top) = true)
    (l_Pile_grade_on_top : K.lookup f_Pile_grade_on_top = some ⟨oc_Pile_grade_on_top, od_Pile_grade_on_top, .func (W.fnOf "grade_on_top" "Pile.grade_on_top" (ZAN ZAb) (ZAL ZAb) (ZAC ZAb) .none kV_Pile_grade_on_top dc_Pile_grade_on_top pm_Pile_grade_on_top an_Pile_grade_on_top cd_Pile_grade_on_top ct_Pile_grade_on_top), sl_Pile_grade_on_top⟩)
    (c_Pile_grade_on_top : W.codeIn K cd_Pile_grade_on_top "Pile.grade_on_top" = true)
    (k_Pile_grade_on_top : W.keepIn K (.ref f_Pile_grade_on_top) = true)
    (a_Pile_join_two : W.findIn K (.ref C_Pile) "join_two" = some (some (.ref f_Pile_join_two)))
    (i_Pile_join_two : PySem.W.isFn K (.ref f_Pile_join_two) = true)
    (l_Pile_join_two : K.lookup f_Pile_join_two = some ⟨oc_Pile_join_two, od_Pile_join_two, .func (W.fnOf "join_two" "Pile.join_two" (ZAN ZAs) (ZAL ZAs) (ZAC ZAs) .none kV_Pile_join_two dc_Pile_join_two pm_Pile_join_two an_Pile_join_two cd_Pile_join_two ct_Pile_join_two), sl_Pile_join_two⟩)
    (c_Pile_join_two : W.codeIn K cd_Pile_join_two "Pile.join_two" = true)
    (k_Pile_join_two : W.keepIn K (.ref f_Pile_join_two) = true)
    (a_Pile_lay : W.findIn K (.ref C_Pile) "lay" = some (some (.ref f_Pile_lay)))
    (i_Pile_lay : PySem.W.isFn K (.ref f_Pile_lay) = true)
    (l_Pile_lay : K.lookup f_Pile_lay = some ⟨oc_Pile_lay, od_Pile_lay, .func (W.fnOf "lay" "Pile.lay" (ZAN ZBQ) (ZAL ZBQ) (ZAC ZBQ) .none kV_Pile_lay dc_Pile_lay pm_Pile_lay an_Pile_lay cd_Pile_lay ct_Pile_lay), sl_Pile_lay⟩)
    (c_Pile_lay : W.codeIn K cd_Pile_lay "Pile.lay" = true)
    (k_Pile_lay : W.keepIn K (.ref f_Pile_lay) = true)
    (a_Pile_step : W.findIn K (.ref C_Pile) "step" = some (some (.ref f_Pile_step)))
    (i_Pile_step : PySem.W.isFn K (.ref f_Pile_step) = true)
    (l_Pile_step : K.lookup f_Pile_step = some ⟨oc_Pile_step, od_Pile_step, .func (W.fnOf "step" "Pile.step" (ZAN ZBC) (ZAL ZBC) (ZAC ZBC) .none kV_Pile_step dc_Pile_step pm_Pile_step an_Pile_step cd_Pile_step ct_Pile_step), sl_Pile_step⟩)
    (c_Pile_step : W.codeIn K cd_Pile_step "Pile.step" = true)
    (k_Pile_step : W.keepIn K (.ref f_Pile_step) = true)
    (a_Pile_paper : W.findIn K (.ref C_Pile) "paper" = some (some (.ref f_Pile_paper)))
    (i_Pile_paper : PySem.W.isFn K (.ref f_Pile_paper) = true)
    (l_Pile_paper : K.lookup f_Pile_paper = some ⟨oc_Pile_paper, od_Pile_paper, .func (W.fnOf "paper" "Pile.paper" (ZAN ZA4) (ZAL ZA4) (ZAC ZA4) .none kV_Pile_paper dc_Pile_paper pm_Pile_paper an_Pile_paper cd_Pile_paper ct_Pile_paper), sl_Pile_paper⟩)
    (c_Pile_paper : W.codeIn K cd_Pile_paper "Pile.paper" = true)
    (k_Pile_paper : W.keepIn K (.ref f_Pile_paper) = true)
    (a_Asker : W.nsIn K mainGlobals "Asker" = some (some (.ref C_Asker)))
    (pg_Asker : PySem.W.plainGet K C_Asker Str.empty = true)
    (hd_Asker : PySem.W.hasDictIn K C_Asker = true)
    (po_Asker : PySem.W.plainOver K C_Asker = true)
    (sa_Asker : W.findIn K (.ref C_Asker) "__setattr__" = some (some (.builtin "object.__setattr__")))
    (mk_Asker : PySem.W.makesIn K C_Asker = true)
    (kc_Asker : W.keepIn K (.ref C_Asker) = true)
    (n_Asker_row : W.findIn K (.ref C_Asker) "row" = some none)
    (n_Asker_rule : W.findIn K (.ref C_Asker) "rule" = some none)
    (n_Asker_most : W.findIn K (.ref C_Asker) "most" = some none)
    (n_Asker_asked : W.findIn K (.ref C_Asker) "asked" = some none)
    (n_Asker_told : W.findIn K (.ref C_Asker) "told" = some none)
    (a_Asker_init : W.findIn K (.ref C_Asker) "__init__" = some (some (.ref f_Asker_init)))
    (i_Asker_init : PySem.W.isFn K (.ref f_Asker_init) = true)
    (l_Asker_init : K.lookup f_Asker_init = some ⟨oc_Asker_init, od_Asker_init, .func (W.fnOf "__init__" "Asker.__init__" (ZAN ZA7) (ZAL ZA7) (ZAC ZA7) (.ref T_Asker_init) kV_Asker_init dc_Asker_init pm_Asker_init an_Asker_init cd_Asker_init ct_Asker_init), sl_Asker_init⟩)
    (c_Asker_init : W.codeIn K cd_Asker_init "Asker.__init__" = true)
    (d_Asker_init : K.lookup T_Asker_init = some ⟨ocT_Asker_init, odT_Asker_init, .seq ([.none] : List Value).toArray nT_Asker_init, slT_Asker_init⟩)
    (k_Asker_init : W.keepIn K (.ref f_Asker_init) = true)
    (a_Asker_many : W.findIn K (.ref C_Asker) "many" = some (some (.ref f_Asker_many)))
    (i_Asker_many : PySem.W.isFn K (.ref f_Asker_many) = true)
    (l_Asker_many : K.lookup f_Asker_many = some ⟨oc_Asker_many, od_Asker_many, .func (W.fnOf "many" "Asker.many" (ZAN ZA6) (ZAL ZA6) (ZAC ZA6) .none kV_Asker_many dc_Asker_many pm_Asker_many an_Asker_many cd_Asker_many ct_Asker_many), sl_Asker_many⟩)
    (c_Asker_many : W.codeIn K cd_Asker_many "Asker.many" = true)
    (k_Asker_many : W.keepIn K (.ref f_Asker_many) = true)
    (a_Asker_ahead : W.findIn K (.ref C_Asker) "ahead" = some (some (.ref f_Asker_ahead)))
    (i_Asker_ahead : PySem.W.isFn K (.ref f_Asker_ahead) = true)
    (l_Asker_ahead : K.lookup f_Asker_ahead = some ⟨oc_Asker_ahead, od_Asker_ahead, .func (W.fnOf "ahead" "Asker.ahead" (ZAN ZA1) (ZAL ZA1) (ZAC ZA1) .none kV_Asker_ahead dc_Asker_ahead pm_Asker_ahead an_Asker_ahead cd_Asker_ahead ct_Asker_ahead), sl_Asker_ahead⟩)
    (c_Asker_ahead : W.codeIn K cd_Asker_ahead "Asker.ahead" = true)
    (k_Asker_ahead : W.keepIn K (.ref f_Asker_ahead) = true)
    (a_AskedRule : W.nsIn K mainGlobals "AskedRule" = some (some (.ref C_AskedRule)))
    (pg_AskedRule : PySem.W.plainGet K C_AskedRule Str.empty = true)
    (hd_AskedRule : PySem.W.hasDictIn K C_AskedRule = true)
    (po_AskedRule : PySem.W.plainOver K C_AskedRule = true)
    (sa_AskedRule : W.findIn K (.ref C_AskedRule) "__setattr__" = some (some (.builtin "object.__setattr__")))
    (mk_AskedRule : PySem.W.makesIn K C_AskedRule = true)
    (kc_AskedRule : W.keepIn K (.ref C_AskedRule) = true)
    (n_AskedRule_teller : W.findIn K (.ref C_AskedRule) "teller" = some none)
    (a_AskedRule_init : W.findIn K (.ref C_AskedRule) "__init__" = some (some (.ref f_AskedRule_init)))
    (i_AskedRule_init : PySem.W.isFn K (.ref f_AskedRule_init) = true)
    (l_AskedRule_init : K.lookup f_AskedRule_init = some ⟨oc_AskedRule_init, od_AskedRule_init, .func (W.fnOf "__init__" "AskedRule.__init__" (ZAN ZAq) (ZAL ZAq) (ZAC ZAq) .none kV_AskedRule_init dc_AskedRule_init pm_AskedRule_init an_AskedRule_init cd_AskedRule_init ct_AskedRule_init), sl_AskedRule_init⟩)
    (c_AskedRule_init : W.codeIn K cd_AskedRule_init "AskedRule.__init__" = true)
    (k_AskedRule_init : W.keepIn K (.ref f_AskedRule_init) = true)
    (a_AskedRule_before : W.findIn K (.ref C_AskedRule) "before" = some (some (.ref f_AskedRule_before)))
    (i_AskedRule_before : PySem.W.isFn K (.ref f_AskedRule_before) = true)
    (l_AskedRule_before : K.lookup f_AskedRule_before = some ⟨oc_AskedRule_before, od_AskedRule_before, .func (W.fnOf "before" "AskedRule.before" (ZAN ZAf) (ZAL ZAf) (ZAC ZAf) .none kV_AskedRule_before dc_AskedRule_before pm_AskedRule_before an_AskedRule_before cd_AskedRule_before ct_AskedRule_before), sl_AskedRule_before⟩)
    (c_AskedRule_before : W.codeIn K cd_AskedRule_before "AskedRule.before" = true)
    (k_AskedRule_before : W.keepIn K (.ref f_AskedRule_before) = true)
    (a_stretch_from : W.nsIn K mainGlobals "stretch_from" = some (some (.ref f_stretch_from)))
    (l_stretch_from : K.lookup f_stretch_from = some ⟨oc_stretch_from, od_stretch_from, .func (W.fnOf "stretch_from" "stretch_from" (ZAN ZAx) (ZAL ZAx) (ZAC ZAx) (.ref T_stretch_from) kV_stretch_from dc_stretch_from pm_stretch_from an_stretch_from cd_stretch_from ct_stretch_from), sl_stretch_from⟩)
    (c_stretch_from : W.codeIn K cd_stretch_from "stretch_from" = true)
    (d_stretch_from : K.lookup T_stretch_from = some ⟨ocT_stretch_from, odT_stretch_from, .seq ([.none] : List Value).toArray nT_stretch_from, slT_stretch_from⟩)
    (k_stretch_from : W.keepIn K (.ref f_stretch_from) = true)
    (a_in_turn : W.nsIn K mainGlobals "in_turn" = some (some (.ref f_in_turn)))
    (l_in_turn : K.lookup f_in_turn = some ⟨oc_in_turn, od_in_turn, .func (W.fnOf "in_turn" "in_turn" (ZAN ZBh) (ZAL ZBh) (ZAC ZBh) .none kV_in_turn dc_in_turn pm_in_turn an_in_turn cd_in_turn ct_in_turn), sl_in_turn⟩)
    (c_in_turn : W.codeIn K cd_in_turn "in_turn" = true)
    (k_in_turn : W.keepIn K (.ref f_in_turn) = true)
    (a_spot_of : W.nsIn K mainGlobals "spot_of" = some (some (.ref f_spot_of)))
    (l_spot_of : K.lookup f_spot_of = some ⟨oc_spot_of, od_spot_of, .func (W.fnOf "spot_of" "spot_of" (ZAN ZBe) (ZAL ZBe) (ZAC ZBe) .none kV_spot_of dc_spot_of pm_spot_of an_spot_of cd_spot_of ct_spot_of), sl_spot_of⟩)
    (c_spot_of : W.codeIn K cd_spot_of "spot_of" = true)
    (k_spot_of : W.keepIn K (.ref f_spot_of) = true)
    (a_filled : W.nsIn K mainGlobals "filled" = some (some (.ref f_filled)))
    (l_filled : K.lookup f_filled = some ⟨oc_filled, od_filled, .func (W.fnOf "filled" "filled" (ZAN ZB3) (ZAL ZB3) (ZAC ZB3) (.ref T_filled) kV_filled dc_filled pm_filled an_filled cd_filled ct_filled), sl_filled⟩)
    (c_filled : W.codeIn K cd_filled "filled" = true)
    (d_filled : K.lookup T_filled = some ⟨ocT_filled, odT_filled, .seq ([.none] : List Value).toArray nT_filled, slT_filled⟩)
    (k_filled : W.keepIn K (.ref f_filled) = true)
    (a_leap : W.nsIn K mainGlobals "leap" = some (some (.ref f_leap)))
    (l_leap : K.lookup f_leap = some ⟨oc_leap, od_leap, .func (W.fnOf "leap" "leap" (ZAN ZC6) (ZAL ZC6) (ZAC ZC6) .none kV_leap dc_leap pm_leap an_leap cd_leap ct_leap), sl_leap⟩)
    (c_leap : W.codeIn K cd_leap "leap" = true)
    (k_leap : W.keepIn K (.ref f_leap) = true)
    (a_joined : W.nsIn K mainGlobals "joined" = some (some (.ref f_joined)))
    (l_joined : K.lookup f_joined = some ⟨oc_joined, od_joined, .func (W.fnOf "joined" "joined" (ZAN ZB2) (ZAL ZB2) (ZAC ZB2) .none kV_joined dc_joined pm_joined an_joined cd_joined ct_joined), sl_joined⟩)
    (c_joined : W.codeIn K cd_joined "joined" = true)
    (k_joined : W.keepIn K (.ref f_joined) = true)
    (a_grade : W.nsIn K mainGlobals "grade" = some (some (.ref f_grade)))
    (l_grade : K.lookup f_grade = some ⟨oc_grade, od_grade, .func (W.fnOf "grade" "grade" (ZAN ZCb) (ZAL ZCb) (ZAC ZCb) .none kV_grade dc_grade pm_grade an_grade cd_grade ct_grade), sl_grade⟩)
    (c_grade : W.codeIn K cd_grade "grade" = true)
    (k_grade : W.keepIn K (.ref f_grade) = true)
    (a_cell_at : W.nsIn K mainGlobals "_law_cell_at" = some (some (.ref f_cell_at)))
    (l_cell_at : K.lookup f_cell_at = some ⟨oc_cell_at, od_cell_at, .func (W.fnOf "_law_cell_at" "_law_cell_at" (ZAN ZBi) (ZAL ZBi) (ZAC ZBi) .none kV_cell_at dc_cell_at pm_cell_at an_cell_at cd_cell_at ct_cell_at), sl_cell_at⟩)
    (c_cell_at : W.codeIn K cd_cell_at "_law_cell_at" = true)
    (k_cell_at : W.keepIn K (.ref f_cell_at) = true)
    (a_blocks : W.nsIn K mainGlobals "_law_blocks" = some (some (.ref f_blocks)))
    (l_blocks : K.lookup f_blocks = some ⟨oc_blocks, od_blocks, .func (W.fnOf "_law_blocks" "_law_blocks" (ZAN ZB4) (ZAL ZB4) (ZAC ZB4) .none kV_blocks dc_blocks pm_blocks an_blocks cd_blocks ct_blocks), sl_blocks⟩)
    (c_blocks : W.codeIn K cd_blocks "_law_blocks" = true)
    (k_blocks : W.keepIn K (.ref f_blocks) = true)
    (a_keys_by : W.nsIn K mainGlobals "_law_keys_by" = some (some (.ref f_keys_by)))
    (l_keys_by : K.lookup f_keys_by = some ⟨oc_keys_by, od_keys_by, .func (W.fnOf "_law_keys_by" "_law_keys_by" (ZAN ZBg) (ZAL ZBg) (ZAC ZBg) .none kV_keys_by dc_keys_by pm_keys_by an_keys_by cd_keys_by ct_keys_by), sl_keys_by⟩)
    (c_keys_by : W.codeIn K cd_keys_by "_law_keys_by" = true)
    (k_keys_by : W.keepIn K (.ref f_keys_by) = true)
    (a_row_by : W.nsIn K mainGlobals "_law_row_by" = some (some (.ref f_row_by)))
    (l_row_by : K.lookup f_row_by = some ⟨oc_row_by, od_row_by, .func (W.fnOf "_law_row_by" "_law_row_by" (ZAN ZB1) (ZAL ZB1) (ZAC ZB1) .none kV_row_by dc_row_by pm_row_by an_row_by cd_row_by ct_row_by), sl_row_by⟩)
    (c_row_by : W.codeIn K cd_row_by "_law_row_by" = true)
    (k_row_by : W.keepIn K (.ref f_row_by) = true)
    (a_part_by : W.nsIn K mainGlobals "_law_part_by" = some (some (.ref f_part_by)))
    (l_part_by : K.lookup f_part_by = some ⟨oc_part_by, od_part_by, .func (W.fnOf "_law_part_by" "_law_part_by" (ZAN ZBf) (ZAL ZBf) (ZAC ZBf) .none kV_part_by dc_part_by pm_part_by an_part_by cd_part_by ct_part_by), sl_part_by⟩)
    (c_part_by : W.codeIn K cd_part_by "_law_part_by" = true)
    (k_part_by : W.keepIn K (.ref f_part_by) = true)
    (a_beside : W.nsIn K mainGlobals "_law_beside" = some (some (.ref f_beside)))
    (l_beside : K.lookup f_beside = some ⟨oc_beside, od_beside, .func (W.fnOf "_law_beside" "_law_beside" (ZAN ZB5) (ZAL ZB5) (ZAC ZB5) .none kV_beside dc_beside pm_beside an_beside cd_beside ct_beside), sl_beside⟩)
    (c_beside : W.codeIn K cd_beside "_law_beside" = true)
    (k_beside : W.keepIn K (.ref f_beside) = true)
    (a_law : W.nsIn K mainGlobals "law" = some (some (.ref f_law)))
    (l_law : K.lookup f_law = some ⟨oc_law, od_law, .func (W.fnOf "law" "law" (ZAN ZDK) (ZAL ZDK) (ZAC ZDK) .none kV_law dc_law pm_law an_law cd_law ct_law), sl_law⟩)
    (c_law : W.codeIn K cd_law "law" = true)
    (k_law : W.keepIn K (.ref f_law) = true)
    (a_teller : W.nsIn K mainGlobals "_law_teller" = some (some (.ref f_teller)))
    (l_teller : K.lookup f_teller = some ⟨oc_teller, od_teller, .func (W.fnOf "_law_teller" "_law_teller" (ZAN ZBm) (ZAL ZBm) (ZAC ZBm) .none kV_teller dc_teller pm_teller an_teller (.ref cc_teller) ct_teller), sl_teller⟩)
    (c_teller : W.codeIn K (.ref cc_teller) "_law_teller" = true)
    (lc_teller : K.lookup cc_teller = some ⟨oc2_teller, od2_teller, .fields vs_teller, sl2_teller⟩)
    (tp_teller : vs_teller[11]? = some (.ref Pt_teller))
    (k_teller : W.keepIn K (.ref f_teller) = true)
    (z_LEFT : W.nsIn K mainGlobals "LEFT" = some (some (.int 0 t_LEFT)))
    (z_RIGHT : W.nsIn K mainGlobals "RIGHT" = some (some (.int 1 t_RIGHT)))
    (z_WINS_TO_LEAP : W.nsIn K mainGlobals "WINS_TO_LEAP" = some (some (.int 4 t_WINS_TO_LEAP)))
    (z_len : W.nsIn K mainGlobals "len" = some none)
    (z_range : W.nsIn K mainGlobals "range" = some none)
    (z_list : W.nsIn K mainGlobals "list" = some none)
    (z_max : W.nsIn K mainGlobals "max" = some none)
    (z_min : W.nsIn K mainGlobals "min" = some none)
    (z_abs : W.nsIn K mainGlobals "abs" = some none)
    (z_sorted : W.nsIn K mainGlobals "sorted" = some none)
    (z_ValueError : W.nsIn K mainGlobals "ValueError" = some none)
    (kit_int_bool : PySem.W.kitOne K (.type "int") (.type "bool") = some false)
    (nt : PySem.W.noTabs K = true) :
    ∃ (tabs : List (Addr × Addr)) (fd : FuncData), PySem.W.noTabs K = true /\ (∀ t ∈ tabs, ∃ y ∈ (["_law_teller"] : List Str), PySem.W.tabIn K y = some t) /\ (∀ (s : Shared) (v : Value), BindsTo s fd ⟨[v], []⟩ [("_law_script", v)]) /\ ∀ base : Heap, K.In base -> base.Ns mainGlobals mg -> (∀ t ∈ tabs, PySem.W.CodeHd base t.1 t.2) -> ZDZ mg base -> FnOk l.prog w K mg base CX0 9 fa fd ["_law_script"] (ZEA K tabs) := by
  have e := hfa.symm.trans (PySem.W.mg_of X G a_law)
  cases e
  have cl_Join : Cls K C_Join := ⟨pg_Join, hd_Join, po_Join, sa_Join⟩
  have F_Join_init := ZAm (st := ZBE) l_Join_init c_Join_init k_Join_init
  have b_Join_init := F_Join_init.binds (ps := ["self", "asker", "left", "right"]) fun _ _ _ _ _ _ us hl => by obtain ⟨_, _, _, _, rfl⟩ := us4 hl; rfl
  have F_Join_has_more := ZAm (st := ZAt) l_Join_has_more c_Join_has_more k_Join_has_more
  have b_Join_has_more := F_Join_has_more.binds (ps := ["self", "side"]) fun _ _ _ _ _ _ us hl => by obtain ⟨_, _, rfl⟩ := us2 hl; rfl
  have F_Join_front := ZAm (st := ZA5) l_Join_front c_Join_front k_Join_front
  have b_Join_front := F_Join_front.binds (ps := ["self", "side"]) fun _ _ _ _ _ _ us hl => by obtain ⟨_, _, rfl⟩ := us2 hl; rfl
  have F_Join_take_on := ZAm (st := ZAy) l_Join_take_on c_Join_take_on k_Join_take_on
  have b_Join_take_on := F_Join_take_on.binds (ps := ["self", "side", "more"]) fun _ _ _ _ _ _ us hl => by obtain ⟨_, _, _, rfl⟩ := us3 hl; rfl
  have F_Join_take_rest := ZAm (st := ZAp) l_Join_take_rest c_Join_take_rest k_Join_take_rest
  have b_Join_take_rest := F_Join_take_rest.binds (ps := ["self", "side"]) fun _ _ _ _ _ _ us hl => by obtain ⟨_, _, rfl⟩ := us2 hl; rfl
  have F_Join_win := ZAm (st := ZBR) l_Join_win c_Join_win k_Join_win
  have b_Join_win := F_Join_win.binds (ps := ["self"]) fun _ _ _ _ _ _ us hl => by obtain ⟨_, rfl⟩ := us1 hl; rfl
  have F_Join_leap_on := ZAm (st := ZAz) l_Join_leap_on c_Join_leap_on k_Join_leap_on
  have b_Join_leap_on := F_Join_leap_on.binds (ps := ["self", "side"]) fun _ _ _ _ _ _ us hl => by obtain ⟨_, _, rfl⟩ := us2 hl; rfl
  have cl_Pile : Cls K C_Pile := ⟨pg_Pile, hd_Pile, po_Pile, sa_Pile⟩
  have F_Pile_init := ZDN (st := ZBD) l_Pile_init c_Pile_init k_Pile_init d_Pile_init
  have b_Pile_init_4 := F_Pile_init.binds (ps := ["self", "asker", "least", "part"]) (ds := []) fun _ _ _ _ _ _ _ us hl => match us, ZCK (n := 4) hl rfl with | [_, _, _, _], _ => ⟨_, rfl, rfl⟩
  have b_Pile_init_3 := F_Pile_init.binds (ps := ["self", "asker", "least", "part"]) (ds := [.none]) fun _ _ _ _ _ _ _ us hl => match us, ZCK (n := 3) hl rfl with | [_, _, _], _ => ⟨_, rfl, rfl⟩
  have b_Pile_init_2 := F_Pile_init.binds (ps := ["self", "asker", "least", "part"]) (ds := [.int 1 td_Pile_init_0, .none]) fun _ _ _ _ _ _ _ us hl => match us, ZCK (n := 2) hl rfl with | [_, _], _ => ⟨_, rfl, rfl⟩
  have F_Pile_beyond_of := ZAm (st := ZAo) l_Pile_beyond_of c_Pile_beyond_of k_Pile_beyond_of
  have b_Pile_beyond_of := F_Pile_beyond_of.binds (ps := ["self", "number"]) fun _ _ _ _ _ _ us hl => by obtain ⟨_, _, rfl⟩ := us2 hl; rfl
  have F_Pile_is_due_beneath := ZAm (st := ZAX) l_Pile_is_due_beneath c_Pile_is_due_beneath k_Pile_is_due_beneath
  have b_Pile_is_due_beneath := F_Pile_is_due_beneath.binds (ps := ["self"]) fun _ _ _ _ _ _ us hl => by obtain ⟨_, rfl⟩ := us1 hl; rfl
  have F_Pile_grade_on_top := ZAm (st := ZAb) l_Pile_grade_on_top c_Pile_grade_on_top k_Pile_grade_on_top
  have b_Pile_grade_on_top := F_Pile_grade_on_top.binds (ps := ["self", "middle", "beyond"]) fun _ _ _ _ _ _ us hl => by obtain ⟨_, _, _, rfl⟩ := us3 hl; rfl
  have F_Pile_join_two := ZAm (st := ZAs) l_Pile_join_two c_Pile_join_two k_Pile_join_two
  have b_Pile_join_two := F_Pile_join_two.binds (ps := ["self", "lower"]) fun _ _ _ _ _ _ us hl => by obtain ⟨_, _, rfl⟩ := us2 hl; rfl
  have F_Pile_lay := ZAm (st := ZBQ) l_Pile_lay c_Pile_lay k_Pile_lay
  have b_Pile_lay := F_Pile_lay.binds (ps := ["self"]) fun _ _ _ _ _ _ us hl => by obtain ⟨_, rfl⟩ := us1 hl; rfl
  have F_Pile_step := ZAm (st := ZBC) l_Pile_step c_Pile_step k_Pile_step
  have b_Pile_step := F_Pile_step.binds (ps := ["self"]) fun _ _ _ _ _ _ us hl => by obtain ⟨_, rfl⟩ := us1 hl; rfl
  have F_Pile_paper := ZAm (st := ZA4) l_Pile_paper c_Pile_paper k_Pile_paper
  have b_Pile_paper := F_Pile_paper.binds (ps := ["self"]) fun _ _ _ _ _ _ us hl => by obtain ⟨_, rfl⟩ := us1 hl; rfl
  have cl_Asker : Cls K C_Asker := ⟨pg_Asker, hd_Asker, po_Asker, sa_Asker⟩
  have F_Asker_init := ZDN (st := ZA7) l_Asker_init c_Asker_init k_Asker_init d_Asker_init
  have b_Asker_init_4 := F_Asker_init.binds (ps := ["self", "row", "rule", "most"]) (ds := []) fun _ _ _ _ _ _ _ us hl => match us, ZCK (n := 4) hl rfl with | [_, _, _, _], _ => ⟨_, rfl, rfl⟩
  have b_Asker_init_3 := F_Asker_init.binds (ps := ["self", "row", "rule", "most"]) (ds := [.none]) fun _ _ _ _ _ _ _ us hl => match us, ZCK (n := 3) hl rfl with | [_, _, _], _ => ⟨_, rfl, rfl⟩
  have F_Asker_many := ZAm (st := ZA6) l_Asker_many c_Asker_many k_Asker_many
  have b_Asker_many := F_Asker_many.binds (ps := ["self"]) fun _ _ _ _ _ _ us hl => by obtain ⟨_, rfl⟩ := us1 hl; rfl
  have F_Asker_ahead := ZAm (st := ZA1) l_Asker_ahead c_Asker_ahead k_Asker_ahead
  have b_Asker_ahead := F_Asker_ahead.binds (ps := ["self", "p", "q"]) fun _ _ _ _ _ _ us hl => by obtain ⟨_, _, _, rfl⟩ := us3 hl; rfl
  have cl_AskedRule : Cls K C_AskedRule := ⟨pg_AskedRule, hd_AskedRule, po_AskedRule, sa_AskedRule⟩
  have F_AskedRule_init := ZAm (st := ZAq) l_AskedRule_init c_AskedRule_init k_AskedRule_init
  have b_AskedRule_init := F_AskedRule_init.binds (ps := ["self", "teller"]) fun _ _ _ _ _ _ us hl => by obtain ⟨_, _, rfl⟩ := us2 hl; rfl
  have F_AskedRule_before := ZAm (st := ZAf) l_AskedRule_before c_AskedRule_before k_AskedRule_before
  have b_AskedRule_before := F_AskedRule_before.binds (ps := ["self", "x", "y"]) fun _ _ _ _ _ _ us hl => by obtain ⟨_, _, _, rfl⟩ := us3 hl; rfl
  have F_stretch_from := ZDN (st := ZAx) l_stretch_from c_stretch_from k_stretch_from d_stretch_from
  have b_stretch_from_3 := F_stretch_from.binds (ps := ["asker", "first", "end"]) (ds := []) fun _ _ _ _ _ _ _ us hl => match us, ZCK (n := 3) hl rfl with | [_, _, _], _ => ⟨_, rfl, rfl⟩
  have b_stretch_from_2 := F_stretch_from.binds (ps := ["asker", "first", "end"]) (ds := [.none]) fun _ _ _ _ _ _ _ us hl => match us, ZCK (n := 2) hl rfl with | [_, _], _ => ⟨_, rfl, rfl⟩
  have F_in_turn := ZAm (st := ZBh) l_in_turn c_in_turn k_in_turn
  have b_in_turn := F_in_turn.binds (ps := ["first", "beyond", "falling"]) fun _ _ _ _ _ _ us hl => by obtain ⟨_, _, _, rfl⟩ := us3 hl; rfl
  have F_spot_of := ZAm (st := ZBe) l_spot_of c_spot_of k_spot_of
  have b_spot_of := F_spot_of.binds (ps := ["asker", "order", "place"]) fun _ _ _ _ _ _ us hl => by obtain ⟨_, _, _, rfl⟩ := us3 hl; rfl
  have F_filled := ZDN (st := ZB3) l_filled c_filled k_filled d_filled
  have b_filled_4 := F_filled.binds (ps := ["asker", "first", "least", "end"]) (ds := []) fun _ _ _ _ _ _ _ us hl => match us, ZCK (n := 4) hl rfl with | [_, _, _, _], _ => ⟨_, rfl, rfl⟩
  have b_filled_3 := F_filled.binds (ps := ["asker", "first", "least", "end"]) (ds := [.none]) fun _ _ _ _ _ _ _ us hl => match us, ZCK (n := 3) hl rfl with | [_, _, _], _ => ⟨_, rfl, rfl⟩
  have F_leap := ZAm (st := ZC6) l_leap c_leap k_leap
  have b_leap := F_leap.binds (ps := ["asker", "order", "first", "place"]) fun _ _ _ _ _ _ us hl => by obtain ⟨_, _, _, _, rfl⟩ := us4 hl; rfl
  have F_joined := ZAm (st := ZB2) l_joined c_joined k_joined
  have b_joined := F_joined.binds (ps := ["asker", "left", "right"]) fun _ _ _ _ _ _ us hl => by obtain ⟨_, _, _, rfl⟩ := us3 hl; rfl
  have F_grade := ZAm (st := ZCb) l_grade c_grade k_grade
  have b_grade := F_grade.binds (ps := ["many", "first", "middle", "beyond"]) fun _ _ _ _ _ _ us hl => by obtain ⟨_, _, _, _, rfl⟩ := us4 hl; rfl
  have F_cell_at := ZAm (st := ZBi) l_cell_at c_cell_at k_cell_at
  have b_cell_at := F_cell_at.binds (ps := ["_law_script", "_law_k"]) fun _ _ _ _ _ _ us hl => by obtain ⟨_, _, rfl⟩ := us2 hl; rfl
  have F_blocks := ZAm (st := ZB4) l_blocks c_blocks k_blocks
  have b_blocks := F_blocks.binds (ps := ["_law_keys", "_law_one", "_law_two"]) fun _ _ _ _ _ _ us hl => by obtain ⟨_, _, _, rfl⟩ := us3 hl; rfl
  have F_keys_by := ZAm (st := ZBg) l_keys_by c_keys_by k_keys_by
  have b_keys_by := F_keys_by.binds (ps := ["_law_script", "_law_many", "_law_most"]) fun _ _ _ _ _ _ us hl => by obtain ⟨_, _, _, rfl⟩ := us3 hl; rfl
  have F_row_by := ZAm (st := ZB1) l_row_by c_row_by k_row_by
  have b_row_by := F_row_by.binds (ps := ["_law_script"]) fun _ _ _ _ _ _ us hl => by obtain ⟨_, rfl⟩ := us1 hl; rfl
  have F_part_by := ZAm (st := ZBf) l_part_by c_part_by k_part_by
  have b_part_by := F_part_by.binds (ps := ["_law_cell", "_law_many"]) fun _ _ _ _ _ _ us hl => by obtain ⟨_, _, rfl⟩ := us2 hl; rfl
  have F_beside := ZAm (st := ZB5) l_beside c_beside k_beside
  have b_beside := F_beside.binds (ps := ["_law_step", "_law_row", "_law_least", "_law_part", "_law_paper", "_law_written"]) fun _ _ _ _ _ _ us hl => by obtain ⟨_, _, _, _, _, _, rfl⟩ := us6 hl; rfl
  have F_law := ZAm (st := ZDK) l_law c_law k_law
  have b_law := F_law.binds (ps := ["_law_script"]) fun _ _ _ _ _ _ us hl => by obtain ⟨_, rfl⟩ := us1 hl; rfl
  have F_teller := ZAm (st := ZBm) l_teller c_teller k_teller
  have b_teller := F_teller.binds (ps := ["_law_written"]) fun _ _ _ _ _ _ us hl => by obtain ⟨_, rfl⟩ := us1 hl; rfl
  have T : Bt K mg C_Join C_Pile C_Asker C_AskedRule := ⟨PySem.W.mg_none_of X G z_len, PySem.W.mg_none_of X G z_range, PySem.W.mg_none_of X G z_list, PySem.W.mg_none_of X G z_max, PySem.W.mg_none_of X G z_min, PySem.W.mg_none_of X G z_abs, PySem.W.mg_none_of X G z_sorted, PySem.W.mg_none_of X G z_ValueError, ⟨_, PySem.W.mg_of X G z_LEFT⟩, ⟨_, PySem.W.mg_of X G z_RIGHT⟩, ⟨_, PySem.W.mg_of X G z_WINS_TO_LEAP⟩, PySem.W.mg_of X G a_Join, cl_Join, n_Join_asker, n_Join_sides, n_Join_taken, n_Join_places, PySem.W.mg_of X G a_Pile, cl_Pile, n_Pile_asker, n_Pile_least, n_Pile_start, n_Pile_end, n_Pile_reached, n_Pile_firsts, n_Pile_orders, n_Pile_grades, PySem.W.mg_of X G a_Asker, cl_Asker, n_Asker_row, n_Asker_rule, n_Asker_most, n_Asker_asked, n_Asker_told, PySem.W.mg_of X G a_AskedRule, cl_AskedRule, n_AskedRule_teller, kit_int_bool⟩
  refine ⟨[(cc_teller, Pt_teller)], W.fnOf "law" "law" (ZAN ZDK) (ZAL ZDK) (ZAC ZDK) .none kV_law dc_law pm_law an_law cd_law ct_law, nt, List.forall_mem_cons.mpr ⟨⟨"_law_teller", by simp, tabIn_of a_teller l_teller rfl lc_teller tp_teller⟩, fun _ h => nomatch h⟩, fun s v => .of_eq rfl, fun base _ _ hC hB => ?_⟩
  have f_cell_at' : Fn l.prog w K mg base CX0 "_law_cell_at" 1 ["_law_script", "_law_k"] (ZDV K) := ⟨_, _, ok_cell_at F_cell_at T , b_cell_at, k_cell_at, PySem.W.mg_of X G a_cell_at⟩
  have f_keys_by' : Fn l.prog w K mg base CX0 "_law_keys_by" 2 ["_law_script", "_law_many", "_law_most"] (ZDG K) := ⟨_, _, ok_keys_by F_keys_by T f_cell_at', b_keys_by, k_keys_by, PySem.W.mg_of X G a_keys_by⟩
  have f_blocks' : Fn l.prog w K mg base CX0 "_law_blocks" 1 ["_law_keys", "_law_one", "_law_two"] (ZEi) := ⟨_, _, ok_blocks F_blocks T , b_blocks, k_blocks, PySem.W.mg_of X G a_blocks⟩
  have f_row_by' : Fn l.prog w K mg base CX0 "_law_row_by" 3 ["_law_script"] (ZDd K) := ⟨_, _, ok_row_by F_row_by T f_keys_by' f_cell_at' f_blocks', b_row_by, k_row_by, PySem.W.mg_of X G a_row_by⟩
  have f_part_by' : Fn l.prog w K mg base CX0 "_law_part_by" 1 ["_law_cell", "_law_many"] (ZCZ) := ⟨_, _, ok_part_by F_part_by T , b_part_by, k_part_by, PySem.W.mg_of X G a_part_by⟩
  have t_Join_take_on' : Mt l.prog w K mg base CX0 C_Join "take_on" 1 ["self", "side", "more"] (ZCM C_Join) := ⟨cl_Join, _, _, ok_Join_take_on F_Join_take_on T , b_Join_take_on, a_Join_take_on, i_Join_take_on, k_Join_take_on⟩
  have t_Join_take_rest' : Mt l.prog w K mg base CX0 C_Join "take_rest" 2 ["self", "side"] (ZCW C_Join) := ⟨cl_Join, _, _, ok_Join_take_rest F_Join_take_rest T t_Join_take_on', b_Join_take_rest, a_Join_take_rest, i_Join_take_rest, k_Join_take_rest⟩
  have t_Join_has_more' : Mt l.prog w K mg base CX0 C_Join "has_more" 1 ["self", "side"] (ZCN C_Join) := ⟨cl_Join, _, _, ok_Join_has_more F_Join_has_more T , b_Join_has_more, a_Join_has_more, i_Join_has_more, k_Join_has_more⟩
  have clo_teller' : CloOk l.prog w K mg base 1 (ZBF) := clo_teller T
  have t_AskedRule_before' : Mt l.prog w K mg base CX0 C_AskedRule "before" 2 ["self", "x", "y"] (ZCi C_AskedRule ZBF) := ⟨cl_AskedRule, _, _, ok_AskedRule_before F_AskedRule_before T clo_teller', b_AskedRule_before, a_AskedRule_before, i_AskedRule_before, k_AskedRule_before⟩
  have t_Asker_ahead' : Mt l.prog w K mg base CX0 C_Asker "ahead" 3 ["self", "p", "q"] (ZCF C_Asker C_AskedRule ZBF) := ⟨cl_Asker, _, _, ok_Asker_ahead F_Asker_ahead T t_AskedRule_before', b_Asker_ahead, a_Asker_ahead, i_Asker_ahead, k_Asker_ahead⟩
  have t_Join_front' : Mt l.prog w K mg base CX0 C_Join "front" 1 ["self", "side"] (ZDI C_Join) := ⟨cl_Join, _, _, ok_Join_front F_Join_front T , b_Join_front, a_Join_front, i_Join_front, k_Join_front⟩
  have t_Join_win' : Mt l.prog w K mg base CX0 C_Join "win" 4 ["self"] (ZEf C_Asker C_AskedRule C_Join) := ⟨cl_Join, _, _, ok_Join_win F_Join_win T t_Join_take_on' t_Asker_ahead' t_Join_front', b_Join_win, a_Join_win, i_Join_win, k_Join_win⟩
  have f_leap' : Fn l.prog w K mg base CX0 "leap" 4 ["asker", "order", "first", "place"] (ZD9 C_Asker C_AskedRule) := ⟨_, _, ok_leap F_leap T t_Asker_ahead', b_leap, k_leap, PySem.W.mg_of X G a_leap⟩
  have t_Join_leap_on' : Mt l.prog w K mg base CX0 C_Join "leap_on" 5 ["self", "side"] (ZDF C_Asker C_AskedRule C_Join) := ⟨cl_Join, _, _, ok_Join_leap_on F_Join_leap_on T f_leap' t_Join_take_on' t_Join_has_more' t_Join_front', b_Join_leap_on, a_Join_leap_on, i_Join_leap_on, k_Join_leap_on⟩
  have k_Join' : Kl l.prog w K mg base CX0 "Join" C_Join 1 ["self", "asker", "left", "right"] (ZDg C_Join) := ⟨PySem.W.mg_of X G a_Join, _, _, ok_Join_init F_Join_init T , b_Join_init, mk_Join, a_Join_init, i_Join_init, kc_Join⟩
  have f_joined' : Fn l.prog w K mg base CX0 "joined" 6 ["asker", "left", "right"] (ZCg C_Asker C_AskedRule) := ⟨_, _, ok_joined F_joined T t_Join_take_rest' t_Join_has_more' t_Join_win' t_Join_leap_on' k_Join', b_joined, k_joined, PySem.W.mg_of X G a_joined⟩
  have f_teller' : Fn l.prog w K mg base CX0 "_law_teller" 1 ["_law_written"] (ZDU Pt_teller (ZBM ZAI) "_law_ask" "_law_teller.<locals>._law_ask" (ZAN ZAI) (ZAL ZAI) (ZAC ZAI) ["_law_written"] [0] 1) := ⟨_, _, ok_teller F_teller rfl (hC (cc_teller, Pt_teller) (by simp)) hB, b_teller, k_teller, PySem.W.mg_of X G a_teller⟩
  have t_Asker_many' : Mt l.prog w K mg base CX0 C_Asker "many" 1 ["self"] (ZDT C_Asker) := ⟨cl_Asker, _, _, ok_Asker_many F_Asker_many T , b_Asker_many, a_Asker_many, i_Asker_many, k_Asker_many⟩
  have f_stretch_from' : Fn l.prog w K mg base CX0 "stretch_from" 4 ["asker", "first", "end"] (ZCX C_Asker C_AskedRule) := ⟨_, _, ok_stretch_from F_stretch_from T t_Asker_ahead' t_Asker_many', b_stretch_from_3, k_stretch_from, PySem.W.mg_of X G a_stretch_from⟩
  have f_in_turn' : Fn l.prog w K mg base CX0 "in_turn" 1 ["first", "beyond", "falling"] (ZDH) := ⟨_, _, ok_in_turn F_in_turn T , b_in_turn, k_in_turn, PySem.W.mg_of X G a_in_turn⟩
  have f_spot_of' : Fn l.prog w K mg base CX0 "spot_of" 4 ["asker", "order", "place"] (ZDE C_Asker C_AskedRule) := ⟨_, _, ok_spot_of F_spot_of T t_Asker_ahead', b_spot_of, k_spot_of, PySem.W.mg_of X G a_spot_of⟩
  have f_filled' : Fn l.prog w K mg base CX0 "filled" 5 ["asker", "first", "least", "end"] (ZCh C_Asker C_AskedRule) := ⟨_, _, ok_filled F_filled T f_stretch_from' f_in_turn' f_spot_of' t_Asker_many', b_filled_4, k_filled, PySem.W.mg_of X G a_filled⟩
  have k_Asker_3' : KlD l.prog w K mg base CX0 "Asker" C_Asker 1 ["self", "row", "rule", "most"] (ZBl C_Asker) [.non] := ⟨PySem.W.mg_of X G a_Asker, _, _, _, ok_Asker_init F_Asker_init T , b_Asker_init_3, (.cons rfl .nil), mk_Asker, a_Asker_init, i_Asker_init, kc_Asker⟩
  have k_AskedRule' : Kl l.prog w K mg base CX0 "AskedRule" C_AskedRule 1 ["self", "teller"] (ZB0 C_AskedRule) := ⟨PySem.W.mg_of X G a_AskedRule, _, _, ok_AskedRule_init F_AskedRule_init T , b_AskedRule_init, mk_AskedRule, a_AskedRule_init, i_AskedRule_init, kc_AskedRule⟩
  have f_beside' : Fn l.prog w K mg base CX0 "_law_beside" 7 ["_law_step", "_law_row", "_law_least", "_law_part", "_law_paper", "_law_written"] (ZDJ Pt_teller) := ⟨_, _, ok_beside F_beside T f_joined' f_teller' f_filled' k_Asker_3' k_AskedRule', b_beside, k_beside, PySem.W.mg_of X G a_beside⟩
  have t_Pile_paper' : Mt l.prog w K mg base CX0 C_Pile "paper" 1 ["self"] (ZDe C_Pile) := ⟨cl_Pile, _, _, ok_Pile_paper F_Pile_paper T , b_Pile_paper, a_Pile_paper, i_Pile_paper, k_Pile_paper⟩
  have t_Pile_is_due_beneath' : Mt l.prog w K mg base CX0 C_Pile "is_due_beneath" 1 ["self"] (ZEh C_Pile) := ⟨cl_Pile, _, _, ok_Pile_is_due_beneath F_Pile_is_due_beneath T , b_Pile_is_due_beneath, a_Pile_is_due_beneath, i_Pile_is_due_beneath, k_Pile_is_due_beneath⟩
  have t_Pile_beyond_of' : Mt l.prog w K mg base CX0 C_Pile "beyond_of" 1 ["self", "number"] (ZCa C_Pile) := ⟨cl_Pile, _, _, ok_Pile_beyond_of F_Pile_beyond_of T , b_Pile_beyond_of, a_Pile_beyond_of, i_Pile_beyond_of, k_Pile_beyond_of⟩
  have t_Pile_join_two' : Mt l.prog w K mg base CX0 C_Pile "join_two" 7 ["self", "lower"] (ZCq C_Asker C_AskedRule C_Pile) := ⟨cl_Pile, _, _, ok_Pile_join_two F_Pile_join_two T f_joined' t_Pile_beyond_of', b_Pile_join_two, a_Pile_join_two, i_Pile_join_two, k_Pile_join_two⟩
  have f_grade' : Fn l.prog w K mg base CX0 "grade" 1 ["many", "first", "middle", "beyond"] (ZDh) := ⟨_, _, ok_grade F_grade T , b_grade, k_grade, PySem.W.mg_of X G a_grade⟩
  have t_Pile_grade_on_top' : Mt l.prog w K mg base CX0 C_Pile "grade_on_top" 2 ["self", "middle", "beyond"] (ZDf C_Pile) := ⟨cl_Pile, _, _, ok_Pile_grade_on_top F_Pile_grade_on_top T f_grade', b_Pile_grade_on_top, a_Pile_grade_on_top, i_Pile_grade_on_top, k_Pile_grade_on_top⟩
  have t_Pile_lay' : Mt l.prog w K mg base CX0 C_Pile "lay" 6 ["self"] (ZEg C_Asker C_AskedRule C_Pile) := ⟨cl_Pile, _, _, ok_Pile_lay F_Pile_lay T f_filled' t_Pile_grade_on_top', b_Pile_lay, a_Pile_lay, i_Pile_lay, k_Pile_lay⟩
  have t_Pile_step' : Mt l.prog w K mg base CX0 C_Pile "step" 8 ["self"] (ZD8 C_Asker C_AskedRule C_Pile) := ⟨cl_Pile, _, _, ok_Pile_step F_Pile_step T t_Pile_is_due_beneath' t_Pile_join_two' t_Pile_lay', b_Pile_step, a_Pile_step, i_Pile_step, k_Pile_step⟩
  have k_Pile' : Kl l.prog w K mg base CX0 "Pile" C_Pile 2 ["self", "asker", "least", "part"] (ZCY C_Asker C_Pile) := ⟨PySem.W.mg_of X G a_Pile, _, _, ok_Pile_init F_Pile_init T t_Asker_many', b_Pile_init_4, mk_Pile, a_Pile_init, i_Pile_init, kc_Pile⟩
  exact ok_law F_law T f_row_by' f_part_by' f_cell_at' f_beside' f_teller' t_Pile_paper' t_Pile_step' k_Pile' k_Asker_3' k_AskedRule'
end Law
open PySem PySem.W PyProof.Rows
set_option maxRecDepth 100000 in
set_option maxHeartbeats 0 in
theorem PySem.Challenge.cw_sorthall_k59_whole_asks_as_told_holds : PySem.Challenge.rw_sorthall_k59_whole_asks_as_told.Holds := by
  refine L2.hd0 ?_
  k_fill
  refine L2.walk_ofT2 (l := PySem.Challenge.rw_sorthall_k59_whole_asks_as_told) (k := 9) (x := "_law_script") (names := ["_law_teller"]) rfl rfl ⟨rfl, by decide, by decide⟩ (fun w h Y => PySem.W.km_in_of Y) (List.forall_mem_cons.mpr ⟨⟨_, rfl⟩, fun _ h => nomatch h⟩) ?F
  case F =>
    intro w mg fa h KX G hmg
    refine' Law.all_mk KX G hmg ?a_Join ?pg_Join ?hd_Join ?po_Join ?sa_Join ?mk_Join ?kc_Join ?n_Join_asker ?n_Join_sides ?n_Join_taken ?n_Join_places ?a_Join_init ?i_Join_init ?l_Join_init ?c_Join_init ?k_Join_init ?a_Join_has_more ?i_Join_has_more ?l_Join_has_more ?c_Join_has_more ?k_Join_has_more ?a_Join_front ?i_Join_front ?l_Join_front ?c_Join_front ?k_Join_front ?a_Join_take_on ?i_Join_take_on ?l_Join_take_on ?c_Join_take_on ?k_Join_take_on ?a_Join_take_rest ?i_Join_take_rest ?l_Join_take_rest ?c_Join_take_rest ?k_Join_take_rest ?a_Join_win ?i_Join_win ?l_Join_win ?c_Join_win ?k_Join_win ?a_Join_leap_on ?i_Join_leap_on ?l_Join_leap_on ?c_Join_leap_on ?k_Join_leap_on ?a_Pile ?pg_Pile ?hd_Pile ?po_Pile ?sa_Pile ?mk_Pile ?kc_Pile ?n_Pile_asker ?n_Pile_least ?n_Pile_start ?n_Pile_end ?n_Pile_reached ?n_Pile_firsts ?n_Pile_orders ?n_Pile_grades ?a_Pile_init ?i_Pile_init ?l_Pile_init ?c_Pile_init ?d_Pile_init ?k_Pile_init ?a_Pile_beyond_of ?i_Pile_beyond_of ?l_Pile_beyond_of ?c_Pile_beyond_of ?k_Pile_beyond_of ?a_Pile_is_due_beneath ?i_Pile_is_due_beneath ?l_Pile_is_due_beneath ?c_Pile_is_due_beneath ?k_Pile_is_due_beneath ?a_Pile_grade_on_top ?i_Pile_grade_on_top ?l_Pile_grade_on_top ?c_Pile_grade_on_top ?k_Pile_grade_on_top ?a_Pile_join_two ?i_Pile_join_two ?l_Pile_join_two ?c_Pile_join_two ?k_Pile_join_two ?a_Pile_lay ?i_Pile_lay ?l_Pile_lay ?c_Pile_lay ?k_Pile_lay ?a_Pile_step ?i_Pile_step ?l_Pile_step ?c_Pile_step ?k_Pile_step ?a_Pile_paper ?i_Pile_paper ?l_Pile_paper ?c_Pile_paper ?k_Pile_paper ?a_Asker ?pg_Asker ?hd_Asker ?po_Asker ?sa_Asker ?mk_Asker ?kc_Asker ?n_Asker_row ?n_Asker_rule ?n_Asker_most ?n_Asker_asked ?n_Asker_told ?a_Asker_init ?i_Asker_init ?l_Asker_init ?c_Asker_init ?d_Asker_init ?k_Asker_init ?a_Asker_many ?i_Asker_many ?l_Asker_many ?c_Asker_many ?k_Asker_many ?a_Asker_ahead ?i_Asker_ahead ?l_Asker_ahead ?c_Asker_ahead ?k_Asker_ahead ?a_AskedRule ?pg_AskedRule ?hd_AskedRule ?po_AskedRule ?sa_AskedRule ?mk_AskedRule ?kc_AskedRule ?n_AskedRule_teller ?a_AskedRule_init ?i_AskedRule_init ?l_AskedRule_init ?c_AskedRule_init ?k_AskedRule_init ?a_AskedRule_before ?i_AskedRule_before ?l_AskedRule_before ?c_AskedRule_before ?k_AskedRule_before ?a_stretch_from ?l_stretch_from ?c_stretch_from ?d_stretch_from ?k_stretch_from ?a_in_turn ?l_in_turn ?c_in_turn ?k_in_turn ?a_spot_of ?l_spot_of ?c_spot_of ?k_spot_of ?a_filled ?l_filled ?c_filled ?d_filled ?k_filled ?a_leap ?l_leap ?c_leap ?k_leap ?a_joined ?l_joined ?c_joined ?k_joined ?a_grade ?l_grade ?c_grade ?k_grade ?a_cell_at ?l_cell_at ?c_cell_at ?k_cell_at ?a_blocks ?l_blocks ?c_blocks ?k_blocks ?a_keys_by ?l_keys_by ?c_keys_by ?k_keys_by ?a_row_by ?l_row_by ?c_row_by ?k_row_by ?a_part_by ?l_part_by ?c_part_by ?k_part_by ?a_beside ?l_beside ?c_beside ?k_beside ?a_law ?l_law ?c_law ?k_law ?a_teller ?l_teller ?c_teller ?lc_teller ?tp_teller ?k_teller ?z_LEFT ?z_RIGHT ?z_WINS_TO_LEAP ?z_len ?z_range ?z_list ?z_max ?z_min ?z_abs ?z_sorted ?z_ValueError ?kit_int_bool ?nt
    (case a_Join => k_is)
    (case pg_Join => k_is)
    (case hd_Join => k_is)
    (case po_Join => k_is)
    (case sa_Join => k_is)
    (case mk_Join => k_is)
    (case kc_Join => k_is)
    (case n_Join_asker => k_is)
    (case n_Join_sides => k_is)
    (case n_Join_taken => k_is)
    (case n_Join_places => k_is)
    (case a_Join_init => k_is)
    (case i_Join_init => k_is)
    (case l_Join_init => k_is)
    (case c_Join_init => k_is)
    (case k_Join_init => k_is)
    (case a_Join_has_more => k_is)
    (case i_Join_has_more => k_is)
    (case l_Join_has_more => k_is)
    (case c_Join_has_more => k_is)
    (case k_Join_has_more => k_is)
    (case a_Join_front => k_is)
    (case i_Join_front => k_is)
    (case l_Join_front => k_is)
    (case c_Join_front => k_is)
    (case k_Join_front => k_is)
    (case a_Join_take_on => k_is)
    (case i_Join_take_on => k_is)
    (case l_Join_take_on => k_is)
    (case c_Join_take_on => k_is)
    (case k_Join_take_on => k_is)
    (case a_Join_take_rest => k_is)
    (case i_Join_take_rest => k_is)
    (case l_Join_take_rest => k_is)
    (case c_Join_take_rest => k_is)
    (case k_Join_take_rest => k_is)
    (case a_Join_win => k_is)
    (case i_Join_win => k_is)
    (case l_Join_win => k_is)
    (case c_Join_win => k_is)
    (case k_Join_win => k_is)
    (case a_Join_leap_on => k_is)
    (case i_Join_leap_on => k_is)
    (case l_Join_leap_on => k_is)
    (case c_Join_leap_on => k_is)
    (case k_Join_leap_on => k_is)
    (case a_Pile => k_is)
    (case pg_Pile => k_is)
    (case hd_Pile => k_is)
    (case po_Pile => k_is)
    (case sa_Pile => k_is)
    (case mk_Pile => k_is)
    (case kc_Pile => k_is)
    (case n_Pile_asker => k_is)
    (case n_Pile_least => k_is)
    (case n_Pile_start => k_is)
    (case n_Pile_end => k_is)
    (case n_Pile_reached => k_is)
    (case n_Pile_firsts => k_is)
    (case n_Pile_orders => k_is)
    (case n_Pile_grades => k_is)
    (case a_Pile_init => k_is)
    (case i_Pile_init => k_is)
    (case l_Pile_init => k_is)
    (case c_Pile_init => k_is)
    (case d_Pile_init => k_is)
    (case k_Pile_init => k_is)
    (case a_Pile_beyond_of => k_is)
    (case i_Pile_beyond_of => k_is)
    (case l_Pile_beyond_of => k_is)
    (case c_Pile_beyond_of => k_is)
    (case k_Pile_beyond_of => k_is)
    (case a_Pile_is_due_beneath => k_is)
    (case i_Pile_is_due_beneath => k_is)
    (case l_Pile_is_due_beneath => k_is)
    (case c_Pile_is_due_beneath => k_is)
    (case k_Pile_is_due_beneath => k_is)
    (case a_Pile_grade_on_top => k_is)
    (case i_Pile_grade_on_top => k_is)
    (case l_Pile_grade_on_top => k_is)
    (case c_Pile_grade_on_top => k_is)
    (case k_Pile_grade_on_top => k_is)
    (case a_Pile_join_two => k_is)
    (case i_Pile_join_two => k_is)
    (case l_Pile_join_two => k_is)
    (case c_Pile_join_two => k_is)
    (case k_Pile_join_two => k_is)
    (case a_Pile_lay => k_is)
    (case i_Pile_lay => k_is)
    (case l_Pile_lay => k_is)
    (case c_Pile_lay => k_is)
    (case k_Pile_lay => k_is)
    (case a_Pile_step => k_is)
    (case i_Pile_step => k_is)
    (case l_Pile_step => k_is)
    (case c_Pile_step => k_is)
    (case k_Pile_step => k_is)
    (case a_Pile_paper => k_is)
    (case i_Pile_paper => k_is)
    (case l_Pile_paper => k_is)
    (case c_Pile_paper => k_is)
    (case k_Pile_paper => k_is)
    (case a_Asker => k_is)
    (case pg_Asker => k_is)
    (case hd_Asker => k_is)
    (case po_Asker => k_is)
    (case sa_Asker => k_is)
    (case mk_Asker => k_is)
    (case kc_Asker => k_is)
    (case n_Asker_row => k_is)
    (case n_Asker_rule => k_is)
    (case n_Asker_most => k_is)
    (case n_Asker_asked => k_is)
    (case n_Asker_told => k_is)
    (case a_Asker_init => k_is)
    (case i_Asker_init => k_is)
    (case l_Asker_init => k_is)
    (case c_Asker_init => k_is)
    (case d_Asker_init => k_is)
    (case k_Asker_init => k_is)
    (case a_Asker_many => k_is)
    (case i_Asker_many => k_is)
    (case l_Asker_many => k_is)
    (case c_Asker_many => k_is)
    (case k_Asker_many => k_is)
    (case a_Asker_ahead => k_is)
    (case i_Asker_ahead => k_is)
    (case l_Asker_ahead => k_is)
    (case c_Asker_ahead => k_is)
    (case k_Asker_ahead => k_is)
    (case a_AskedRule => k_is)
    (case pg_AskedRule => k_is)
    (case hd_AskedRule => k_is)
    (case po_AskedRule => k_is)
    (case sa_AskedRule => k_is)
    (case mk_AskedRule => k_is)
    (case kc_AskedRule => k_is)
    (case n_AskedRule_teller => k_is)
    (case a_AskedRule_init => k_is)
    (case i_AskedRule_init => k_is)
    (case l_AskedRule_init => k_is)
    (case c_AskedRule_init => k_is)
    (case k_AskedRule_init => k_is)
    (case a_AskedRule_before => k_is)
    (case i_AskedRule_before => k_is)
    (case l_AskedRule_before => k_is)
    (case c_AskedRule_before => k_is)
    (case k_AskedRule_before => k_is)
    (case a_stretch_from => k_is)
    (case l_stretch_from => k_is)
    (case c_stretch_from => k_is)
    (case d_stretch_from => k_is)
    (case k_stretch_from => k_is)
    (case a_in_turn => k_is)
    (case l_in_turn => k_is)
    (case c_in_turn => k_is)
    (case k_in_turn => k_is)
    (case a_spot_of => k_is)
    (case l_spot_of => k_is)
    (case c_spot_of => k_is)
    (case k_spot_of => k_is)
    (case a_filled => k_is)
    (case l_filled => k_is)
    (case c_filled => k_is)
    (case d_filled => k_is)
    (case k_filled => k_is)
    (case a_leap => k_is)
    (case l_leap => k_is)
    (case c_leap => k_is)
    (case k_leap => k_is)
    (case a_joined => k_is)
    (case l_joined => k_is)
    (case c_joined => k_is)
    (case k_joined => k_is)
    (case a_grade => k_is)
    (case l_grade => k_is)
    (case c_grade => k_is)
    (case k_grade => k_is)
    (case a_cell_at => k_is)
    (case l_cell_at => k_is)
    (case c_cell_at => k_is)
    (case k_cell_at => k_is)
    (case a_blocks => k_is)
    (case l_blocks => k_is)
    (case c_blocks => k_is)
    (case k_blocks => k_is)
    (case a_keys_by => k_is)
    (case l_keys_by => k_is)
    (case c_keys_by => k_is)
    (case k_keys_by => k_is)
    (case a_row_by => k_is)
    (case l_row_by => k_is)
    (case c_row_by => k_is)
    (case k_row_by => k_is)
    (case a_part_by => k_is)
    (case l_part_by => k_is)
    (case c_part_by => k_is)
    (case k_part_by => k_is)
    (case a_beside => k_is)
    (case l_beside => k_is)
    (case c_beside => k_is)
    (case k_beside => k_is)
    (case a_law => k_is)
    (case l_law => k_is)
    (case c_law => k_is)
    (case k_law => k_is)
    (case a_teller => k_is)
    (case l_teller => k_is)
    (case c_teller => k_is)
    (case lc_teller => k_is)
    (case tp_teller => rfl)
    (case k_teller => k_is)
    (case z_LEFT => k_is)
    (case z_RIGHT => k_is)
    (case z_WINS_TO_LEAP => k_is)
    (case z_len => k_is)
    (case z_range => k_is)
    (case z_list => k_is)
    (case z_max => k_is)
    (case z_min => k_is)
    (case z_abs => k_is)
    (case z_sorted => k_is)
    (case z_ValueError => k_is)
    (case kit_int_bool => kit_is)
    (case nt => kernel_rfl)
