import PyProof.Rows.All
import Wide.All
import OpenK.AllK
import Wide.FinOn
import Lean
import PyProof.EqAt
import PyProof.EqKinds
import PyProof.TupleCall
import KE.KRevIter
import PyProof.CollectIter
import PyProof.SumWalkG
import KE.KDictOf
import PyProof.IsiH_list
import PyProof.RaisesAny
import PyProof.P3In
import PyProof.Rows.SortRuns
import PyProof.Rows.SortShell
import KE.KSortTup
import PySem.Challenge.RW_sorthall_k69_whole_asks_by_the_tree
set_option Elab.async false
set_option linter.all false
set_option maxRecDepth 100000
open List renaming length_map → yAA, getElem?_eq_getElem → yAC, length_append → yAD, getElem?_map → yAG, mem_cons → yAH, mem_cons_self → yAI, getElem?_eq_some_iff → yAJ, mem_singleton → yAK, mem_of_getElem? → yAM, size_toArray → yAO, map_cons → yAP, map_append → yAQ, length_cons → yAR, mem_cons_of_mem → yAS, length_take → yAT, getElem?_append_right → yAU, getElem?_append_left → yAV, mem_append_right → yAY, append_nil → yAZ, append_assoc → yBA, mem_append → yBB, getElem?_eq_none → yBE, mem_map → yBF, length_drop → yBH, take_of_length_le → yBI, filter_cons_of_neg → yBK, getD_eq_getElem?_getD → yBL, not_mem_nil → yBM, length_singleton → yBN, filter_append → yBO, nil_append → yBP, sum_cons → yBR, filter_cons_of_pos → yBT, mem_filter → yBV, mem_append_left → yBX, length_replicate → yBY, length_reverse → yBZ, take_add_one → yCB, length_filter_le → yCC, lookup_cons → yCE, getElem?_of_mem → yCG, length_nil → yCH, drop_eq_getElem_cons → yCJ, nodup_cons → yCL, getElem?_replicate → yCM, extract_eq_drop_take → yCO, getElem_of_mem → yCP, length_set → yCQ, any_cons → yCR, getElem_mem → yCT, find?_cons → yCU, take_append_drop → yCV, perm_append_comm → yCW, filter_nil → yCX, getElem?_set → yCY
open Nat renaming le_refl → yAB, le_trans → yAE, zero_le → yAF, ne_of_lt → yAL, lt_of_lt_of_le → yAW, le_succ → yBC, lt_irrefl → yBG, sub_self → yBJ, le_of_lt → yBW, add_zero → yCA, lt_succ_self → yCD, zero_add → yCK, add_sub_cancel → yCZ
open Array renaming length_toList → yAN, getElem?_toList → yBD, toList_append → yBS, getElem?_eq_some_iff → yCI, toList_extract → yCN
open Bool renaming false_ne_true → yAX, and_eq_true → yBQ, false_eq_true → yCS
open Option renaming map_eq_some_iff → yBU, map_some → yCF
namespace L2
open PySem PySem.W
theorem left_boot {p q : Program} {loose : List Str} {Xt : Shared -> Bool} {α : Type} {Yf : Shared -> α} {Ya : World -> α} {N : Nat} {g0 : Bool}
    (open_ : ∀ w : World, (fencedOpening treeTable p w N).map (fun s => (s.heap, s.gens, s.drawn, s.toks)) = some (boot_heap w.params, Array.mk [], boot_drawn, boot_toks))
    (h : ∀ (w : World) (os : OsState), (topFrom treeTable p w N ⟨boot_heap w.params, Array.mk [], boot_drawn, boot_toks, os⟩).map (fun s => (openSeen q loose (importedModules p.main.body) Xt g0 s, Yf s)) = some (openGood q loose, Ya w)) : LeftO p q loose Xt Yf Ya N g0 := fun w => by
  obtain ⟨⟨hh, gs, d, k, os⟩, e, e'⟩ := yBU.mp (open_ w)
  obtain ⟨rfl, rfl, rfl, rfl⟩ : hh = boot_heap w.params /\ gs = Array.mk [] /\ d = boot_drawn /\ k = boot_toks := by simpa using e'
  unfold openEnds
  rw [e]
  exact h w os
theorem left_two {p q : Program} {loose : List Str} {Xt : Shared -> Bool} {α : Type} {Yf : Shared -> α} {Ya : World -> α} {N : Nat} {g0 : Bool}
    (open_ : ∀ w : World, (fencedOpening treeTable p w N).map (fun s => (s.heap, s.gens, s.drawn, s.toks)) = some (boot_heap w.params, Array.mk [], boot_drawn, boot_toks))
    (h1 : ∀ (w : World) (os : OsState), (topFrom treeTable p w N ⟨boot_heap w.params, Array.mk [], boot_drawn, boot_toks, os⟩).map (fun s => openSeen q loose (importedModules p.main.body) Xt g0 s) = some (openGood q loose))
    (h2 : ∀ (w : World) (os : OsState), (topFrom treeTable p w N ⟨boot_heap w.params, Array.mk [], boot_drawn, boot_toks, os⟩).map (fun s => Yf s) = some (Ya w)) : LeftO p q loose Xt Yf Ya N g0 :=
  left_boot open_ fun w os => by
    have a := h1 w os
    have b := h2 w os
    generalize topFrom treeTable p w N ⟨boot_heap w.params, Array.mk [], boot_drawn, boot_toks, os⟩ = r at a b
    cases r with
    | none => cases a
    | some s => exact congrArg some (Prod.ext (Option.some.inj a) (Option.some.inj b))
def vw (p : Program) (ix : List Nat) : Program := { p with main := { p.main with body := ix.filterMap fun i => p.main.body[i]? } }
def Vw : Program := vw PySem.Challenge.pw_sorthall_k69_whole_asks_by_the_tree [0, 2, 3, 4, 6, 7, 9, 11, 12, 14, 15, 16, 17, 18, 19, 20, 21, 22, 23, 24, 25, 26, 27]
set_option maxHeartbeats 0 in
theorem seen1 : ∀ (w : World) (os : OsState), (topFrom treeTable PySem.Challenge.pw_sorthall_k69_whole_asks_by_the_tree w 5356 ⟨boot_heap w.params, Array.mk [], boot_drawn, boot_toks, os⟩).map (fun s => openSeen L2.Vw [] (importedModules PySem.Challenge.pw_sorthall_k69_whole_asks_by_the_tree.main.body) (fun s => xlAt L2.Vw [] s && recOk (RowW.records (OpenRow.toRowW (OpenLaw.row PySem.Challenge.rw_sorthall_k69_whole_asks_by_the_tree))) s) true s) = some (openGood L2.Vw []) := by
  intro w os
  kernel_rfl
set_option hygiene false in
local macro_rules | `(tactic| o_head $H) => `(tactic| (refine holds_open (q := L2.Vw) (loose := []) (Xt := fun s => xlAt L2.Vw [] s && recOk (RowW.records _) s) (XP := XL L2.Vw []) (Yf := Hook.obs $H) (Ya := Hook.val $H) (YP := Hook.says $H) (N := 5356) ?hl (Hook.of $H) (Hook.keeps $H) (fun s e => xl_of s (Bool.and_eq_true_iff.mp e).1) XL.keeps (by rfl) (by rfl) (by rfl) (fun s e => recFacts_of (Bool.and_eq_true_iff.mp e).2) (by rfl) (by first | assumption | decide +kernel) (by decide +kernel) ⟨rfl, rfl, rfl, rfl, rfl, by decide +kernel⟩ ?hw ?hc; (case hl => (refine L2.left_two (PySem.W.boot_open (by rfl) (by decide) (fun s => rfl)) (fun w os => ?h1) (fun w os => ?h2); (case h1 => exact L2.seen1 w os); (case h2 => kernel_rfl)))))
set_option maxHeartbeats 0 in
open_top hd0 for PySem.Challenge.rw_sorthall_k69_whole_asks_by_the_tree
end L2
-- CHANGE: your row's module here, as the last of these rows
namespace L2
open PySem PySem.Spec PyProof.Rows
abbrev Key := Sum Int Str
def ZEA : Key -> Value -> Bool
  | .inl k, v => Value.isInt k v
  | .inr x, v => Value.isStrOf x v
def keyH (w : World) : Key -> Int
  | .inl k => hashInt k
  | .inr x => hashStr w x
theorem ZAv : ∀ {k : Key} {v : Value}, ZEA k v = true -> (∃ i t, k = Sum.inl i /\ v = Value.int i t) ∨ (∃ x t, k = Sum.inr x /\ v = Value.str x t)
  | .inl i, v, h => by
    obtain ⟨t, e⟩ := Value.isInt_shape (k := i) (v := v) h
    exact .inl ⟨i, t, rfl, e⟩
  | .inr x, v, h => by
    obtain ⟨t, e⟩ := Value.isStrOf_shape (x := x) (v := v) h
    exact .inr ⟨x, t, rfl, e⟩
theorem keyIs_int (i : Int) (t : Tok) : ZEA (.inl i) (.int i t) = true := by simp [ZEA, Value.isInt]
theorem keyIs_str (x : Str) (t : Tok) : ZEA (.inr x) (.str x t) = true := by simp [ZEA, Value.isStrOf]
theorem key_ll (a b : Int) : decide ((Sum.inl a : Key) = Sum.inl b) = (a == b) := by
  by_cases e : a = b
  . subst e; simp
  . have h : ¬ (Sum.inl a : Key) = Sum.inl b := fun q => e (Sum.inl.inj q)
    rw [decide_eq_false h]
    exact (beq_eq_false_iff_ne.mpr e).symm
theorem key_rr (a b : Str) : decide ((Sum.inr a : Key) = Sum.inr b) = decide (a = b) := by
  by_cases e : a = b
  . subst e; simp
  . have h : ¬ (Sum.inr a : Key) = Sum.inr b := fun q => e (Sum.inr.inj q)
    rw [decide_eq_false h, decide_eq_false e]
theorem key_lr (a : Int) (b : Str) : decide ((Sum.inl a : Key) = Sum.inr b) = false := decide_eq_false (fun q => nomatch q)
theorem key_rl (a : Str) (b : Int) : decide ((Sum.inr a : Key) = Sum.inl b) = false := decide_eq_false (fun q => nomatch q)
def ZAT (prog : Program) (w : World) : PySem.KeyKind prog w Key where
  is := ZEA
  hash := keyH w
  inj := fun v a b ha hb => by
    rcases ZAv ha with ⟨i, t, rfl, rfl⟩ | ⟨x, t, rfl, rfl⟩
    . rcases ZAv hb with ⟨j, u, rfl, e⟩ | ⟨y, u, rfl, e⟩
      . injection e with e1 _; rw [e1]
      . exact nomatch e
    . rcases ZAv hb with ⟨j, u, rfl, e⟩ | ⟨y, u, rfl, e⟩
      . exact nomatch e
      . injection e with e1 _; rw [e1]
  byValue := fun k v h => by
    rcases ZAv h with ⟨i, t, rfl, rfl⟩ | ⟨x, t, rfl, rfl⟩ <;> rfl
  pyHash := fun hv h => by
    rcases ZAv hv with ⟨i, t, rfl, rfl⟩ | ⟨x, t, rfl, rfl⟩
    . exact wpAny_pyHash_int h
    . exact wpAny_pyHash_str h
  eqBool := fun hu hv h => by
    rcases ZAv hu with ⟨i, t, rfl, rfl⟩ | ⟨x, t, rfl, rfl⟩
    . rcases ZAv hv with ⟨j, u, rfl, rfl⟩ | ⟨y, u, rfl, rfl⟩
      . rw [key_ll] at h; exact wpAny_eqBool_int h
      . rw [key_lr] at h; exact SeqAt.EqAt.int_str i t y u _ _ _ _ h
    . rcases ZAv hv with ⟨j, u, rfl, rfl⟩ | ⟨y, u, rfl, rfl⟩
      . rw [key_rl] at h; exact SeqAt.EqAt.str_int x t j u _ _ _ _ h
      . rw [key_rr] at h; exact wpAny_eqBool_str h
  «strs» := fun k x t v h => by
    rcases ZAv h with ⟨i, u, rfl, e⟩ | ⟨y, u, rfl, e⟩
    . exact nomatch e
    . injection e with e1 _
      subst e1
      cases v <;> rfl
theorem mixKind_int (prog : Program) (w : World) (i : Int) (t : Tok) : (ZAT prog w).is (.inl i) (.int i t) = true := keyIs_int i t
theorem mixKind_str (prog : Program) (w : World) (x : Str) (t : Tok) : (ZAT prog w).is (.inr x) (.str x t) = true := keyIs_str x t
inductive V where
  | non | bl (b : Bool) | int (i : Int) | str (x : Str) | byt (b : Array UInt8) | flt (b : UInt64) | ref (a : Addr) | ty (n : String)
  deriving DecidableEq
def RelV : V -> Value -> Prop
  | .non, u => u = Value.none
  | .bl b, u => u = Value.bool b
  | .int i, u => ∃ t, u = Value.int i t
  | .str x, u => ∃ t, u = Value.str x t
  | .byt b, u => ∃ t, u = Value.bytes b t
  | .flt b, u => ∃ t, u = Value.float b t
  | .ref a, u => u = Value.ref a
  | .ty n, u => u = Value.type n
abbrev Vals : List V -> List Value -> Prop := Paired RelV
theorem Vals.length {xs : List V} {us : List Value} (r : Vals xs us) : xs.length = us.length := Paired.length r
theorem Vals.get : ∀ {xs : List V} {us : List Value} {i : Nat} {x : V}, Vals xs us -> xs[i]? = some x -> ∃ u, us[i]? = some u /\ RelV x u
  | _, _, _, _, .nil, e => by simp at e
  | _, _, 0, _, .cons r _, e => by simp at e; subst e; exact ⟨_, rfl, r⟩
  | _, _, i + 1, x, .cons _ t, e => by
    obtain ⟨u, h1, h2⟩ := Vals.get (i := i) (x := x) t (by simpa using e)
    exact ⟨u, by simpa using h1, h2⟩
theorem Vals.set {x : V} {u : Value} (r : RelV x u) : ∀ {xs : List V} {us : List Value} (i : Nat), Vals xs us -> Vals (xs.set i x) (us.set i u)
  | _, _, _, .nil => .nil
  | _, _, 0, .cons _ t => .cons r t
  | _, _, i + 1, .cons q t => .cons q (Vals.set r i t)
theorem Vals.append : ∀ {xs ys : List V} {us ws : List Value}, Vals xs us -> Vals ys ws -> Vals (xs ++ ys) (us ++ ws)
  | _, _, _, _, .nil, s => s
  | _, _, _, _, .cons r t, s => .cons r (Vals.append t s)
theorem Vals.take : ∀ {xs : List V} {us : List Value} (n : Nat), Vals xs us -> Vals (xs.take n) (us.take n)
  | _, _, 0, _ => .nil
  | _, _, _ + 1, .nil => .nil
  | _, _, n + 1, .cons r t => .cons r (Vals.take n t)
theorem Vals.drop : ∀ {xs : List V} {us : List Value} (n : Nat), Vals xs us -> Vals (xs.drop n) (us.drop n)
  | _, _, 0, r => r
  | _, _, _ + 1, .nil => .nil
  | _, _, n + 1, .cons _ t => Vals.drop n t
def RelO : Option V -> Option Value -> Prop
  | some v, some u => RelV v u
  | none, none => True
  | _, _ => False
def KV {κ : Type} : List (κ × V) -> List (κ × Value) -> Prop := Paired fun (p : κ × V) (q : κ × Value) => p.1 = q.1 /\ RelV p.2 q.2
def kV : Key -> V
  | .inl i => .int i
  | .inr x => .str x
inductive HO where
  /-- a list -/
  | lst (xs : List V)
  /-- a tuple (never changes) -/
  | tup (xs : List V)
  /-- a dict whose keys are ints and texts; one whose keys are tuples of ints and texts (the empty one is both) -/
  | dK (kvs : List (Key × V)) | dT (kvs : List (List Key × V))
  /-- a set of ints: its members, its size -/
  | set (S : Int -> Bool) (n : Nat)
  /-- an instance of the class at C, its dict at dx, its attributes -/
  | ins (C dx : Addr) (fs : List (Str × V))
  /-- the dict of the instance at x -/
  | own (x : Addr)
  /-- the dict of an exception -/
  | xd (fs : List (Str × V))
  /-- a bound method, f of x -/
  | met (f x : Addr)
  /-- a range object lo, lo + 1, .. below hi -/
  | rng (lo hi : Int)
  /-- a thing that is known to the object (the script; a dict while a loop walks it): read, never written while it is so -/
  | frz (o : Obj) (u : HO)
  /-- a code object's table -/
  | tbl (ps : Array Value)
  /-- any other thing, by what is true of its one object (a def of one's own: SetO a S n := HO.ext fun h => ..) -/
  | ext (φ : Heap -> Prop)
abbrev Hp := Addr -> Option HO
def upd (H : Hp) (a : Addr) (o : HO) : Hp := fun b => if b = a then some o else H b
theorem ZAG {H : Hp} {a : Addr} {o : HO} : upd H a o a = some o := by unfold upd; rw [if_pos rfl]
theorem ZAI {H : Hp} {a b : Addr} {o : HO} (h : b ≠ a) : upd H a o b = H b := by unfold upd; rw [if_neg h]
theorem ZDe {H : Hp} {a : Addr} {o u : HO} : upd (upd H a o) a u = upd H a u := by
  funext b; unfold upd; split <;> rfl
theorem ne_of {H : Hp} {a b : Addr} {o u : HO} (h : H a = some o) (h' : H b = some u) (d : o ≠ u) : a ≠ b := by
  intro e; subst e; rw [h] at h'; exact d (Option.some.inj h')
theorem ZAE {H : Hp} {a b : Addr} {o : HO} (h : H a = some o) (h' : H b = none) : a ≠ b := by
  intro e; subst e; rw [h] at h'; cases h'
section
variable (P : Program) (w : World)
def ObjOk (H : Hp) (h : Heap) (a : Addr) : HO -> Prop
  | .lst xs => xs.length <= sizeLine /\ ∃ (its : List Value) (n : Nat), Vals xs its /\ h.get? a = some { cls := .type "list", data := .seq its.toArray n }
  | .tup xs => xs.length <= sizeLine /\ ∃ its : List Value, Vals xs its /\ IsTup h a its.toArray
  | .dK kvs => kvs.length <= sizeLine /\ (a == sysModules) = false /\ ∃ vs, KV kvs vs /\ h.DictOf (ZAT P w) a vs
  | .dT kvs => kvs.length <= sizeLine /\ (a == sysModules) = false /\ ∃ xs : List (List Key × Addr × Value),
      Paired (fun (p : List Key × V) (q : List Key × Addr × Value) => p.1 = q.1 /\ H q.2.1 = some (.tup (p.1.map kV)) /\ RelV p.2 q.2.2) kvs xs /\
      ∃ o es ep, h.get? a = some o /\ o.ExactDict /\ o.data = .dict es ep /\ es.toList = xs.map (entryOfKey (tupleKind (ZAT P w))) /\ (xs.map (·.1)).Nodup
  | .set S n => h.SetOf (intKind P w) a S n
  | .ins C dx fs => H dx = some (.own a) /\ fs.length <= 1000 /\ dx ≠ a /\ h.get? a = some (PySem.W.instObj C dx) /\
      ∃ mA, h.Ns1 dx mA /\ (∀ f, RelO (fs.lookup f) (mA f)) /\ PySem.Within mA (fs.map (·.1))
  | .own _ => ∃ o, h.get? a = some o
  | .xd fs => ∃ mA, h.Ns1 a mA /\ ∀ f, RelO (fs.lookup f) (mA f)
  | .rng lo hi => ∃ t u v, h.get? a = some { cls := .type "range", data := .fields #[.int lo t, .int hi u, .int 1 v] }
  | .frz o u => h.get? a = some o /\ ObjOk H h a u
  | .tbl ps => h.get? a = some { cls := .none, data := .fields ps }
  | .met f x => h.get? a = some (PySem.W.methodObj (.ref f) (.ref x))
  | .ext φ => φ h /\ (∃ o, h.get? a = some o) /\ ∀ h1 h2 : Heap, φ h1 -> (∀ o, h1.get? a = some o -> h2.get? a = some o) -> φ h2
def HOk (H : Hp) (h : Heap) : Prop := ∀ a o, H a = some o -> ObjOk P w H h a o
end
section
variable {P : Program} {w : World} {H H' : Hp} {h h' : Heap} {a : Addr} {o : HO}
theorem ObjOk.lt (x : ObjOk P w H h a o) : a < h.objs.size := by
  cases o with
  | lst xs => obtain ⟨_, _, _, _, e⟩ := x; exact Heap.lt_size e
  | tup xs => obtain ⟨_, _, _, p⟩ := x; exact p.lt
  | dK kvs => obtain ⟨_, _, _, _, o, _, _, e, _⟩ := x; exact Heap.lt_size e
  | dT kvs => obtain ⟨_, _, _, _, o, _, _, e, _⟩ := x; exact Heap.lt_size e
  | set S n => obtain ⟨o, _, _, _, e, _⟩ := x; exact Heap.lt_size e
  | ins C dx fs => obtain ⟨_, _, _, e, _⟩ := x; exact Heap.lt_size e
  | own y => obtain ⟨_, e⟩ := x; exact Heap.lt_size e
  | xd fs => obtain ⟨_, ⟨_, _, _, e, _⟩, _⟩ := x; exact Heap.lt_size e
  | rng lo hi => obtain ⟨_, _, _, e⟩ := x; exact Heap.lt_size e
  | frz ob u => obtain ⟨e, _⟩ := x; exact Heap.lt_size e
  | tbl ps => exact Heap.lt_size (show h.get? a = some _ from x)
  | met f y => exact Heap.lt_size (show h.get? a = some _ from x)
  | ext φ => obtain ⟨_, ⟨_, e⟩, _⟩ := x; exact Heap.lt_size e
theorem Paired.mapP {α β : Type} {F G : α -> β -> Prop} : ∀ {l₁ : List α} {l₂ : List β}, Paired F l₁ l₂ -> (∀ a b, F a b -> G a b) -> Paired G l₁ l₂
  | _, _, .nil, _ => .nil
  | _, _, .cons r t, f => .cons (f _ _ r) (Paired.mapP t f)
theorem ObjOk.stay (x : ObjOk P w H h a o) (k : ∀ b u, (b = a ∨ H b = some (.own a)) -> h.get? b = some u -> h'.get? b = some u)
    (ho : ∀ b, H b = some (.own a) -> H' b = some (.own a)) (ht : ∀ b xs, H b = some (.tup xs) -> H' b = some (.tup xs)) : ObjOk P w H' h' a o := by
  induction o with
  | lst xs => obtain ⟨z, its, n, r, e⟩ := x; exact ⟨z, its, n, r, k _ _ (.inl rfl) e⟩
  | tup xs => obtain ⟨z, its, r, ob, e, c⟩ := x; exact ⟨z, its, r, ob, k _ _ (.inl rfl) e, c⟩
  | dK kvs => obtain ⟨z, y, vs, r, ob, es, ep, e, c⟩ := x; exact ⟨z, y, vs, r, ob, es, ep, k _ _ (.inl rfl) e, c⟩
  | dT kvs =>
    obtain ⟨z, y, xs, r, ob, es, ep, e, c⟩ := x
    exact ⟨z, y, xs, Paired.mapP r fun p q z => ⟨z.1, ht _ _ z.2.1, z.2.2⟩, ob, es, ep, k _ _ (.inl rfl) e, c⟩
  | set S n => obtain ⟨ob, es, ep, t, e, c⟩ := x; exact ⟨ob, es, ep, t, k _ _ (.inl rfl) e, c⟩
  | ins C dx fs =>
    obtain ⟨d, z, ne, e, mA, ⟨od, es, ep, e2, c⟩, r⟩ := x
    exact ⟨ho _ d, z, ne, k _ _ (.inl rfl) e, mA, ⟨od, es, ep, k _ _ (.inr d) e2, c⟩, r⟩
  | own y => obtain ⟨ob, e⟩ := x; exact ⟨ob, k _ _ (.inl rfl) e⟩
  | xd fs => obtain ⟨mA, ⟨od, es, ep, e, c⟩, r⟩ := x; exact ⟨mA, ⟨od, es, ep, k _ _ (.inl rfl) e, c⟩, r⟩
  | rng lo hi => obtain ⟨t, u, v, e⟩ := x; exact ⟨t, u, v, k _ _ (.inl rfl) e⟩
  | frz ob u ih => obtain ⟨e, q⟩ := x; exact ⟨k _ _ (.inl rfl) e, ih q⟩
  | tbl ps =>
    have e : h.get? a = some { cls := .none, data := .fields ps } := x
    show h'.get? a = some { cls := .none, data := .fields ps }
    exact k a _ (.inl rfl) e
  | met f y =>
    have e : h.get? a = some (PySem.W.methodObj (.ref f) (.ref y)) := x
    show h'.get? a = some (PySem.W.methodObj (.ref f) (.ref y))
    exact k a _ (.inl rfl) e
  | ext φ => obtain ⟨p, ⟨o, e⟩, st⟩ := x; exact ⟨st _ _ p fun o q => k _ _ (.inl rfl) q, ⟨o, k _ _ (.inl rfl) e⟩, st⟩
theorem HOk.lt (x : HOk P w H h) (e : H a = some o) : a < h.objs.size := (x a o e).lt
theorem HOk.fresh (x : HOk P w H h) (e : h.objs.size <= a) : H a = none := by
  cases q : H a with
  | none => rfl
  | some u => exact absurd (yAW (x.lt q) e) (yBG _)
theorem HOk.kept (x : HOk P w H h) (k : ∀ b u, h.get? b = some u -> h'.get? b = some u) : HOk P w H h' := fun a o e =>
  (x a o e).stay (fun b u _ q => k b u q) (fun _ q => q) fun _ _ q => q
theorem HOk.laid (x : HOk P w H h) (k : ∀ b u, h.get? b = some u -> h'.get? b = some u) (hp : h.objs.size <= a) (new : ObjOk P w (upd H a o) h' a o) : HOk P w (upd H a o) h' := fun b u e => by
  have hn := x.fresh hp
  by_cases hb : b = a
  . subst hb; rw [ZAG] at e; cases e; exact new
  . rw [ZAI hb] at e
    exact (x b u e).stay (fun c v _ q => k c v q) (fun c q => by rw [ZAI (ZAE q hn)]; exact q) fun c xs q => by rw [ZAI (ZAE q hn)]; exact q
end
def Rd (H : Hp) (a : Addr) (u : HO) : Prop := H a = some u ∨ ∃ o, H a = some (.frz o u)
theorem Rd.ok {P : Program} {w : World} {H : Hp} {h : Heap} {a : Addr} {u : HO} (r : Rd H a u) (x : HOk P w H h) : ObjOk P w H h a u := by
  rcases r with r | ⟨o, r⟩
  . exact x a u r
  . obtain ⟨_, q⟩ := x a _ r
    exact q
def Mut : Option HO -> Prop
  | some (.lst _) => True
  | some (.dK _) => True
  | some (.dT _) => True
  | some (.set _ _) => True
  | some (.ins _ _ _) => True
  | some (.ext _) => True
  | _ => False
section
variable {P : Program} {w : World} {H : Hp} {h h' : Heap} {x e : Addr} {o' : HO}
theorem HOk.write (ok : HOk P w H h) (mu : Mut (H x)) (he : e = x ∨ H e = some (.own x)) (k : ∀ b u, b ≠ e -> h.get? b = some u -> h'.get? b = some u) (heo : ∃ u, h'.get? e = some u)
    (new : ObjOk P w (upd H x o') h' x o') : HOk P w (upd H x o') h' := fun b u q => by
  have nown : ∀ c y, H c = some (.own y) -> c ≠ x := fun c y r z => by subst z; rw [r] at mu; exact mu
  have ntup : ∀ c xs, H c = some (.tup xs) -> c ≠ x := fun c xs r z => by subst z; rw [r] at mu; exact mu
  by_cases hb : b = x
  . subst hb; rw [ZAG] at q; cases q; exact new
  . rw [ZAI hb] at q
    by_cases hbe : b = e
    . have q' : H b = some (.own x) := by
        rcases he with z | z
        . exact absurd (hbe.trans z) hb
        . rw [hbe]; exact z
      rw [q] at q'; cases q'
      obtain ⟨v, hv⟩ := heo
      exact ⟨v, by rw [hbe]; exact hv⟩
    . refine (ok b u q).stay (fun c v hc r => k c v ?_ r) (fun c r => by rw [ZAI (nown c b r)]; exact r) fun c xs r => by rw [ZAI (ntup c xs r)]; exact r
      rcases hc with rfl | hc
      . exact hbe
      . rintro rfl
        rcases he with z | z
        . exact nown c b hc z
        . rw [hc] at z; cases z; exact hb rfl
end
structure Un (fs ex : List Addr) (H H' : Hp) (h h' : Heap) : Prop where
  keep : ∀ b o, h.get? b = some o -> H b = none -> b ∉ fs -> b ∉ ex -> h'.get? b = some o
  slot : ∀ b o, h.get? b = some o -> H b = none -> b ∈ fs -> b ∉ ex -> ∃ sl, h'.get? b = some { o with slots := sl }
  free : ∀ b o, h.get? b = some o -> H b = none -> b ∉ ex -> H' b = none
  there : ∀ b o, h.get? b = some o -> b ∉ ex -> ∃ o', h'.get? b = some o'
  tups : ∀ b xs, H b = some (.tup xs) -> H' b = some (.tup xs)
  frzs : ∀ b o u, H b = some (.frz o u) -> H' b = some (.frz o u)
  tbls : ∀ b ps, H b = some (.tbl ps) -> ∃ more, H' b = some (.tbl (ps ++ more))
section
variable {fs fs' ex ex' : List Addr} {H H1 H2 : Hp} {h h1 h2 h' : Heap} {a x e : Addr} {o : HO}
theorem Un.any (u : Un fs ex H H1 h h1) {b : Addr} {ob : Obj} (q : h.get? b = some ob) (n : H b = none) (hx : b ∉ ex) : ∃ sl, h1.get? b = some { ob with slots := sl } := by
  by_cases hb : b ∈ fs
  . exact u.slot b ob q n hb hx
  . exact ⟨ob.slots, u.keep b ob q n hb hx⟩
theorem Un.kept (k : ∀ b u, h.get? b = some u -> h'.get? b = some u) : Un fs ex H H h h' :=
  ⟨fun b ob q _ _ _ => k b ob q, fun b ob q _ _ _ => ⟨ob.slots, k b ob q⟩, fun _ _ _ n _ => n, fun b ob q _ => ⟨ob, k b ob q⟩, fun _ _ q => q, fun _ _ _ q => q, fun _ ps q => ⟨#[], by rw [q]; simp⟩⟩
theorem Un.refl : Un fs ex H H h h := Un.kept fun _ _ q => q
theorem Un.laid (k : ∀ b u, h.get? b = some u -> h'.get? b = some u) (hp : h.objs.size <= a) (hn : H a = none) : Un fs ex H (upd H a o) h h' where
  keep := fun b u q _ _ _ => k b u q
  slot := fun b u q _ _ _ => ⟨u.slots, k b u q⟩
  free := fun b u q n _ => by rw [ZAI (yAL (yAW (Heap.lt_size q) hp))]; exact n
  there := fun b u q _ => ⟨u, k b u q⟩
  tups := fun b xs q => by rw [ZAI (ZAE q hn)]; exact q
  frzs := fun b u xs q => by rw [ZAI (ZAE q hn)]; exact q
  tbls := fun b ps q => ⟨#[], by rw [ZAI (ZAE q hn), q]; simp⟩
theorem Un.write (mu : Mut (H x)) (he : e = x ∨ H e = some (.own x)) (k : ∀ b u, b ≠ e -> h.get? b = some u -> h'.get? b = some u) (heo : ∃ u, h'.get? e = some u) : Un fs ex H (upd H x o) h h' := by
  have hx : ∀ b, H b = none -> b ≠ x := fun b n z => by subst z; rw [n] at mu; exact mu
  have hb : ∀ b, H b = none -> b ≠ e := fun b n z => by
    subst z
    rcases he with r | r
    . exact hx b n r
    . rw [n] at r; cases r
  have hm : ∀ b u, H b = some u -> ¬ Mut (some u) -> b ≠ x := fun b u q nm z => by subst z; rw [q] at mu; exact nm mu
  refine ⟨fun b u q n _ _ => k b u (hb b n) q, fun b u q n _ _ => ⟨u.slots, k b u (hb b n) q⟩, fun b u q n _ => by rw [ZAI (hx b n)]; exact n, fun b u q _ => ?_,
    fun b xs q => by rw [ZAI (hm b _ q fun z => z)]; exact q, fun b u xs q => by rw [ZAI (hm b _ q fun z => z)]; exact q, fun b ps q => ⟨#[], by rw [ZAI (hm b _ q fun z => z), q]; simp⟩⟩
  by_cases hbe : b = e
  . subst hbe; exact heo
  . exact ⟨u, k b u hbe q⟩
end
def trk (h : Heap) (H : Hp) : List Addr := (List.range h.objs.size).filter fun a => (H a).isSome
def hidT (h : Heap) (H : Hp) : Heap := PySem.W.hideAll h (trk h H)
theorem hidT_size (h : Heap) (H : Hp) : (hidT h H).objs.size = h.objs.size := PySem.W.hideAll_size _ _
theorem hidT_get {h : Heap} {H : Hp} {b : Addr} {o : Obj} (e : h.get? b = some o) (n : H b = none) : (hidT h H).get? b = some o :=
  PySem.W.hideAll_get _ e fun hm => by
    have q : (H b).isSome = true := (yBV.mp hm).2
    rw [n] at q; simp at q
theorem of_hidT {h : Heap} {H : Hp} {b : Addr} {o : Obj} (e : (hidT h H).get? b = some o) : h.get? b = some o /\ H b = none := by
  have e' : h.get? b = some o := PySem.W.of_hideAll (trk h H) e
  refine ⟨e', ?_⟩
  cases q : H b with
  | none => rfl
  | some x =>
    have hm : b ∈ trk h H := yBV.mpr ⟨List.mem_range.mpr (Heap.lt_size e'), by simp [q]⟩
    have z : (hidT h H).get? b = none := PySem.W.hideAll_none (trk h H) hm
    rw [z] at e; cases e
structure Mod (K : W.Frag) (mg : Str -> Option Value) (base : Heap) : Prop where
  kin : K.In base
  glob : base.Ns mainGlobals mg
  blt : ∃ mb, base.Ns builtinsNs mb /\ ∀ x : Str, x ≠ "__name__" -> mb x = bootBuiltins x
  nolimit : base.NoLimit
/-- the context: a def's body (or a comprehension's block) running. base: fixed through the whole law; s₀, H₀: the entry; outer: the frames whose slots others may change (a def's callers); stack: all frames that run;
   ex: iterators that were made ahead of the entry and are walked here (a comprehension's); fn: the names whose cells were made at the entry (a def: all; a comprehension's block: its own); calm: not within an except suite; pn: pins that every state bears; xe: what is wanted of an exception that leaves the code -/
structure Cx where
  prog : Program
  w : World
  K : W.Frag
  mg : Str -> Option Value
  base : Heap
  A : Around
  N : List Str
  s₀ : Shared
  H₀ : Hp
  env : Env
  outer : List Env
  stack : List Env
  ex : List Addr
  fn : Str -> Bool
  calm : Bool
  pn : List (Addr × Obj)
  xe : Value -> Shared -> Prop
def frs (l : List Env) : List Addr := l.filterMap (·.frame)
abbrev Cx.fs (X : Cx) : List Addr := frs X.outer
def Vis (sc : Scope) (x : Str) : Prop := sc.names.lookup x = some .local ∨ sc.names.lookup x = some .cell ∨ sc.names.lookup x = some .free
def Loc (sc : Scope) (x : Str) : Prop := sc.names.lookup x = some .local ∨ sc.names.lookup x = some .cell
def Look (env : Env) (h : Heap) (m : Str -> Option Value) (x : Str) (u : Value) : Prop :=
  (env.kindOf x = some .local /\ m x = some u) ∨ ((env.kindOf x = some .cell ∨ env.kindOf x = some .free) /\ ∃ c, env.cells.lookup x = some c /\ h.IsCell c (some u))
structure Cx.Ok (X : Cx) : Prop where
  mod : Mod X.K X.mg X.base
  kind : X.env.scope.kind = .function
  glob : X.env.globals = mainGlobals
  blt : X.env.builtins = builtinsNs
  above : X.s₀.heap.objs.size <= X.env.locals
  inj : ∀ x y c, X.env.cells.lookup x = some c -> X.env.cells.lookup y = some c -> x = y
  has : ∀ x, (X.env.kindOf x = some .cell ∨ X.env.kindOf x = some .free) -> ∃ c, X.env.cells.lookup x = some c
  cab : ∀ x c, X.fn x = true -> X.env.cells.lookup x = some c -> X.s₀.heap.objs.size <= c
  hd : X.calm = true -> X.A.handled = none
  frames : X.A.frames = some X.stack
  stk : X.stack = X.outer ∨ (X.stack = X.env :: X.outer /\ X.env.frame = some X.env.locals)
  exf : ∀ b ∈ X.ex, b ≠ X.env.locals /\ ∀ x c, X.env.cells.lookup x = some c -> c ≠ b
  bs : ∀ b o, X.base.get? b = some o -> X.s₀.heap.get? b = some o /\ X.H₀ b = none
  bsz : X.base.objs.size <= X.s₀.heap.objs.size
  noex : ∀ b o, X.base.get? b = some o -> b ∉ X.ex
  exfs : ∀ b ∈ X.ex, b ∉ X.fs
  funs : X.s₀.heap.FunFrames X.base X.outer
  frf : ∀ b ∈ X.fs, X.H₀ b = none
structure Inv (X : Cx) (pins : List (Addr × Obj)) (σ : List (Option V)) (H : Hp) (s : Shared) : Prop where
  ok : X.Ok
  os : s.os = X.s₀.os
  bare : AllBare s.gens
  base : Un X.fs X.ex X.H₀ H X.s₀.heap s.heap
  loc : ∃ m, s.heap.Ns X.env.locals m /\ ∀ (i : Nat) (x : Str) (v : V), X.N[i]? = some x -> σ[i]? = some (some v) -> Vis X.env.scope x -> ∃ u, RelV v u /\ Look X.env s.heap m x u
  cell : ∀ x c, X.env.cells.lookup x = some c -> ∃ v, s.heap.IsCell c v
  free : H X.env.locals = none
  freeC : ∀ x c, X.env.cells.lookup x = some c -> H c = none
  pin : ∀ p ∈ X.pn ++ pins, s.heap.get? p.1 = some p.2 /\ H p.1 = none /\ p.1 ≠ X.env.locals /\ p.1 ∉ X.fs /\ ∀ v, p.2.data ≠ .cell v
  hok : HOk X.prog X.w H s.heap
  len : σ.length = X.N.length
section
variable {X : Cx} {pins : List (Addr × Obj)} {σ : List (Option V)} {H H' : Hp} {s : Shared} {h' : Heap}
theorem Cx.Ok.nofr (ok : X.Ok) {b : Addr} {o : Obj} (e : X.base.get? b = some o) : b ∉ X.fs := fun hb => by
  have := (ok.funs.mem hb).1
  rw [e] at this; cases this
theorem Inv.bs (I : Inv X pins σ H s) : ∀ b o, X.base.get? b = some o -> s.heap.get? b = some o /\ H b = none := fun b o e =>
  ⟨I.base.keep b o (I.ok.bs b o e).1 (I.ok.bs b o e).2 (I.ok.nofr e) (I.ok.noex b o e), I.base.free b o (I.ok.bs b o e).1 (I.ok.bs b o e).2 (I.ok.noex b o e)⟩
theorem Inv.bk (I : Inv X pins σ H s) : ∀ b o, X.base.get? b = some o -> s.heap.get? b = some o := fun b o e => (I.bs b o e).1
theorem Inv.mod (I : Inv X pins σ H s) : Mod X.K X.mg X.base := I.ok.mod
theorem Inv.kIn (I : Inv X pins σ H s) : X.K.In s.heap := I.ok.mod.kin.keeps I.bk
theorem Inv.lt (I : Inv X pins σ H s) : X.env.locals < s.heap.objs.size := let ⟨_, hn, _⟩ := I.loc; hn.lt
theorem Inv.sz (I : Inv X pins σ H s) : X.s₀.heap.objs.size <= s.heap.objs.size := yAE I.ok.above (yBW I.lt)
theorem Inv.nofs (I : Inv X pins σ H s) {a : Addr} (h : s.heap.objs.size <= a) : a ∉ X.fs := fun hb => by
  obtain ⟨_, o, ho, _⟩ := I.ok.funs.mem hb
  exact absurd (yAW (Heap.lt_size ho) (yAE I.sz h)) (yBG _)
theorem Inv.cne (I : Inv X pins σ H s) : ∀ x c, X.env.cells.lookup x = some c -> c ≠ X.env.locals := fun x c e z => by
  obtain ⟨v, o, ho, hd⟩ := I.cell x c e
  obtain ⟨m, ⟨o', es, ep, ho', hd', _⟩, _⟩ := I.loc
  rw [z, ho'] at ho; cases ho; rw [hd'] at hd; cases hd
theorem Inv.funs (I : Inv X pins σ H s) : s.heap.FunFrames X.base X.outer := by
  have all : ∀ (l : List Env), (∀ b ∈ frs l, b ∈ X.fs) -> X.s₀.heap.FunFrames X.base l -> s.heap.FunFrames X.base l := by
    intro l
    induction l with
    | nil => intro _ _; trivial
    | cons env r ih =>
      intro hs hl
      obtain ⟨hk, ⟨L, o, hf, hn, ho, hd⟩, hr⟩ := hl
      have hL : L ∈ X.fs := hs L (by unfold frs; rw [List.filterMap_cons, hf]; exact yAI)
      obtain ⟨sl, e⟩ := I.base.slot L o ho (I.ok.frf L hL) hL fun z => I.ok.exfs L z hL
      exact ⟨hk, ⟨L, _, hf, hn, e, hd⟩, ih (fun b hb => hs b (by unfold frs; rw [List.filterMap_cons, hf]; exact yAS _ hb)) hr⟩
  exact all X.outer (fun _ hb => hb) I.ok.funs
theorem Inv.stack (I : Inv X pins σ H s) : s.heap.FunFrames X.base X.stack := by
  rcases I.ok.stk with e | ⟨e, hf⟩
  . rw [e]; exact I.funs
  . rw [e]
    obtain ⟨m, hn, _⟩ := I.loc
    refine .cons (by rw [I.ok.kind]; decide) hf hn ?_ I.funs
    exact Heap.get?_none_of_le (yAE I.ok.bsz I.ok.above)
theorem Inv.stkSub (I : Inv X pins σ H s) : ∀ b ∈ frs X.stack, b ∈ X.env.locals :: X.fs := fun b hb => by
  rcases I.ok.stk with e | ⟨e, hf⟩
  . rw [e] at hb; exact yAS _ hb
  . rw [e] at hb
    unfold frs at hb
    rw [List.filterMap_cons, hf] at hb
    exact hb
theorem Inv.stkFree (I : Inv X pins σ H s) : ∀ b ∈ frs X.stack, H b = none := fun b hb => by
  rcases yAH.mp (I.stkSub b hb) with e | hb
  . rw [e]; exact I.free
  . obtain ⟨_, o, ho, _⟩ := I.ok.funs.mem hb
    exact I.base.free b o ho (I.ok.frf b hb) fun z => I.ok.exfs b z hb
theorem Inv.step {g' : Array GenState} {t' : Nat} {d' : Drawn} {ch : List Addr} (I : Inv X pins σ H s)
    (hch : ∀ b ∈ ch, (b ∈ X.ex ∨ X.s₀.heap.objs.size <= b) /\ b ≠ X.env.locals /\ (∀ x c, X.env.cells.lookup x = some c -> c ≠ b) /\ ∀ p ∈ X.pn ++ pins, p.1 ≠ b)
    (keep : ∀ b o, b ≠ X.env.locals -> b ∉ X.fs -> b ∉ ch -> s.heap.get? b = some o -> H b = none -> h'.get? b = some o)
    (slot : ∀ b o, b ≠ X.env.locals -> b ∈ X.fs -> b ∉ ch -> s.heap.get? b = some o -> H b = none -> ∃ sl, h'.get? b = some { o with slots := sl }) (free : ∀ b o, b ∉ ch -> s.heap.get? b = some o -> H b = none -> H' b = none)
    (there : ∀ b o, b ∉ ch -> s.heap.get? b = some o -> ∃ o', h'.get? b = some o')
    (tups : ∀ b xs, H b = some (.tup xs) -> H' b = some (.tup xs)) (frzs : ∀ b o u, H b = some (.frz o u) -> H' b = some (.frz o u)) (tbls : ∀ b ps, H b = some (.tbl ps) -> ∃ more, H' b = some (.tbl (ps ++ more)))
    (ns : ∀ m, s.heap.Ns X.env.locals m -> h'.Ns X.env.locals m) (hok : HOk X.prog X.w H' h') (hg : AllBare g') :
    Inv X pins σ H' { s with heap := h', gens := g', drawn := d', toks := t' } := by
  have neL : ∀ b o, X.s₀.heap.get? b = some o -> b ≠ X.env.locals := fun b o e => yAL (yAW (Heap.lt_size e) I.ok.above)
  have neC : ∀ b o, X.s₀.heap.get? b = some o -> b ∉ X.ex -> b ∉ ch := fun b o e hx hb => by
    rcases (hch b hb).1 with z | z
    . exact hx z
    . exact absurd (yAW (Heap.lt_size e) z) (yBG _)
  have cellK : ∀ x c, X.env.cells.lookup x = some c -> ∀ v, s.heap.IsCell c v -> h'.IsCell c v := fun x c e v ⟨o, ho, hd⟩ => by
    have nch : c ∉ ch := fun z => (hch c z).2.2.1 x c e rfl
    by_cases hc : c ∈ X.fs
    . obtain ⟨sl, q⟩ := slot c o (I.cne x c e) hc nch ho (I.freeC x c e)
      exact ⟨_, q, hd⟩
    . exact ⟨o, keep c o (I.cne x c e) hc nch ho (I.freeC x c e), hd⟩
  refine ⟨I.ok, I.os, hg, ⟨fun b o e n hb hx => ?_, fun b o e n hb hx => ?_, fun b o e n hx => ?_, fun b o e hx => ?_, fun b xs e => tups b xs (I.base.tups b xs e), fun b o xs e => frzs b o xs (I.base.frzs b o xs e), fun b ps e => ?_⟩, ?_, fun x c e => ?_, ?_, fun x c e => ?_, fun p hp => ?_, hok, I.len⟩
  . exact keep b o (neL b o e) hb (neC b o e hx) (I.base.keep b o e n hb hx) (I.base.free b o e n hx)
  . obtain ⟨sl, e1⟩ := I.base.slot b o e n hb hx
    obtain ⟨sl', e2⟩ := slot b _ (neL b o e) hb (neC b o e hx) e1 (I.base.free b o e n hx)
    exact ⟨sl', e2⟩
  . obtain ⟨o', e1⟩ := I.base.there b o e hx
    exact free b o' (neC b o e hx) e1 (I.base.free b o e n hx)
  . obtain ⟨o', e1⟩ := I.base.there b o e hx
    exact there b o' (neC b o e hx) e1
  . obtain ⟨m1, e1⟩ := I.base.tbls b ps e
    obtain ⟨m2, e2⟩ := tbls b _ e1
    exact ⟨m1 ++ m2, by rw [e2, Array.append_assoc]⟩
  . obtain ⟨m, hn, hl⟩ := I.loc
    refine ⟨m, ns m hn, fun i x v e1 e2 e3 => ?_⟩
    obtain ⟨u, r, l⟩ := hl i x v e1 e2 e3
    refine ⟨u, r, ?_⟩
    rcases l with l | ⟨k, c, e, z⟩
    . exact .inl l
    . exact .inr ⟨k, c, e, cellK x c e _ z⟩
  . obtain ⟨v, z⟩ := I.cell x c e
    exact ⟨v, cellK x c e v z⟩
  . obtain ⟨m, ⟨o, _, _, ho, _⟩, _⟩ := I.loc
    exact free _ o (fun z => (hch _ z).2.1 rfl) ho I.free
  . obtain ⟨v, o, ho, hd⟩ := I.cell x c e
    exact free c o (fun z => (hch c z).2.2.1 x c e rfl) ho (I.freeC x c e)
  . obtain ⟨e, n, ne, nf, d⟩ := I.pin p hp
    have nch : p.1 ∉ ch := fun z => (hch p.1 z).2.2.2 p hp rfl
    exact ⟨keep p.1 p.2 ne nf nch e n, free p.1 p.2 nch e n, ne, nf, d⟩
theorem Inv.un {t' : Nat} (I : Inv X pins σ H s) (u : Un X.fs [] H H' s.heap h') (hok : HOk X.prog X.w H' h') : Inv X pins σ H' { s with heap := h', toks := t' } := by
  obtain ⟨m, ⟨o, es, ep, ho, r⟩, _⟩ := id I.loc
  obtain ⟨sl, hL⟩ := u.any ho I.free (by simp)
  exact I.step (g' := s.gens) (d' := s.drawn) (ch := []) (fun _ z => nomatch z) (fun b o _ hb _ e n => u.keep b o e n hb (by simp)) (fun b o _ hb _ e n => u.slot b o e n hb (by simp)) (fun b o _ e n => u.free b o e n (by simp)) (fun b o _ e => u.there b o e (by simp)) u.tups u.frzs u.tbls (fun m' hm => by
    obtain ⟨o', es', ep', ho', r'⟩ := hm
    rw [ho] at ho'; cases ho'
    exact ⟨_, es', ep', hL, r'⟩) hok I.bare
theorem Inv.call {g' : Array GenState} {t' : Nat} {d' : Drawn} {ch : List Addr} (I : Inv X pins σ H s) (u : Un (frs X.stack) ch H H' s.heap h') (hok : HOk X.prog X.w H' h') (hg : AllBare g')
    (hch : ∀ b ∈ ch, (b ∈ X.ex ∨ X.s₀.heap.objs.size <= b) /\ b ≠ X.env.locals /\ (∀ x c, X.env.cells.lookup x = some c -> c ≠ b) /\ ∀ p ∈ X.pn ++ pins, p.1 ≠ b) :
    Inv X pins σ H' { s with heap := h', gens := g', drawn := d', toks := t' } := by
  obtain ⟨m, ⟨o, es, ep, ho, r⟩, _⟩ := id I.loc
  obtain ⟨sl, hL⟩ := u.any ho I.free fun z => (hch _ z).2.1 rfl
  exact I.step (ch := ch) hch (fun b o hL hb hc e n => u.keep b o e n (fun z => (yAH.mp (I.stkSub b z)).elim hL hb) hc) (fun b o _ _ hc e n => u.any e n hc) (fun b o hc e n => u.free b o e n hc) (fun b o hc e => u.there b o e hc) u.tups u.frzs u.tbls (fun m' hm => by
    obtain ⟨o', es', ep', ho', r'⟩ := hm
    rw [ho] at ho'; cases ho'
    exact ⟨_, es', ep', hL, r'⟩) hok hg
theorem Inv.turned {t' : Nat} {it : Addr} (I : Inv X pins σ H s) (k : ∀ b o, b ≠ it -> s.heap.get? b = some o -> h'.get? b = some o) (hn : H it = none) (hL : it ≠ X.env.locals)
    (h1 : it ∈ X.ex ∨ X.s₀.heap.objs.size <= it) (h2 : ∀ x c, X.env.cells.lookup x = some c -> c ≠ it) (h3 : ∀ p ∈ X.pn ++ pins, p.1 ≠ it) : Inv X pins σ H { s with heap := h', toks := t' } := by
  have nit : ∀ b u, H b = some u -> b ≠ it := fun b u e z => by rw [z, hn] at e; cases e
  refine I.step (g' := s.gens) (d' := s.drawn) (ch := [it]) (fun b hb => ?_) (fun b o _ _ hc e _ => k b o (fun z => hc (by simp [z])) e) (fun b o _ _ hc e _ => ⟨o.slots, k b o (fun z => hc (by simp [z])) e⟩) (fun _ _ _ _ n => n)
    (fun b o hc e => ⟨o, k b o (fun z => hc (by simp [z])) e⟩) (fun _ _ e => e) (fun _ _ _ e => e) (fun b ps e => ⟨#[], by rw [e]; simp⟩) (fun m hm => ?_) (fun b u e => ?_) I.bare
  . have e : b = it := by simpa using hb
    subst e
    exact ⟨h1, hL, h2, h3⟩
  . obtain ⟨o, es, ep, ho, r⟩ := hm
    exact ⟨o, es, ep, k _ o (Ne.symm hL) ho, r⟩
  . refine (I.hok b u e).stay (fun c v hc q => k c v ?_ q) (fun _ q => q) fun _ _ q => q
    rcases hc with z | z
    . rw [z]; exact nit b u e
    . exact nit c _ z
theorem Inv.tok (I : Inv X pins σ H s) (t : Nat) : Inv X pins σ H { s with toks := t } := I.un (h' := s.heap) (t' := t) Un.refl I.hok
theorem Inv.kept {t' : Nat} (I : Inv X pins σ H s) (k : ∀ b u, s.heap.get? b = some u -> h'.get? b = some u) : Inv X pins σ H { s with heap := h', toks := t' } := I.un (Un.kept k) (I.hok.kept k)
theorem Inv.laid {a : Addr} {o : HO} {t' : Nat} (I : Inv X pins σ H s) (k : ∀ b u, s.heap.get? b = some u -> h'.get? b = some u) (hp : s.heap.objs.size <= a) (new : ObjOk X.prog X.w (upd H a o) h' a o) :
    Inv X pins σ (upd H a o) { s with heap := h', toks := t' } := I.un (Un.laid k hp (I.hok.fresh hp)) (I.hok.laid k hp new)
theorem Inv.write {x e : Addr} {o : HO} {t' : Nat} (I : Inv X pins σ H s) (mu : Mut (H x)) (he : e = x ∨ H e = some (.own x)) (k : ∀ b u, b ≠ e -> s.heap.get? b = some u -> h'.get? b = some u) (heo : ∃ u, h'.get? e = some u)
    (new : ObjOk X.prog X.w (upd H x o) h' x o) : Inv X pins σ (upd H x o) { s with heap := h', toks := t' } := I.un (Un.write mu he k heo) (I.hok.write mu he k heo new)
theorem Inv.pins_of {pins' : List (Addr × Obj)} (I : Inv X pins σ H s) (h : ∀ p ∈ pins', s.heap.get? p.1 = some p.2 /\ H p.1 = none /\ p.1 ≠ X.env.locals /\ p.1 ∉ X.fs /\ ∀ v, p.2.data ≠ .cell v) : Inv X pins' σ H s :=
  ⟨I.ok, I.os, I.bare, I.base, I.loc, I.cell, I.free, I.freeC, fun p hp => (yBB.mp hp).elim (fun z => I.pin p (yBX _ z)) (h p), I.hok, I.len⟩
theorem nodup_ix {N : List Str} (hN : N.Nodup) {i j : Nat} {x : Str} (a : N[i]? = some x) (b : N[j]? = some x) : i = j := by
  obtain ⟨h1, e1⟩ := yAJ.mp a
  obtain ⟨h2, e2⟩ := yAJ.mp b
  exact (List.getElem_inj hN).mp (e1.trans e2.symm)
theorem store_ok2 {M : Model} {A : Around} {E : Value -> Shared -> Prop} {i : Nat} {x : Str} {v : V} {u : Value} {Q : Unit -> Shared -> Prop} (I : Inv X pins σ H s) (hN : X.N.Nodup) (hi : X.N[i]? = some x) (hx : Loc X.env.scope x) (r : RelV v u)
    (h : ∀ s', Inv X pins (σ.set i (some v)) H s' -> (∃ a, Heap.SameBut a s.heap s'.heap /\ (a = X.env.locals ∨ X.env.cells.lookup x = some a)) -> Q () s') (hf : X.fn x = true ∨ X.env.scope.names.lookup x = some .local := by first | exact .inl rfl | exact .inr rfl | assumption) : wpAny M A (storeName X.env x u) Q E s := by
  obtain ⟨m, hn, hl⟩ := id I.loc
  have hcls : (X.env.scope.kind == .class || (X.env.scope.kind == .module && X.env.locals != X.env.globals)) = false := by rw [I.ok.kind]; rfl
  have hiσ : i < σ.length := by rw [I.len]; exact (yAJ.mp hi).1
  have cne := I.cne
  have tracked : ∀ {a : Addr} {h' : Heap}, (∃ o, s.heap.get? a = some o /\ H a = none) -> Heap.SameBut a s.heap h' -> HOk X.prog X.w H h' := fun {a h'} ha hs b ob e => by
    obtain ⟨_, _, hfree⟩ := ha
    refine (I.hok b ob e).stay (fun c w' hc q => (hs.2 c ?_).trans q) (fun _ q => q) fun _ _ q => q
    rintro rfl
    rcases hc with rfl | hc
    . rw [hfree] at e; cases e
    . rw [hfree] at hc; cases hc
  rcases hx with hk | hk
  . refine wpAny_storeName_local hk hn (fun h' hn' hs => ?_) hcls
    obtain ⟨oL, _, _, hoL, _⟩ := id hn
    refine h _ ⟨I.ok, I.os, I.bare, ⟨fun b o e n hb hx => ?_, fun b o e n hb hx => ?_, I.base.free, fun b o e hx => ?_, I.base.tups, I.base.frzs, I.base.tbls⟩, ⟨_, hn', fun j y v' e1 e2 e3 => ?_⟩, fun y c e => ?_, I.free, I.freeC, fun p hp => ?_, tracked ⟨oL, hoL, I.free⟩ hs, by simpa using I.len⟩ ⟨_, hs, .inl rfl⟩
    . exact (hs.2 b (yAL (yAW (Heap.lt_size e) I.ok.above))).trans (I.base.keep b o e n hb hx)
    . obtain ⟨sl, e1⟩ := I.base.slot b o e n hb hx
      exact ⟨sl, (hs.2 b (yAL (yAW (Heap.lt_size e) I.ok.above))).trans e1⟩
    . obtain ⟨o', e1⟩ := I.base.there b o e hx
      exact ⟨o', (hs.2 b (yAL (yAW (Heap.lt_size e) I.ok.above))).trans e1⟩
    . by_cases hj : j = i
      . subst hj
        rw [hi] at e1; cases e1
        rw [List.getElem?_set_self hiσ] at e2
        cases e2
        exact ⟨u, r, .inl ⟨hk, by simp⟩⟩
      . rw [List.getElem?_set_ne (Ne.symm hj)] at e2
        obtain ⟨u', r', q⟩ := hl j y v' e1 e2 e3
        refine ⟨u', r', ?_⟩
        rcases q with ⟨k, e⟩ | ⟨k, c, e, z⟩
        . refine .inl ⟨k, ?_⟩
          have : y ≠ x := fun e => hj (nodup_ix hN e1 (e ▸ hi))
          simp [this, e]
        . exact .inr ⟨k, c, e, z.sameBut hs (cne y c e)⟩
    . obtain ⟨w', z⟩ := I.cell y c e
      exact ⟨w', z.sameBut hs (cne y c e)⟩
    . obtain ⟨e, n, ne, nf, d⟩ := I.pin p hp
      exact ⟨(hs.2 p.1 ne).trans e, n, ne, nf, d⟩
  . have hfn : X.fn x = true := by
      rcases hf with z | z
      . exact z
      . rw [z] at hk; cases hk
    obtain ⟨c, hc⟩ := I.ok.has x (.inl hk)
    obtain ⟨w', z⟩ := I.cell x c hc
    refine wpAny_storeName_cell I.ok.kind hk hc z (fun h' hc' hs => ?_)
    obtain ⟨oc, hoc, hocd⟩ := id z
    refine h { s with heap := h' } ⟨I.ok, I.os, I.bare, ⟨fun b o e n hb hx => ?_, fun b o e n hb hx => ?_, I.base.free, fun b o e hx => ?_, I.base.tups, I.base.frzs, I.base.tbls⟩, ⟨m, hn.sameBut hs (Ne.symm (cne x c hc)), fun j y v' e1 e2 e3 => ?_⟩, fun y c' e => ?_, I.free, I.freeC, fun p hp => ?_, tracked ⟨oc, hoc, I.freeC x c hc⟩ hs, by simpa using I.len⟩ ⟨c, hs, .inr hc⟩
    . exact (hs.2 b (yAL (yAW (Heap.lt_size e) (I.ok.cab x c hfn hc)))).trans (I.base.keep b o e n hb hx)
    . obtain ⟨sl, e1⟩ := I.base.slot b o e n hb hx
      exact ⟨sl, (hs.2 b (yAL (yAW (Heap.lt_size e) (I.ok.cab x c hfn hc)))).trans e1⟩
    . obtain ⟨o', e1⟩ := I.base.there b o e hx
      exact ⟨o', (hs.2 b (yAL (yAW (Heap.lt_size e) (I.ok.cab x c hfn hc)))).trans e1⟩
    . by_cases hj : j = i
      . subst hj
        rw [hi] at e1; cases e1
        rw [List.getElem?_set_self hiσ] at e2
        cases e2
        exact ⟨u, r, .inr ⟨.inl hk, c, hc, hc'⟩⟩
      . rw [List.getElem?_set_ne (Ne.symm hj)] at e2
        obtain ⟨u', r', q⟩ := hl j y v' e1 e2 e3
        refine ⟨u', r', ?_⟩
        rcases q with q | ⟨k, c', e, z'⟩
        . exact .inl q
        . refine .inr ⟨k, c', e, z'.sameBut hs ?_⟩
          rintro rfl
          exact hj (nodup_ix hN e1 (I.ok.inj _ _ _ e hc ▸ hi))
    . by_cases hcc : c' = c
      . subst hcc; exact ⟨_, hc'⟩
      . obtain ⟨w2, z2⟩ := I.cell y c' e
        exact ⟨w2, z2.sameBut hs hcc⟩
    . obtain ⟨e, n, ne, nf, d⟩ := I.pin p hp
      refine ⟨(hs.2 p.1 ?_).trans e, n, ne, nf, d⟩
      intro q
      rw [q, hoc] at e
      have q' : oc = p.2 := Option.some.inj e
      exact d w' (by rw [<- q']; exact hocd)
theorem ZCf {M : Model} {A : Around} {E : Value -> Shared -> Prop} {i : Nat} {x : Str} {v : V} {u : Value} {Q : Unit -> Shared -> Prop} (I : Inv X pins σ H s) (hN : X.N.Nodup) (hi : X.N[i]? = some x) (hx : Loc X.env.scope x) (r : RelV v u)
    (h : ∀ s', Inv X pins (σ.set i (some v)) H s' -> Q () s') (hf : X.fn x = true ∨ X.env.scope.names.lookup x = some .local := by first | exact .inl rfl | exact .inr rfl | assumption) : wpAny M A (storeName X.env x u) Q E s :=
  store_ok2 I hN hi hx r (fun s' I' _ => h s' I') hf
theorem Inv.call' {s' : Shared} {ch : List Addr} (I : Inv X pins σ H s) (ho : s'.os = s.os) (u : Un (frs X.stack) ch H H' s.heap s'.heap) (hok : HOk X.prog X.w H' s'.heap) (hg : AllBare s'.gens)
    (hch : ∀ b ∈ ch, (b ∈ X.ex ∨ X.s₀.heap.objs.size <= b) /\ b ≠ X.env.locals /\ (∀ x c, X.env.cells.lookup x = some c -> c ≠ b) /\ ∀ p ∈ X.pn ++ pins, p.1 ≠ b) : Inv X pins σ H' s' := by
  obtain ⟨h', g', d', t', o'⟩ := s'
  have e : o' = s.os := ho
  subst e
  exact I.call (g' := g') (t' := t') (d' := d') u hok hg hch
end
abbrev XK := Value -> Option Addr -> Hp -> Prop
abbrev St := List (Option V)
abbrev VK := V -> Hp -> Prop
abbrev TE := St -> Hp -> VK -> Prop
abbrev TT := St -> Hp -> (Bool -> Hp -> Prop) -> Prop
abbrev TA := St -> Hp -> (List V -> Hp -> Prop) -> Prop
structure Ends where
  nx : St -> Hp -> Prop
  rt : VK
  bk : St -> Hp -> Prop := fun _ _ => False
  ct : St -> Hp -> Prop := fun _ _ => False
abbrev TS := Ends -> St -> Hp -> Prop
def EP (X : Cx) (pins : List (Addr × Obj)) (σ : St) (Q : VK) (u : Value) (s' : Shared) : Prop := ∃ v H', Inv X pins σ H' s' /\ RelV v u /\ Q v H'
def TP (X : Cx) (pins : List (Addr × Obj)) (σ : St) (Q : Bool -> Hp -> Prop) (b : Bool) (s' : Shared) : Prop := ∃ H', Inv X pins σ H' s' /\ Q b H'
def AP (X : Cx) (pins : List (Addr × Obj)) (σ : St) (Q : List V -> Hp -> Prop) (us : List Value) (s' : Shared) : Prop := ∃ vs H', Inv X pins σ H' s' /\ Vals vs us /\ Q vs H'
def SP (X : Cx) (pins : List (Addr × Obj)) (D : Ends) (f : Flow) (s' : Shared) : Prop :=
  match f with
  | .next => ∃ σ' H', Inv X pins σ' H' s' /\ D.nx σ' H'
  | .brk => ∃ σ' H', Inv X pins σ' H' s' /\ D.bk σ' H'
  | .cont => ∃ σ' H', Inv X pins σ' H' s' /\ D.ct σ' H'
  | .ret u => ∃ v σ' H', Inv X pins σ' H' s' /\ RelV v u /\ D.rt v H'
def PE (X : Cx) (e : Expr) (t : TE) : Prop :=
  ∀ (pins : List (Addr × Obj)) (s : Shared) (σ : St) (H : Hp) (Q : VK), Inv X pins σ H s -> t σ H Q -> wpAny (model X.prog X.w) X.A (eval e X.env) (EP X pins σ Q) X.xe s
def PT (X : Cx) (e : Expr) (t : TT) : Prop :=
  ∀ (pins : List (Addr × Obj)) (s : Shared) (σ : St) (H : Hp) (Q : Bool -> Hp -> Prop), Inv X pins σ H s -> t σ H Q -> wpAny (model X.prog X.w) X.A (isTrue e X.env (eval e X.env)) (TP X pins σ Q) X.xe s
def PW (X : Cx) (e : Expr) (t : TT) : Prop :=
  ∀ (whole : Sem Value) (pins : List (Addr × Obj)) (s : Shared) (σ : St) (H : Hp) (Q : Bool -> Hp -> Prop), Inv X pins σ H s -> t σ H Q -> wpAny (model X.prog X.w) X.A (isTrue e X.env whole) (TP X pins σ Q) X.xe s
theorem PW.pt {X : Cx} {e : Expr} {t : TT} (h : PW X e t) : PT X e t := h _
def PA (X : Cx) (es : List Expr) (t : TA) : Prop :=
  ∀ (pos : Pos) (pins : List (Addr × Obj)) (s : Shared) (σ : St) (H : Hp) (Q : List V -> Hp -> Prop), Inv X pins σ H s -> t σ H Q -> wpAny (model X.prog X.w) X.A (spliced (backTo pos (starEach es X.env))) (AP X pins σ Q) X.xe s
def PS (X : Cx) (st : Stmt) (t : TS) : Prop :=
  ∀ (pins : List (Addr × Obj)) (s : Shared) (σ : St) (H : Hp) (D : Ends), Inv X pins σ H s -> t D σ H -> wpAny (model X.prog X.w) X.A (exec st X.env) (SP X pins D) X.xe s
def PSs (X : Cx) (st : List Stmt) (t : TS) : Prop :=
  ∀ (pins : List (Addr × Obj)) (s : Shared) (σ : St) (H : Hp) (D : Ends), Inv X pins σ H s -> t D σ H -> wpAny (model X.prog X.w) X.A (execs st X.env) (SP X pins D) X.xe s
theorem thn {α : Type} {t : Sem α} {Q Q' : α -> Shared -> Prop} {M : Model} {A : Around} {E : Value -> Shared -> Prop} {s : Shared} (h : wpAny M A t Q E s) (hQ : ∀ a s, Q a s -> Q' a s) : wpAny M A t Q' E s := wpAny_mono h hQ fun _ _ x => x
section
variable {X : Cx}
def tVar (i : Nat) : TE := fun σ H Q => ∃ v, σ[i]? = some (some v) /\ Q v H
def tC (v : V) : TE := fun _ H Q => Q v H
theorem pe_var {i : Nat} {x : Str} {pos : Pos} (hN : X.N[i]? = some x) (hv : Vis X.env.scope x) (hd : (x == ("__debug__" : Str)) = false := by decide) (hcd : (x == ("__classdict__" : Str)) = false := by decide) : PE X (.Name x pos) (tVar i) := by
  intro pins s σ H Q I h
  obtain ⟨v, e, h⟩ := h
  obtain ⟨m, hn, hl⟩ := I.loc
  obtain ⟨u, r, l⟩ := hl i x v hN e hv
  have fin : EP X pins σ Q u s := ⟨v, H, I, r, h⟩
  rcases l with ⟨hk, hm⟩ | ⟨hk, c, hc, hcell⟩
  . exact wpAny_Name (wpAny_loadName_local I.ok.kind hk hn hm fin) hd
  . rcases hk with hk | hk
    . exact wpAny_Name (wpAny_loadName_cell I.ok.kind hk hc hcell fin) hd
    . exact wpAny_Name (wpAny_loadName_free I.ok.kind hk hc hcell fin hcd) hd
theorem ZAF {i j pos} : PE X (.Constant (.int i) j pos) (tC (.int i)) := fun _ _ _ H _ I h => wpAny_Constant_int ⟨.int i, H, I.tok _, ⟨_, rfl⟩, h⟩
theorem ZEf {b j pos} : PE X (.Constant (.bool b) j pos) (tC (.bl b)) := fun _ _ _ H _ I h => Constant_bool ⟨.bl b, H, I, rfl, h⟩
theorem ZBU {j pos} : PE X (.Constant .none j pos) (tC .non) := fun _ _ _ H _ I h => Constant_none ⟨.non, H, I, rfl, h⟩
def Gl (X : Cx) (x : Str) : Prop := X.env.kindOf x = some .globalImplicit
theorem ld_glob {E : Value -> Shared -> Prop} {pins : List (Addr × Obj)} {s : Shared} {σ : St} {H : Hp} {x : Str} {u : Value} {pos : Pos} {Q : Value -> Shared -> Prop} (I : Inv X pins σ H s) (hg : Gl X x) (hm : X.mg x = some u) (h : Q u s)
    (hd : (x == ("__debug__" : Str)) = false := by decide) : wpAny (model X.prog X.w) X.A (eval (.Name x pos) X.env) Q E s :=
  Calls.Name_function_global I.ok.kind hg (Calls.loadGlobal_global (by rw [I.ok.glob]; exact I.mod.glob.keeps I.bk) hm h) hd
theorem ZDC {E : Value -> Shared -> Prop} {pins : List (Addr × Obj)} {s : Shared} {σ : St} {H : Hp} {x : Str} {u : Value} {pos : Pos} {Q : Value -> Shared -> Prop} (I : Inv X pins σ H s) (hg : Gl X x) (hm : X.mg x = none) (hv : bootBuiltins x = some u) (h : Q u s)
    (hn : x ≠ "__name__" := by decide) (hd : (x == ("__debug__" : Str)) = false := by decide) : wpAny (model X.prog X.w) X.A (eval (.Name x pos) X.env) Q E s := by
  obtain ⟨mb, h1, h2⟩ := I.mod.blt
  exact Calls.Name_function_global I.ok.kind hg (Calls.loadGlobal_builtin (by rw [I.ok.glob]; exact I.mod.glob.keeps I.bk) hm (by rw [I.ok.blt]; exact h1.keeps I.bk) ((h2 x hn).trans hv) h) hd
variable {a b : Expr} {ta tb : TE} {pos : Pos}
def tB (t : TE) : TT := fun σ H Q => t σ H fun x H1 => ∃ c, x = .bl c /\ Q c H1
theorem ZCr {e : Expr} {t : TE} (h : PE X e t) (he : ∀ whole, isTrue e X.env whole = (do let v <- whole; standAt e.pos; holding [v] (truthy v)) := by intro _; rfl) : PT X e (tB t) := by
  intro pins s σ H Q I hw
  refine isTrue_plain (thn (h pins s σ H _ I hw) fun v s1 ⟨x, H1, I1, r1, q1⟩ => ?_) (he _)
  obtain ⟨d, rfl, q⟩ := q1
  cases r1
  exact wpAny_truthy_bool ⟨H1, I1, q⟩
variable {tA tB' : TT} {rest : List Expr}
def tAnd (t u : TT) : TT := fun σ H Q => t σ H fun c H1 => if c = true then u σ H1 Q else Q false H1
def tOr (t u : TT) : TT := fun σ H Q => t σ H fun c H1 => if c = true then Q true H1 else u σ H1 Q
def tNot (t : TT) : TT := fun σ H Q => t σ H fun c H1 => Q (!c) H1
theorem ZDK (ha : PT X a tA) : PW X (.BoolOp .And [a] pos) tA := by
  intro wh pins s σ H Q I h
  refine isTrue_and (thn (ha pins s σ H Q I h) fun c s1 e => ?_)
  cases c with
  | true => exact isTrue_and_nil e
  | false => exact e
theorem ZD3 (ha : PT X a tA) : PW X (.BoolOp .Or [a] pos) tA := by
  intro wh pins s σ H Q I h
  refine isTrue_or (thn (ha pins s σ H Q I h) fun c s1 e => ?_)
  cases c with
  | false => exact isTrue_or_nil e
  | true => exact e
theorem ZDX (ha : PT X a tA) (hb : PW X (.BoolOp .And (b :: rest) pos) tB') : PW X (.BoolOp .And (a :: b :: rest) pos) (tAnd tA tB') := by
  intro wh pins s σ H Q I h
  refine isTrue_and (thn (ha pins s σ H _ I h) fun c s1 ⟨H1, I1, q1⟩ => ?_)
  cases c with
  | true => exact hb wh pins s1 σ H1 Q I1 q1
  | false => exact ⟨H1, I1, q1⟩
theorem ZEP (ha : PT X a tA) (hb : PW X (.BoolOp .Or (b :: rest) pos) tB') : PW X (.BoolOp .Or (a :: b :: rest) pos) (tOr tA tB') := by
  intro wh pins s σ H Q I h
  refine isTrue_or (thn (ha pins s σ H _ I h) fun c s1 ⟨H1, I1, q1⟩ => ?_)
  cases c with
  | true => exact ⟨H1, I1, q1⟩
  | false => exact hb wh pins s1 σ H1 Q I1 q1
theorem ZEQ (ha : PT X a tA) : PT X (.UnaryOp .Not a pos) (tNot tA) := by
  intro pins s σ H Q I h
  exact isTrue_not (ha pins s σ H (fun c H1 => Q (!c) H1) I h)
def ZEt (ta tb : TE) : TE := fun σ H Q => ta σ H fun x H1 => ∃ c, x = .bl c /\ if c = true then tb σ H1 Q else Q (.bl false) H1
def tOrV (ta tb : TE) : TE := fun σ H Q => ta σ H fun x H1 => ∃ c, x = .bl c /\ if c = true then Q (.bl true) H1 else tb σ H1 Q
def ZEp (ta : TE) : TE := fun σ H Q => ta σ H fun x H1 => ∃ c, x = .bl c /\ Q (.bl (!c)) H1
theorem pe_one {op} {t : TE} (h : PE X a t) : PE X (.BoolOp op [a] pos) t := fun pins s σ H Q I hw => BoolOp_one (h pins s σ H Q I hw)
theorem pe_and (ha : PE X a ta) (hb : PE X (.BoolOp .And (b :: rest) pos) tb) : PE X (.BoolOp .And (a :: b :: rest) pos) (ZEt ta tb) := by
  intro pins s σ H Q I h
  refine BoolOp_and (thn (ha pins s σ H _ I h) fun v s1 ⟨x, H1, I1, r1, q1⟩ => ?_)
  obtain ⟨c, rfl, q1⟩ := q1
  cases r1
  refine wpAny_truthy_bool ?_
  cases c with
  | true => exact hb pins s1 σ H1 Q I1 q1
  | false => exact ⟨.bl false, H1, I1, rfl, q1⟩
theorem pe_not (ha : PE X a ta) : PE X (.UnaryOp .Not a pos) (ZEp ta) := by
  intro pins s σ H Q I h
  refine UnaryOp_ (thn (ha pins s σ H _ I h) fun v s1 ⟨x, H1, I1, r1, q1⟩ => ?_)
  obtain ⟨c, rfl, q1⟩ := q1
  cases r1
  exact not_of (wpAny_truthy_bool ⟨.bl (!c), H1, I1, rfl, q1⟩)
def tIf (t : TT) (ta tb : TE) : TE := fun σ H Q => t σ H fun c H1 => if c = true then ta σ H1 Q else tb σ H1 Q
theorem ZB7 {c : Expr} (hc : PT X c tA) (ha : PE X a ta) (hb : PE X b tb) : PE X (.IfExp c a b pos) (tIf tA ta tb) := by
  intro pins s σ H Q I h
  refine wpAny_IfExp (thn (hc pins s σ H _ I h) fun d s1 ⟨H1, I1, q1⟩ => ?_)
  cases d with
  | true => exact ha pins s1 σ H1 Q I1 q1
  | false => exact hb pins s1 σ H1 Q I1 q1
end
def SqL (K : W.Frag) (H : Hp) (a : Addr) (xs : List V) : Prop :=
  Rd H a (.lst xs) ∨
    ∃ (o : Obj) (its : Array Value) (n : Nat), K.lookup a = some o /\ o.cls = .type "list" /\ o.dict = none /\ o.data = .seq its n /\ its.size <= sizeLine /\ Vals xs its.toList
def SqT (K : W.Frag) (H : Hp) (a : Addr) (xs : List V) : Prop :=
  Rd H a (.tup xs) ∨
    ∃ (o : Obj) (its : Array Value) (n : Nat), K.lookup a = some o /\ o.cls = .type "tuple" /\ o.data = .seq its n /\ its.size <= sizeLine /\ Vals xs its.toList
def absV : Value -> Option V
  | .none => some .non
  | .bool b => some (.bl b)
  | .int i _ => some (.int i)
  | .str x _ => some (.str x)
  | .bytes b _ => some (.byt b)
  | .float b _ => some (.flt b)
  | .ref a => some (.ref a)
  | .type n => some (.ty n)
  | _ => none
theorem RelV.abs {x : V} {u : Value} (r : RelV x u) : absV u = some x := by
  cases x with
  | non => cases r; rfl
  | bl _ => cases r; rfl
  | int _ => obtain ⟨t, rfl⟩ := r; rfl
  | str _ => obtain ⟨t, rfl⟩ := r; rfl
  | byt _ => obtain ⟨t, rfl⟩ := r; rfl
  | flt _ => obtain ⟨t, rfl⟩ := r; rfl
  | ref _ => cases r; rfl
  | ty _ => cases r; rfl
theorem RelV.inj {x y : V} {u : Value} (r : RelV x u) (q : RelV y u) : x = y := Option.some.inj (r.abs.symm.trans q.abs)
theorem Vals.inj : ∀ {xs ys : List V} {us : List Value}, Vals xs us -> Vals ys us -> xs = ys
  | _, _, _, .nil, .nil => rfl
  | _, _, _, .cons r t, .cons r' t' => by rw [r.inj r', Vals.inj t t']
section
variable {X : Cx} {pins : List (Addr × Obj)} {σ : St} {H : Hp} {s : Shared} {a : Addr} {xs ys : List V}
theorem SqL.of {K : W.Frag} (h : H a = some (.lst xs)) : SqL K H a xs := .inl (.inl h)
theorem SqT.of {K : W.Frag} (h : H a = some (.tup xs)) : SqT K H a xs := .inl (.inl h)
theorem Inv.list (I : Inv X pins σ H s) (h : SqL X.K H a xs) : ∃ its : List Value, Vals xs its /\ PlainL s.heap a its.toArray /\ xs.length <= sizeLine := by
  rcases h with h | ⟨o, its, n, hk, hc, hd, hs, hz, r⟩
  . obtain ⟨z, its, n, r, e⟩ := h.ok I.hok
    exact ⟨its, r, ⟨_, n, e, rfl, rfl, rfl⟩, z⟩
  . refine ⟨its.toList, r, ⟨o, n, I.kIn a o hk, hc, hd, by simpa using hs⟩, ?_⟩
    have e := r.length
    simp only [yAN] at e
    omega
theorem Inv.tuple (I : Inv X pins σ H s) (h : SqT X.K H a xs) : ∃ its : List Value, Vals xs its /\ IsTup s.heap a its.toArray /\ xs.length <= sizeLine := by
  rcases h with h | ⟨o, its, n, hk, hc, hs, hz, r⟩
  . obtain ⟨z, its, r, p⟩ := h.ok I.hok
    exact ⟨its, r, p, z⟩
  . refine ⟨its.toList, r, ⟨o, I.kIn a o hk, hc, n, by simpa using hs⟩, ?_⟩
    have e := r.length
    simp only [yAN] at e
    omega
theorem Inv.list_inj (I : Inv X pins σ H s) (h : SqL X.K H a xs) (h' : SqL X.K H a ys) : xs = ys := by
  obtain ⟨its, r, ⟨o, n, e, _, _, d⟩, _⟩ := I.list h
  obtain ⟨its', r', ⟨o', n', e', _, _, d'⟩, _⟩ := I.list h'
  rw [e] at e'; cases e'
  rw [d] at d'
  injection d' with d1 _
  have : its = its' := by simpa using congrArg Array.toList d1
  subst this
  exact r.inj r'
end
abbrev Cx.wish (X : Cx) (E : Value -> Shared -> Prop) : Cx := { X with xe := E }
abbrev Cx.nox (X : Cx) : Cx := X.wish fun _ _ => False
theorem Cx.Ok.wish {X : Cx} (ok : X.Ok) (E : Value -> Shared -> Prop) : (X.wish E).Ok :=
  ⟨ok.mod, ok.kind, ok.glob, ok.blt, ok.above, ok.inj, ok.has, ok.cab, ok.hd, ok.frames, ok.stk, ok.exf, ok.bs, ok.bsz, ok.noex, ok.exfs, ok.funs, ok.frf⟩
theorem Cx.Ok.unwish {X : Cx} {E : Value -> Shared -> Prop} (ok : (X.wish E).Ok) : X.Ok :=
  ⟨ok.mod, ok.kind, ok.glob, ok.blt, ok.above, ok.inj, ok.has, ok.cab, ok.hd, ok.frames, ok.stk, ok.exf, ok.bs, ok.bsz, ok.noex, ok.exfs, ok.funs, ok.frf⟩
section
variable {X : Cx} {pins : List (Addr × Obj)} {σ : St} {H : Hp} {s : Shared} {E : Value -> Shared -> Prop}
theorem Inv.wish (I : Inv X pins σ H s) (E : Value -> Shared -> Prop) : Inv (X.wish E) pins σ H s := ⟨I.ok.wish E, I.os, I.bare, I.base, I.loc, I.cell, I.free, I.freeC, I.pin, I.hok, I.len⟩
theorem Inv.unwish (I : Inv (X.wish E) pins σ H s) : Inv X pins σ H s := ⟨I.ok.unwish, I.os, I.bare, I.base, I.loc, I.cell, I.free, I.freeC, I.pin, I.hok, I.len⟩
theorem SP.unwish {D : Ends} {f : Flow} {s' : Shared} (h : SP (X.wish E) pins D f s') : SP X pins D f s' := by
  cases f with
  | next => obtain ⟨σ', H', I, q⟩ := h; exact ⟨σ', H', I.unwish, q⟩
  | brk => obtain ⟨σ', H', I, q⟩ := h; exact ⟨σ', H', I.unwish, q⟩
  | cont => obtain ⟨σ', H', I, q⟩ := h; exact ⟨σ', H', I.unwish, q⟩
  | ret u => obtain ⟨v, σ', H', I, r, q⟩ := h; exact ⟨v, σ', H', I.unwish, r, q⟩
theorem PSs.nox {st : List Stmt} {t : TS} (h : PSs X.nox st t) : PSs X st t := fun pins s σ H D I hw =>
  wpAny_mono (h pins s σ H D (I.wish _) hw) (fun _ _ q => q.unwish) fun _ _ z => False.elim z
end
section
variable {X : Cx} {st : Stmt} {rest : List Stmt} {t u : TS} {e : Expr} {te : TE} {pos : Pos}
def ZEq : TS := fun D σ H => D.nx σ H
def tSeq (t u : TS) : TS := fun D σ H => t { D with nx := u D } σ H
theorem ZAX : PSs X [] ZEq := fun _ _ σ H _ I h => wpAny_execs_nil ⟨σ, H, I, h⟩
theorem ZAB (h1 : PS X st t) (h2 : PSs X rest u) : PSs X (st :: rest) (tSeq t u) := by
  intro pins s σ H D I h
  refine wpAny_execs_cons (thn (h1 pins s σ H { D with nx := u D } I h) fun f s1 q => ?_)
  cases f with
  | next =>
    obtain ⟨σ', H', I', q⟩ := q
    exact h2 pins s1 σ' H' D I' q
  | ret v => exact q
  | brk => exact q
  | cont => exact q
theorem ZAH (h1 : PS X st t) : PSs X [st] t := by
  intro pins s σ H D I h
  refine wpAny_execs_cons (thn (h1 pins s σ H D I h) fun f s1 q => ?_)
  cases f with
  | next => exact wpAny_execs_nil q
  | ret v => exact q
  | brk => exact q
  | cont => exact q
theorem Inv.quiet {pins : List (Addr × Obj)} {σ : St} {H : Hp} {s : Shared} (I : Inv X pins σ H s) : interactive X.env = false := by simp [interactive, I.ok.kind]
def ZEr (te : TE) : TS := fun D σ H => te σ H fun _ H1 => D.nx σ H1
theorem ZBx (he : PE X e te) (hs : swapsWith e none pos.line X.env = pure false := by rfl) : PS X (.Expr e pos) (ZEr te) := by
  intro pins s σ H D I h
  exact wpAny_Expr_any (thn (he pins s σ H _ I h) fun v s1 ⟨x, H1, I1, r1, q1⟩ => ⟨σ, H1, I1, q1⟩) I.quiet hs
def tRet (te : TE) : TS := fun D σ H => te σ H D.rt
theorem ZAW (he : PE X e te) : PS X (.Return (some e) pos) (tRet te) := by
  intro pins s σ H D I h
  exact wpAny_Return_some (thn (he pins s σ H _ I h) fun v s1 ⟨x, H1, I1, r1, q1⟩ => ⟨x, σ, H1, I1, r1, q1⟩)
def tRetN : TS := fun D _ H => D.rt .non H
def tIfS (c : TT) (t u : TS) : TS := fun D σ H => c σ H fun b H1 => if b = true then t D σ H1 else u D σ H1
theorem ZA4 {c : Expr} {a b : List Stmt} {tc : TT} (hc : PT X c tc) (ha : PSs X a t) (hb : PSs X b u) : PS X (.If c a b pos) (tIfS tc t u) := by
  intro pins s σ H D I h
  refine wpAny_If (thn (hc pins s σ H _ I h) fun d s1 ⟨H1, I1, q1⟩ => ?_)
  cases d with
  | true => exact ha pins s1 σ H1 D I1 q1
  | false => exact hb pins s1 σ H1 D I1 q1
def ZEE : TS := fun _ _ _ => False
theorem ps_never : PS X st ZEE := fun _ _ _ _ _ _ h => h.elim
end
abbrev TG := V -> St -> Hp -> (St -> Hp -> Prop) -> Prop
abbrev TGs := List V -> St -> Hp -> (St -> Hp -> Prop) -> Prop
def PG (X : Cx) (target : Expr) (t : TG) : Prop :=
  ∀ (pins : List (Addr × Obj)) (s : Shared) (σ : St) (H : Hp) (v : V) (u : Value) (Q : St -> Hp -> Prop), Inv X pins σ H s -> RelV v u -> t v σ H Q ->
    wpAny (model X.prog X.w) X.A (assign target X.env u) (fun _ s' => ∃ σ' H', Inv X pins σ' H' s' /\ Q σ' H') X.xe s
def PGs (X : Cx) (ts : List Expr) (t : TGs) : Prop :=
  ∀ (pins : List (Addr × Obj)) (s : Shared) (σ : St) (H : Hp) (vs : List V) (us : List Value) (Q : St -> Hp -> Prop), Inv X pins σ H s -> Vals vs us -> t vs σ H Q ->
    wpAny (model X.prog X.w) X.A (assignInOrder ((assignEach ts X.env).map (·.2)) us) (fun _ s' => ∃ σ' H', Inv X pins σ' H' s' /\ Q σ' H') X.xe s
abbrev TSet := V -> V -> V -> Hp -> (Hp -> Prop) -> Prop
def PSet (X : Cx) (t : TSet) : Prop :=
  ∀ (pins : List (Addr × Obj)) (s : Shared) (σ : St) (H : Hp) (o i v : V) (ov iv u : Value) (Q : Hp -> Prop), Inv X pins σ H s -> RelV o ov -> RelV i iv -> RelV v u -> t o i v H Q ->
    wpAny (model X.prog X.w) X.A (setItem ov iv u) (fun _ s' => ∃ H', Inv X pins σ H' s' /\ Q H') X.xe s
abbrev TIp := V -> V -> Hp -> VK -> Prop
section
variable {X : Cx} {pos : Pos}
def ZDv (i : Nat) : TG := fun v σ H Q => Q (σ.set i (some v)) H
theorem ZAY {i : Nat} {x : Str} (hN : X.N.Nodup) (hi : X.N[i]? = some x) (hx : Loc X.env.scope x) (hf : X.fn x = true ∨ X.env.scope.names.lookup x = some .local := by first | exact .inl rfl | exact .inr rfl | assumption) : PG X (.Name x pos) (ZDv i) := by
  intro pins s σ H v u Q I r h
  exact wpAny_assign_Name (ZCf I hN hi hx r (fun s' I' => ⟨_, H, I', h⟩) hf)
def gNil : TGs := fun vs σ H Q => vs = [] /\ Q σ H
def ZE7 (t : TG) (u : TGs) : TGs := fun vs σ H Q => ∃ v r, vs = v :: r /\ t v σ H fun σ' H' => u r σ' H' Q
theorem ZDm : PGs X [] gNil := by
  intro pins s σ H vs us Q I r h
  obtain ⟨e, h⟩ := h
  subst e
  cases r
  exact assignInOrder_nil ⟨σ, H, I, h⟩
theorem ZBn {e : Expr} {es : List Expr} {t : TG} {u : TGs} (h1 : PG X e t) (h2 : PGs X es u)
    (hs : (assignEach (e :: es) X.env).map (·.2) = assign e X.env :: (assignEach es X.env).map (·.2) := by rfl) : PGs X (e :: es) (ZE7 t u) := by
  intro pins s σ H vs us Q I r h
  obtain ⟨v, vr, e1, h⟩ := h
  subst e1
  cases r with
  | cons r rr =>
    rw [hs]
    refine assignInOrder_cons (thn (h1 pins s σ H _ _ _ I r h) fun _ s1 ⟨σ1, H1, I1, q1⟩ => ?_)
    exact h2 pins s1 σ1 H1 _ _ Q I1 rr q1
def gTup (K : W.Frag) (n : Nat) (t : TGs) : TG := fun v σ H Q => ∃ a xs, v = .ref a /\ SqT K H a xs /\ xs.length = n /\ t xs σ H Q
theorem ZER {es : List Expr} {k : Nat} {t : TGs} {n : Nat} (hc : X.calm = true) (h : PGs X es t)
    (hn : (assignEach es X.env).length = n := by rfl) (hst : (assignEach es X.env).findIdx? (·.1) = none := by rfl) : PG X (.Tuple es k pos) (gTup X.K n t) := by
  intro pins s σ H v u Q I r hw
  obtain ⟨a, xs, e1, hq, hl, hw⟩ := hw
  subst e1
  cases r
  obtain ⟨its, rv, ht, hz⟩ := I.tuple hq
  refine assign_Tuple_tuple (I.ok.hd hc) ht (by simp [hn, <- hl, rv.length]) hst fun h' hx => ?_
  have I1 : Inv X pins σ H { s with heap := h' } := I.kept (t' := s.toks) fun b o e => hx b o (yAL (Heap.lt_size e)) e
  exact h pins _ σ H xs _ Q I1 (by simpa using rv) hw
def gSub (to ti : TE) (t : TSet) : TG := fun v σ H Q => to σ H fun o H1 => ti σ H1 fun i H2 => t o i v H2 fun H3 => Q σ H3
theorem pg_sub {o i : Expr} {to ti : TE} {t : TSet} (ho : PE X o to) (hi : PE X i ti) (hs : PSet X t)
    (ha : ∀ v, assign (.Subscript o i pos) X.env v = (do
      let ov <- holding [v] (eval o X.env)
      let iv <- holding [v, ov] (eval i X.env)
      standAt pos
      holding [v, ov, iv] (setItem ov iv v)
      release [v, ov, iv] []) := by intro _; rfl) : PG X (.Subscript o i pos) (gSub to ti t) := by
  intro pins s σ H v u Q I r h
  rw [ha]
  refine wpAny_bind (wpAny_holding (thn (ho pins s σ H _ I h) fun ov s1 ⟨x, H1, I1, r1, q1⟩ => ?_))
  refine wpAny_bind (wpAny_holding (thn (hi pins s1 σ H1 _ I1 q1) fun iv s2 ⟨y, H2, I2, r2, q2⟩ => ?_))
  refine wpAny_bind (wpAny_standAt (wpAny_bind (wpAny_holding (thn (hs pins s2 σ H2 x y v ov iv u _ I2 r1 r2 r q2) fun _ s3 ⟨H3, I3, q3⟩ => ?_))))
  exact wpAny_release ⟨σ, H3, I3, q3⟩
def tAsg (te : TE) (g : TG) : TS := fun D σ H => te σ H fun x H1 => g x σ H1 D.nx
theorem ps_asg {tg e : Expr} {te : TE} {g : TG} (he : PE X e te) (hg : PG X tg g) (hs : swapsWithSole [tg] e pos.line X.env = pure false := by rfl) (hw : swappedStores [tg] e X.env = pure none := by rfl)
    (h1 : (assignEach [tg] X.env).map (·.2) = [assign tg X.env] := by rfl) : PS X (.Assign [tg] e pos) (tAsg te g) := by
  intro pins s σ H D I h
  refine wpAny_Assign_stores (thn (he pins s σ H _ I h) fun v s1 ⟨x, H1, I1, r1, q1⟩ => ?_) hs hw
  rw [h1]
  exact thn (hg pins s1 σ H1 x v _ I1 r1 q1) fun _ s2 q => q
theorem ZAN {i : Nat} {x : Str} {e : Expr} {te : TE} {pos' : Pos} (hN : X.N.Nodup) (hi : X.N[i]? = some x) (hx : Loc X.env.scope x) (he : PE X e te) (hs : swapsWith e (some (.Name x pos')) pos.line X.env = pure false := by rfl) (hf : X.fn x = true ∨ X.env.scope.names.lookup x = some .local := by first | exact .inl rfl | exact .inr rfl | assumption) :
    PS X (.Assign [.Name x pos'] e pos) (tAsg te (ZDv i)) := by
  intro pins s σ H D I h
  refine wpAny_Assign_Name (thn (he pins s σ H _ I h) fun v s1 ⟨y, H1, I1, r1, q1⟩ => ?_) hs
  exact ZCf I1 hN hi hx r1 (fun s2 I2 => ⟨_, H1, I2, q1⟩) hf
def tAug (i : Nat) (te : TE) (ti : TIp) : TS := fun D σ H => ∃ x, σ[i]? = some (some x) /\ te σ H fun y H1 => ti x y H1 fun z H2 => D.nx (σ.set i (some z)) H2
def ipI (f : Int -> Int -> Int) : TIp := fun x y H Q => ∃ i j, x = .int i /\ y = .int j /\ Q (.int (f i j)) H
end
section
variable {X : Cx} {pos : Pos}
end
structure It where
  go : Nat -> Hp -> Prop
  yld : Nat -> Hp -> V -> Hp -> Prop
  stop : Nat -> Hp -> Prop
def FpOk (X : Cx) (pins : List (Addr × Obj)) (H : Hp) (b : Addr) : Prop :=
  H b = none /\ b ≠ X.env.locals /\ b ∉ X.fs /\ (b ∈ X.ex ∨ X.s₀.heap.objs.size <= b) /\ (∀ x c, X.env.cells.lookup x = some c -> c ≠ b) /\ ∀ p ∈ X.pn ++ pins, p.1 ≠ b
theorem Inv.fpOk {X : Cx} {pins : List (Addr × Obj)} {σ : St} {H H' : Hp} {s : Shared} {b : Addr} (I : Inv X pins σ H s) (hb : s.heap.objs.size <= b) (hn : H' b = none) : FpOk X pins H' b := by
  refine ⟨hn, Nat.ne_of_gt (yAW I.lt hb), I.nofs hb, .inr (yAE I.sz hb), fun x c e z => ?_, fun p hp z => ?_⟩
  . obtain ⟨v, q⟩ := I.cell x c e
    exact absurd (yAW q.lt (by rw [z]; exact hb)) (yBG _)
  . exact absurd (yAW (Heap.lt_size (I.pin p hp).1) (by rw [z]; exact hb)) (yBG _)
structure Turn (P : Program) (w : World) (K : W.Frag) (tg : Expr) (J : It) (fp : List Addr) (it : Addr) (tn : Nat -> Heap -> Prop) : Prop where
  mem : it ∈ fp
  obj : ∀ i h, tn i h -> ∀ b ∈ fp, ∃ o, h.get? b = some o /\ ∀ v, o.data ≠ .cell v
  keep : ∀ i h h', tn i h -> (∀ b ∈ fp, ∀ o, h.get? b = some o -> h'.get? b = some o) -> tn i h'
  item : ∀ (X : Cx), X.prog = P -> X.w = w -> X.K = K -> X.calm = true -> ∀ (i : Nat) (pins : List (Addr × Obj)) (s : Shared) (σ : St) (H : Hp) (E : Value -> Shared -> Prop), Inv X pins σ H s -> (∀ b ∈ fp, FpOk X pins H b) -> tn i s.heap -> J.go i H ->
    wpAny (model P w) X.A (pyNext (.ref it)) (fun r s1 => ∃ u, r = some u /\
      wpAny (model P w) X.A (letOwnedTupleGo tg (.ref it) u) (fun _ s2 => ∃ x H', Inv X pins σ H' s2 /\ RelV x u /\ J.yld i H x H' /\ tn (i + 1) s2.heap /\ ∀ b ∈ fp, H' b = none) E s1) E s
  done : ∀ (X : Cx), X.prog = P -> X.w = w -> X.K = K -> X.calm = true -> ∀ (i : Nat) (pins : List (Addr × Obj)) (s : Shared) (σ : St) (H : Hp) (E : Value -> Shared -> Prop), Inv X pins σ H s -> (∀ b ∈ fp, FpOk X pins H b) -> tn i s.heap -> J.stop i H ->
    wpAny (model P w) X.A (pyNext (.ref it)) (fun r s1 => r = none /\ Inv X pins σ H s1) E s
  self : ∀ (A : Around) (i : Nat) (s : Shared) (Q : Value -> Shared -> Prop) (E : Value -> Shared -> Prop), tn i s.heap -> Q (.ref it) s -> wpAny (model P w) A (pyIter (.ref it)) Q E s
abbrev TI := St -> Hp -> (It -> Hp -> Prop) -> Prop
def PIE (X : Cx) (pins : List (Addr × Obj)) (σ : St) (tg : Expr) (R : It -> Hp -> Prop) (itv : Value) (s2 : Shared) : Prop :=
  ∃ (it : Addr) (fp : List Addr) (tn : Nat -> Heap -> Prop) (J : It) (H' : Hp), itv = .ref it /\ Inv X pins σ H' s2 /\ Turn X.prog X.w X.K tg J fp it tn /\ tn 0 s2.heap /\ (∀ b ∈ fp, FpOk X pins H' b) /\ R J H'
def PI (X : Cx) (tg iter : Expr) (wi : TI) : Prop :=
  ∀ (pins : List (Addr × Obj)) (s : Shared) (σ : St) (H : Hp) (R : It -> Hp -> Prop), Inv X pins σ H s -> wi σ H R ->
    wpAny (model X.prog X.w) X.A (eval iter X.env) (fun v s1 => wpAny (model X.prog X.w) X.A (pyIter v) (PIE X pins σ tg R) X.xe s1) X.xe s
theorem go_of {M : Model} {A : Around} {E : Value -> Shared -> Prop} {s : Shared} {tg : Expr} {it : Addr} {u : Value} {o : Obj} {n : String} {vs : Array Value} {Q : Unit -> Shared -> Prop} (ho : s.heap.get? it = some o) (hc : o.cls = .type n) (hd : o.data = .fields vs)
    (hn : ["enumerate", "zip", "dict_itemiterator", "dict_reverseitemiterator", "odict_iterator", "itertools.zip_longest", "itertools.pairwise"].contains n = false) (hQ : Q () s) : wpAny M A (letOwnedTupleGo tg (.ref it) u) Q E s := by
  unfold letOwnedTupleGo
  cases tg <;> first
    | exact wpAny_pure hQ
    | (cases u <;> first
        | exact wpAny_pure hQ
        | (refine wpAny_bind (wpAny_load ho ?_)
           rw [hc, hd]
           show wpAny M A (if (["enumerate", "zip", "dict_itemiterator", "dict_reverseitemiterator", "odict_iterator", "itertools.zip_longest", "itertools.pairwise"].contains n && vs[0]? == some (rawInt _)) = true then _ else _) Q E s
           rw [if_neg (by intro h; rw [hn, Bool.false_and] at h; cases h)]
           exact wpAny_pure hQ))
def Itl (K : W.Frag) (a : Addr) : It :=
  ⟨fun i H => ∃ xs x, SqL K H a xs /\ xs[i]? = some x, fun i H x H' => H' = H /\ ∀ xs, SqL K H a xs -> xs[i]? = some x, fun i H => ∃ xs, SqL K H a xs /\ xs.length <= i⟩
def Itr (lo : Int) (n : Nat) : It := ⟨fun i _ => i < n, fun i H x H' => H' = H /\ x = .int (lo + i), fun i _ => n <= i⟩
theorem turn_list {P : Program} {w : World} {K : W.Frag} {tg : Expr} (a it : Addr) : Turn P w K tg (Itl K a) [it] it (fun i h => h.IsListIter it a i) where
  mem := by simp
  obj := fun i h st b hb => by
    have e : b = it := by simpa using hb
    subst e
    obtain ⟨o, e, c, d⟩ := st
    exact ⟨o, e, fun v z => by rw [d] at z; cases z⟩
  keep := fun i h h' st k => st.at fun o e => k it (by simp) o e
  item := by
    intro X hP hw hK hc i pins s σ H E I hf st hg
    subst hP hw hK
    obtain ⟨xs, x, hq, hx⟩ := hg
    obtain ⟨its, rv, p, hz⟩ := I.list hq
    obtain ⟨u, hu, ru⟩ := rv.get hx
    obtain ⟨f0, f1, f2, f3, f4, f5⟩ := hf it (by simp)
    refine wpAny_pyNext_list_item st p.isList (x := u) (by simpa using hu) fun h' st' sb => ?_
    have I1 : Inv X pins σ H { s with heap := h' } := I.turned (t' := s.toks) (fun b o hb e => (sb.2 b hb).trans e) f0 f1 f3 f4 f5
    obtain ⟨o, e, c, d⟩ := id st'
    exact ⟨u, rfl, go_of (s := { s with heap := h' }) e c d (by decide) ⟨x, H, I1, ru, ⟨rfl, fun ys hy => by rw [I.list_inj hy hq]; exact hx⟩, st', fun b hb => (hf b hb).1⟩⟩
  done := by
    intro X hP hw hK hc i pins s σ H E I hf st hg
    subst hP hw hK
    obtain ⟨xs, hq, hx⟩ := hg
    obtain ⟨its, rv, p, hz⟩ := I.list hq
    obtain ⟨f0, f1, f2, f3, f4, f5⟩ := hf it (by simp)
    have hl := rv.length
    exact wpAny_pyNext_list_end (I.ok.hd hc) st p.isList (by simp; omega) fun h' eb => ⟨rfl, I.turned (t' := s.toks) (fun b o hb e => eb b o hb e) f0 f1 f3 f4 f5⟩
  self := fun _ _ _ _ _ st h => wpAny_pyIter_listiter st h
theorem turn_range {P : Program} {w : World} {K : W.Frag} {tg : Expr} (it : Addr) (lo : Int) (n : Nat) : Turn P w K tg (Itr lo n) [it] it (fun i h => IsRangeIter h it (lo + (i : Nat) * 1) ((n : Int) - (i : Nat)) 1) where
  mem := by simp
  obj := fun i h st b hb => by
    have e : b = it := by simpa using hb
    subst e
    exact ⟨_, st, fun v z => by
      have z' : Data.fields _ = Data.cell v := z
      cases z'⟩
  keep := fun i h h' st k => k it (by simp) _ st
  item := by
    intro X hP hw hK hc i pins s σ H E I hf st hg
    subst hP hw hK
    obtain ⟨f0, f1, f2, f3, f4, f5⟩ := hf it (by simp)
    have W := Walks.range (prog := X.prog) (w := X.w) (I.ok.hd hc) it lo 1 n
    refine W.item i s _ _ hg st fun v h' tk hv st' kk => ?_
    obtain ⟨t, rfl⟩ := hv
    have I1 : Inv X pins σ H { s with heap := h', toks := tk } := I.turned (fun b o hb e => kk b o (by simpa using hb) e) f0 f1 f3 f4 f5
    refine ⟨_, rfl, go_of (s := { s with heap := h', toks := tk }) (n := "range_iterator") st' rfl rfl (by decide) ⟨.int (lo + i), H, I1, ⟨t, ?_⟩, ⟨rfl, rfl⟩, st', fun b hb => (hf b hb).1⟩⟩
    rw [Int.mul_one]
  done := by
    intro X hP hw hK hc i pins s σ H E I hf st hg
    subst hP hw hK
    obtain ⟨f0, f1, f2, f3, f4, f5⟩ := hf it (by simp)
    exact wpAny_pyNext_range_end (I.ok.hd hc) st (by have : n <= i := hg; omega) fun h' eb => ⟨rfl, I.turned (t' := s.toks) (fun b o hb e => eb b o hb e) f0 f1 f3 f4 f5⟩
  self := fun _ _ _ _ _ st h => wpAny_pyIter_rangeiter st h
section
variable {X : Cx} {tg : Expr}
def ZE5 (K : W.Frag) (tl : TE) : TI := fun σ H R => tl σ H fun x H1 => ∃ a, x = .ref a /\ (∃ xs, SqL K H1 a xs) /\ R (Itl K a) H1
theorem ZAs {l : Expr} {tl : TE} (hl : PE X l tl) : PI X tg l (ZE5 X.K tl) := by
  intro pins s σ H R I h
  refine thn (hl pins s σ H _ I h) fun v s1 ⟨x, H1, I1, r1, q1⟩ => ?_
  obtain ⟨a, e, ⟨xs, hq⟩, q⟩ := q1
  subst e
  cases r1
  obtain ⟨its, rv, p, hz⟩ := I1.list hq
  refine wpAny_pyIter_list p.isList ?_
  refine ⟨s1.heap.objs.size, [s1.heap.objs.size], _, _, H1, rfl, I1.kept (t' := s1.toks) fun b o e => Heap.get?_push_of_some _ e, turn_list a _, ⟨_, Heap.get?_push_size _ rfl, rfl, rfl⟩, fun b hb => ?_, q⟩
  have e : b = s1.heap.objs.size := by simpa using hb
  subst e
  exact I1.fpOk (yAB _) (I1.hok.fresh (yAB _))
theorem range_it {pins : List (Addr × Obj)} {σ : St} {H : Hp} {s : Shared} {R : It -> Hp -> Prop} {E : Value -> Shared -> Prop} {lo hi : Int} {t u v : Tok} {tk : Nat} (I : Inv X pins σ H s) (h1 : -(2 ^ 62) <= lo) (h2 : lo < 2 ^ 62) (h3 : -(2 ^ 62) <= hi) (h4 : hi < 2 ^ 62)
    (q : R (Itr lo (hi - lo).toNat) H) : wpAny (model X.prog X.w) X.A (pyIter (.ref s.heap.objs.size)) (PIE X pins σ tg R) E { s with heap := s.heap.push { cls := .type "range", data := .fields #[.int lo t, .int hi u, .int 1 v] }, toks := tk } := by
  refine wpAny_pyIter_range (IsRange.new ..) (small_one h1 h2 h3 h4) ?_
  have I1 : Inv X pins σ H { s with heap := s.heap.push { cls := .type "range", data := .fields #[.int lo t, .int hi u, .int 1 v] }, toks := tk } := I.kept fun b o e => Heap.get?_push_of_some _ e
  refine ⟨(s.heap.push { cls := .type "range", data := .fields #[.int lo t, .int hi u, .int 1 v] }).objs.size, [(s.heap.push { cls := .type "range", data := .fields #[.int lo t, .int hi u, .int 1 v] }).objs.size], _, _, H, rfl,
    I1.kept (t' := tk) fun b o e => Heap.get?_push_of_some _ e, turn_range _ lo (hi - lo).toNat, ?_, fun b hb => ?_, q⟩
  . have e1 : lo + ((0 : Nat) : Int) * 1 = lo := by simp
    have e2 : (((hi - lo).toNat : Nat) : Int) - ((0 : Nat) : Int) = Builtin.Range.rangeSize lo hi 1 := by rw [rangeSize_one]; split <;> omega
    show IsRangeIter _ _ (lo + ((0 : Nat) : Int) * 1) ((((hi - lo).toNat : Nat) : Int) - ((0 : Nat) : Int)) 1
    rw [e1, e2]
    exact Heap.get?_push_size _ rfl
  . have e : b = (s.heap.push { cls := .type "range", data := .fields #[.int lo t, .int hi u, .int 1 v] }).objs.size := by simpa using hb
    subst e
    exact I1.fpOk (yAB _) (I1.hok.fresh (yAB _))
def ZE4 (ta : TA) : TI := fun σ H R => ta σ H fun vs H1 => ∃ j : Int, vs = [.int j] /\ -(2 ^ 62) <= j /\ j < 2 ^ 62 /\ R (Itr 0 j.toNat) H1
def iRng2 (ta : TA) : TI := fun σ H R => ta σ H fun vs H1 => ∃ i j : Int, vs = [.int i, .int j] /\ (-(2 ^ 62) <= i /\ i < 2 ^ 62 /\ -(2 ^ 62) <= j /\ j < 2 ^ 62) /\ R (Itr i (j - i).toNat) H1
theorem ZBR {a : Expr} {ta : TA} {p pos : Pos} (hg : Gl X "range") (hm : X.mg "range" = none) (ha : PA X [a] ta) (hs : starEach [a] X.env = [(false, eval a X.env)] := by rfl) : PI X tg (.Call (.Name "range" p) [a] [] pos) (ZE4 ta) := by
  intro pins s σ H R I h
  refine Call_ (ZDC I hg hm boot_range (PyProof.Rows.callWith_type1 (thn (ha pos pins s σ H _ I h) fun us s1 ⟨vs, H1, I1, r1, q1⟩ => ?_) hs rfl))
  obtain ⟨j, e, q1, q2, q⟩ := q1
  subst e
  cases r1 with
  | cons r rr =>
    cases rr
    obtain ⟨t, rfl⟩ := r
    exact call_range_1 (range_it I1 (by omega) (by omega) q1 q2 (by simpa using q))
def tFor (wi : TI) (g : TG) (tb : TS) : TS := fun D σ H => wi σ H fun J H1 => ∃ W : Nat -> Nat -> St -> Hp -> Prop, (∃ m, W 0 m σ H1) /\ ∀ i m σ H, W i m σ H ->
  (J.stop i H /\ D.nx σ H) ∨ (J.go i H /\ ∃ N : St -> Hp -> Prop, (∀ σ' H', N σ' H' -> ∃ m', m' < m /\ W (i + 1) m' σ' H') /\ ∀ x H', J.yld i H x H' -> g x σ H' fun σ2 H2 => tb { D with nx := N, ct := N, bk := D.nx } σ2 H2)
def ZDY (fp : List Addr) (h : Heap) : List (Addr × Obj) := fp.filterMap fun b => (h.get? b).map fun o => (b, o)
theorem ZB8 {fp : List Addr} {h : Heap} {b : Addr} {o : Obj} (hb : b ∈ fp) (e : h.get? b = some o) : (b, o) ∈ ZDY fp h := List.mem_filterMap.mpr ⟨b, hb, by rw [e]; rfl⟩
theorem of_pinsAt {fp : List Addr} {h : Heap} {p : Addr × Obj} (hp : p ∈ ZDY fp h) : p.1 ∈ fp /\ h.get? p.1 = some p.2 := by
  obtain ⟨b, hb, e⟩ := List.mem_filterMap.mp hp
  cases q : h.get? b with
  | none => rw [q] at e; cases e
  | some o =>
    rw [q] at e
    have e' : (b, o) = p := Option.some.inj e
    subst e'
    exact ⟨hb, q⟩
theorem Inv.pinned {pins : List (Addr × Obj)} {σ : St} {H : Hp} {s : Shared} {fp : List Addr} (I : Inv X pins σ H s) (hf : ∀ b ∈ fp, FpOk X pins H b) (ho : ∀ b ∈ fp, ∃ o, s.heap.get? b = some o /\ ∀ v, o.data ≠ .cell v) : Inv X (pins ++ ZDY fp s.heap) σ H s :=
  I.pins_of fun p hp => (yBB.mp hp).elim (fun z => I.pin p (yAY _ z)) fun z => by
    obtain ⟨hb, e⟩ := of_pinsAt z
    obtain ⟨f0, f1, f2, _⟩ := hf p.1 hb
    obtain ⟨o, e', d⟩ := ho p.1 hb
    rw [e] at e'; cases e'
    exact ⟨e, f0, f1, f2, d⟩
theorem Inv.unpinned {pins pl : List (Addr × Obj)} {σ : St} {H : Hp} {s : Shared} (I : Inv X (pins ++ pl) σ H s) : Inv X pins σ H s := I.pins_of fun p hp => I.pin p (yAY _ (yBX _ hp))
theorem ZCD {iter : Expr} {body : List Stmt} {wi : TI} {g : TG} {tb : TS} {pos : Pos} (hp : PassesOwn (model X.prog X.w) X.A X.env X.xe) (hc : X.calm = true) (hi : PI X tg iter wi) (hg : PG X tg g) (hb : PSs X body tb)
    (hs : ∀ x, foldedSetIterable iter X.env x = pure x := by intro _; rfl) : PS X (.For tg iter body [] pos) (tFor wi g tb) := by
  intro pins s σ H D I h
  refine wpAny_For (thn (hi pins s σ H _ I h) fun v s1 h1 => thn h1 fun itv s2 h2 => ?_) hs
  obtain ⟨it, fp, tn, J, H2, e, I2, T, st2, f2, W, ⟨m0, w0⟩, turn⟩ := h2
  subst e
  -- what stays true of the iterator's objects through the loop
  have stat : ∀ {H' : Hp}, (∀ b ∈ fp, H' b = none) -> ∀ b ∈ fp, FpOk X pins H' b := fun hn b hb => ⟨hn b hb, (f2 b hb).2⟩
  refine codeAny_forLoop_any (fun n s' => ∃ i σ' H', Inv X pins σ' H' s' /\ tn i s'.heap /\ (∀ b ∈ fp, H' b = none) /\ W i n σ' H') ?_ m0 ⟨0, σ, H2, I2, st2, fun b hb => (f2 b hb).1, w0⟩
  rintro n s3 ⟨i, σ3, H3, I3, st3, fr3, w3⟩
  rcases turn i n σ3 H3 w3 with ⟨stop, qn⟩ | ⟨go, N, hN, step⟩
  . refine wpAny_passesOwn hp (thn (T.done X rfl rfl rfl hc i pins s3 σ3 H3 X.xe I3 (stat fr3) st3 stop) fun r s4 ⟨hr, I4⟩ => ?_)
    subst hr
    exact wpAny_execs_nil ⟨σ3, H3, I4, qn⟩
  . refine wpAny_passesOwn hp (thn (T.item X rfl rfl rfl hc i pins s3 σ3 H3 X.xe I3 (stat fr3) st3 go) fun r s4 ⟨u, hr, h4⟩ => ?_)
    subst hr
    refine wpAny_passesOwn hp (thn h4 fun _ s5 ⟨x, H5, I5, r5, y5, st5, fr5⟩ => ?_)
    have I5' := I5.pinned (stat fr5) (T.obj _ _ st5)
    refine wpAny_passesOwn hp (thn (hg _ s5 σ3 H5 x u _ I5' r5 (step x H5 y5)) fun _ s6 ⟨σ6, H6, I6, q6⟩ => ?_)
    refine wpAny_passesOwn hp (thn (hb _ s6 σ6 H6 _ I6 q6) fun f s7 q7 => ?_)
    have again : ∀ {σ7 : St} {H7 : Hp}, Inv X (pins ++ ZDY fp s5.heap) σ7 H7 s7 -> N σ7 H7 -> ∃ m, m < n /\ ∃ i σ' H', Inv X pins σ' H' s7 /\ tn i s7.heap /\ (∀ b ∈ fp, H' b = none) /\ W i m σ' H' := fun {σ7 H7} I7 n7 => by
      obtain ⟨m', hm, w7⟩ := hN σ7 H7 n7
      refine ⟨m', hm, i + 1, σ7, H7, I7.unpinned, T.keep _ _ _ st5 fun b hb o e => (I7.pin (b, o) (yAY _ (yAY _ (ZB8 hb e)))).1, fun b hb => ?_, w7⟩
      obtain ⟨o, e, d⟩ := T.obj _ _ st5 b hb
      exact (I7.pin (b, o) (yAY _ (yAY _ (ZB8 hb e)))).2.1
    cases f with
    | next => obtain ⟨σ7, H7, I7, n7⟩ := q7; exact again I7 n7
    | cont => obtain ⟨σ7, H7, I7, n7⟩ := q7; exact again I7 n7
    | brk => obtain ⟨σ7, H7, I7, q7⟩ := q7; exact ⟨σ7, H7, I7.unpinned, q7⟩
    | ret v => obtain ⟨x7, σ7, H7, I7, r7, q7⟩ := q7; exact ⟨x7, σ7, H7, I7.unpinned, r7, q7⟩
end
theorem for_list {K : W.Frag} {a : Addr} {xs : List V} {g : TG} {tb : TS} {D : Ends} {σ : St} {H : Hp} (Pv : Nat -> St -> Hp -> Prop) (h0 : Pv 0 σ H) (hl : ∀ i σ H, i <= xs.length -> Pv i σ H -> SqL K H a xs)
    (hs : ∀ i x σ H, xs[i]? = some x -> Pv i σ H -> g x σ H fun σ2 H2 => tb { D with nx := Pv (i + 1), ct := Pv (i + 1), bk := D.nx } σ2 H2) (hd : ∀ σ H, Pv xs.length σ H -> D.nx σ H) :
    ∃ W : Nat -> Nat -> St -> Hp -> Prop, (∃ m, W 0 m σ H) /\ ∀ i m σ H, W i m σ H ->
      ((Itl K a).stop i H /\ D.nx σ H) ∨ ((Itl K a).go i H /\ ∃ N : St -> Hp -> Prop, (∀ σ' H', N σ' H' -> ∃ m', m' < m /\ W (i + 1) m' σ' H') /\ ∀ x H', (Itl K a).yld i H x H' -> g x σ H' fun σ2 H2 => tb { D with nx := N, ct := N, bk := D.nx } σ2 H2) := by
  refine ⟨fun i m σ H => m = xs.length - i /\ i <= xs.length /\ Pv i σ H, ⟨xs.length, by simp, yAF _, h0⟩, ?_⟩
  rintro i m σ H ⟨rfl, hi, p⟩
  have q := hl i σ H hi p
  by_cases hlt : i < xs.length
  . refine .inr ⟨⟨xs, xs[i], q, by simp [hlt]⟩, Pv (i + 1), fun σ' H' p' => ⟨xs.length - (i + 1), by omega, rfl, hlt, p'⟩, fun x H' y => ?_⟩
    obtain ⟨e, y⟩ := y
    subst e
    exact hs i x σ _ (y xs q) p
  . have e : i = xs.length := by omega
    subst e
    exact .inl ⟨⟨xs, q, yAB _⟩, hd σ H p⟩
theorem for_range {lo : Int} {n : Nat} {g : TG} {tb : TS} {D : Ends} {σ : St} {H : Hp} (Pv : Nat -> St -> Hp -> Prop) (h0 : Pv 0 σ H)
    (hs : ∀ i σ H, i < n -> Pv i σ H -> g (.int (lo + i)) σ H fun σ2 H2 => tb { D with nx := Pv (i + 1), ct := Pv (i + 1), bk := D.nx } σ2 H2) (hd : ∀ σ H, Pv n σ H -> D.nx σ H) :
    ∃ W : Nat -> Nat -> St -> Hp -> Prop, (∃ m, W 0 m σ H) /\ ∀ i m σ H, W i m σ H ->
      ((Itr lo n).stop i H /\ D.nx σ H) ∨ ((Itr lo n).go i H /\ ∃ N : St -> Hp -> Prop, (∀ σ' H', N σ' H' -> ∃ m', m' < m /\ W (i + 1) m' σ' H') /\ ∀ x H', (Itr lo n).yld i H x H' -> g x σ H' fun σ2 H2 => tb { D with nx := N, ct := N, bk := D.nx } σ2 H2) := by
  refine ⟨fun i m σ H => m = n - i /\ i <= n /\ Pv i σ H, ⟨n, by simp, yAF _, h0⟩, ?_⟩
  rintro i m σ H ⟨rfl, hi, p⟩
  by_cases hlt : i < n
  . refine .inr ⟨hlt, Pv (i + 1), fun σ' H' p' => ⟨n - (i + 1), by omega, rfl, hlt, p'⟩, fun x H' y => ?_⟩
    obtain ⟨e, y⟩ := y
    subst e y
    exact hs i σ _ hlt p
  . have e : i = n := by omega
    subst e
    exact .inl ⟨yAB _, hd σ H p⟩
abbrev R2 := V -> V -> Hp -> VK -> Prop
def OpR (X : Cx) (f : Value -> Value -> Sem Value) (r : R2) : Prop :=
  ∀ (pins : List (Addr × Obj)) (s : Shared) (σ : St) (H : Hp) (x y : V) (v u : Value) (Q : VK), Inv X pins σ H s -> RelV x v -> RelV y u -> r x y H Q ->
    wpAny (model X.prog X.w) X.A (f v u) (EP X pins σ Q) X.xe s
def UnR (X : Cx) (f : Value -> Sem Value) (r : V -> Hp -> VK -> Prop) : Prop :=
  ∀ (pins : List (Addr × Obj)) (s : Shared) (σ : St) (H : Hp) (x : V) (v : Value) (Q : VK), Inv X pins σ H s -> RelV x v -> r x H Q ->
    wpAny (model X.prog X.w) X.A (f v) (EP X pins σ Q) X.xe s
def ZCb (X : Cx) (f : Value) (r : List V -> Hp -> VK -> Prop) : Prop :=
  ∀ (pins : List (Addr × Obj)) (s : Shared) (σ : St) (H : Hp) (xs : List V) (us : List Value) (Q : VK), Inv X pins σ H s -> Vals xs us -> r xs H Q ->
    wpAny (model X.prog X.w) X.A (call f us) (EP X pins σ Q) X.xe s
def tOp (r : R2) (ta tb : TE) : TE := fun σ H Q => ta σ H fun x H1 => tb σ H1 fun y H2 => r x y H2 Q
def tUn (r : V -> Hp -> VK -> Prop) (ta : TE) : TE := fun σ H Q => ta σ H fun x H1 => r x H1 Q
def rI (C : Int -> Int -> Prop) (g : Int -> Int -> V) : R2 := fun x y H Q => ∃ i j, x = .int i /\ y = .int j /\ C i j /\ Q (g i j) H
def rI0 (g : Int -> Int -> V) : R2 := fun x y H Q => ∃ i j, x = .int i /\ y = .int j /\ Q (g i j) H
def rU (g : Int -> V) : V -> Hp -> VK -> Prop := fun x H Q => ∃ i, x = .int i /\ Q (g i) H
section
variable {X : Cx} {a b c : Expr} {ta tb tc : TE} {pos : Pos}
theorem binT (ha : PE X a ta) (hb : PE X b tb) {pins : List (Addr × Obj)} {s : Shared} {σ : St} {H : Hp} {R : V -> V -> Hp -> Prop} (I : Inv X pins σ H s)
    (h : ta σ H fun x H1 => tb σ H1 fun y H2 => R x y H2) {Q : Value -> Shared -> Prop} {f : Value -> Value -> Sem Value}
    (hf : ∀ v u s2 x y H2, Inv X pins σ H2 s2 -> RelV x v -> RelV y u -> R x y H2 -> wpAny (model X.prog X.w) X.A (f v u) Q X.xe s2) :
    wpAny (model X.prog X.w) X.A (eval a X.env) (fun v s₁ => wpAny (model X.prog X.w) X.A (eval b X.env) (fun u s₂ => wpAny (model X.prog X.w) X.A (f v u) Q X.xe s₂) X.xe s₁) X.xe s := by
  refine thn (ha pins s σ H _ I h) fun v s1 ⟨x, H1, I1, r1, q1⟩ => ?_
  refine thn (hb pins s1 σ H1 _ I1 q1) fun u s2 ⟨y, H2, I2, r2, q2⟩ => ?_
  exact hf v u s2 x y H2 I2 r1 r2 q2
theorem ZAR {op : Operator} {r : R2} (ho : OpR X (binaryOp op) r) (ha : PE X a ta) (hb : PE X b tb) : PE X (.BinOp a op b pos) (tOp r ta tb) := by
  intro pins s σ H Q I h
  exact wpAny_BinOp (binT ha hb I h fun v u s2 x y H2 I2 rx ry q => ho pins s2 σ H2 x y v u Q I2 rx ry q)
theorem pe_un {op : UnaryOp} {r : V -> Hp -> VK -> Prop} (ho : UnR X (unaryOp op) r) (ha : PE X a ta) : PE X (.UnaryOp op a pos) (tUn r ta) := by
  intro pins s σ H Q I h
  exact UnaryOp_ (thn (ha pins s σ H _ I h) fun v s1 ⟨x, H1, I1, r1, q1⟩ => ho pins s1 σ H1 x v Q I1 r1 q1)
theorem opI {f : Value -> Value -> Sem Value} {C : Int -> Int -> Prop} {g : Int -> Int -> Int}
    (rule : ∀ (i j : Int) (t u : Tok) (s : Shared) (Q : Value -> Shared -> Prop) (E : Value -> Shared -> Prop), C i j -> Q (.int (g i j) s.toks) { s with toks := s.toks + 1 } -> wpAny (model X.prog X.w) X.A (f (.int i t) (.int j u)) Q E s) :
    OpR X f (rI C fun i j => .int (g i j)) := by
  intro pins s σ H x y v u Q I rx ry h
  obtain ⟨i, j, rfl, rfl, hc, q⟩ := h
  obtain ⟨t, rfl⟩ := rx
  obtain ⟨t', rfl⟩ := ry
  exact rule i j t t' s _ _ hc ⟨.int (g i j), H, I.tok _, ⟨_, rfl⟩, q⟩
theorem opI0 {f : Value -> Value -> Sem Value} {g : Int -> Int -> Int}
    (rule : ∀ (i j : Int) (t u : Tok) (s : Shared) (Q : Value -> Shared -> Prop) (E : Value -> Shared -> Prop), Q (.int (g i j) s.toks) { s with toks := s.toks + 1 } -> wpAny (model X.prog X.w) X.A (f (.int i t) (.int j u)) Q E s) :
    OpR X f (rI0 fun i j => .int (g i j)) := by
  intro pins s σ H x y v u Q I rx ry h
  obtain ⟨i, j, rfl, rfl, q⟩ := h
  obtain ⟨t, rfl⟩ := rx
  obtain ⟨t', rfl⟩ := ry
  exact rule i j t t' s _ _ ⟨.int (g i j), H, I.tok _, ⟨_, rfl⟩, q⟩
theorem opB0 {f : Value -> Value -> Sem Value} {g : Int -> Int -> Bool}
    (rule : ∀ (i j : Int) (t u : Tok) (s : Shared) (Q : Value -> Shared -> Prop) (E : Value -> Shared -> Prop), Q (.bool (g i j)) s -> wpAny (model X.prog X.w) X.A (f (.int i t) (.int j u)) Q E s) :
    OpR X f (rI0 fun i j => .bl (g i j)) := by
  intro pins s σ H x y v u Q I rx ry h
  obtain ⟨i, j, rfl, rfl, q⟩ := h
  obtain ⟨t, rfl⟩ := rx
  obtain ⟨t', rfl⟩ := ry
  exact rule i j t t' s _ _ ⟨.bl (g i j), H, I, rfl, q⟩
def CDiv (i j : Int) : Prop := 0 < j /\ j < 1073741824
def CPow (i j : Int) : Prop := 0 <= j /\ j <= 1000000 /\ i.natAbs < 2 ^ 64
def CMul (i j : Int) : Prop := (-(2 ^ 64) < i /\ i < 2 ^ 64) ∨ (-(2 ^ 64) < j /\ j < 2 ^ 64)
theorem CMul.ok {i j : Int} (h : CMul i j) : IntMulOk i j := by
  rcases h with ⟨h1, h2⟩ | ⟨h1, h2⟩
  . exact .of_left (intBits_le_64 h1 h2)
  . exact .of_right (intBits_le_64 h1 h2)
theorem ZBD : OpR X (binaryOp .Add) (rI0 fun i j => .int (i + j)) := opI0 fun _ _ _ _ _ _ _ q => add_int q
theorem ZBy : OpR X (binaryOp .Sub) (rI0 fun i j => .int (i - j)) := opI0 fun _ _ _ _ _ _ _ q => sub_int q
theorem ZDB : OpR X (binaryOp .Mult) (rI CMul fun i j => .int (i * j)) := opI fun _ _ _ _ _ _ _ hc q => mul_int q hc.ok
theorem ZAm : OpR X (binaryOp .FloorDiv) (rI CDiv fun i j => .int (i / j)) := opI fun i j _ _ _ _ _ hc q => by
  have h1 : (0 : Int) < j := hc.1
  have h2 : j < 1073741824 := hc.2
  exact floordiv_int (by omega) (by rw [Int.fdiv_eq_ediv_of_nonneg i (by omega)]; exact q) (.inl (PyProof.noPylong_small (by omega)))
theorem ZAq : OpR X (binaryOp .Mod) (rI (fun _ j => 0 < j) fun i j => .int (i % j)) := opI fun i j _ _ _ _ _ hc q => by
  have h1 : (0 : Int) < j := hc
  exact mod_int' (by omega) (by rw [Int.fmod_eq_emod_of_nonneg i (by omega)]; exact q)
theorem op_pow : OpR X (binaryOp .Pow) (rI CPow fun i j => .int (i ^ j.toNat)) := opI fun _ _ _ _ _ _ _ hc q => pow_int_small hc.1 hc.2.1 hc.2.2 q
theorem unI {f : Value -> Sem Value} {g : Int -> Int}
    (rule : ∀ (i : Int) (t : Tok) (s : Shared) (Q : Value -> Shared -> Prop) (E : Value -> Shared -> Prop), Q (.int (g i) s.toks) { s with toks := s.toks + 1 } -> wpAny (model X.prog X.w) X.A (f (.int i t)) Q E s) :
    UnR X f (rU fun i => .int (g i)) := by
  intro pins s σ H x v Q I rx h
  obtain ⟨i, rfl, q⟩ := h
  obtain ⟨t, rfl⟩ := rx
  exact rule i t s _ _ ⟨.int (g i), H, I.tok _, ⟨_, rfl⟩, q⟩
theorem un_neg : UnR X (unaryOp .USub) (rU fun i => .int (-i)) := unI fun _ _ _ _ _ q => neg_int q
end
def scal : V -> V -> Bool
  | .non, .non => true | .non, .int _ => true | .int _, .non => true | .non, .bl _ => true | .bl _, .non => true | .non, .str _ => true | .str _, .non => true
  | .int _, .int _ => true | .bl _, .bl _ => true | .str _, .str _ => true | .byt _, .byt _ => true
  | .int _, .str _ => true | .str _, .int _ => true | .bl _, .str _ => true | .str _, .bl _ => true
  | _, _ => false
def rEq : R2 := fun x y H Q => scal x y = true /\ Q (.bl (decide (x = y))) H
def rNe : R2 := fun x y H Q => scal x y = true /\ Q (.bl (!decide (x = y))) H
theorem dec_int {i j : Int} : decide (V.int i = V.int j) = (i == j) := by
  rw [Bool.eq_iff_iff]
  simp
theorem dec_bl {i j : Bool} : decide (V.bl i = V.bl j) = (i == j) := by
  rw [Bool.eq_iff_iff]
  simp
theorem dec_str {i j : Str} : decide (V.str i = V.str j) = (i == j) := by
  rw [Bool.eq_iff_iff]
  simp
theorem dec_byt {i j : Array UInt8} : decide (V.byt i = V.byt j) = (i.toList == j.toList) := by
  rw [Bool.eq_iff_iff]
  cases i
  cases j
  simp
section
variable {X : Cx} {a b c : Expr} {ta tb tc : TE} {pos : Pos}
theorem ZAh {pins : List (Addr × Obj)} {σ : St} {H : Hp} {s : Shared} {Q : VK} {k k' : Bool} (I : Inv X pins σ H s) (q : Q (.bl k) H) (e : k = k') : EP X pins σ Q (.bool k') s := by
  subst e
  exact ⟨.bl k, H, I, rfl, q⟩
theorem ZBh : OpR X (compareOp .Eq) rEq := by
  intro pins s σ H x y v u Q I rx ry h
  obtain ⟨hs, q⟩ := h
  cases x with
  | non =>
    cases rx
    cases y with
    | non => cases ry; exact PySem.EqNone.eq_none_none (ZAh I q (by simp))
    | bl j => cases ry; exact PySem.EqNone.eq_none_bool (ZAh I q (by simp))
    | int j => obtain ⟨t', rfl⟩ := ry; exact PySem.EqNone.eq_none_int (ZAh I q (by simp))
    | str j => obtain ⟨t', rfl⟩ := ry; exact PySem.EqNone.eq_none_str (ZAh I q (by simp))
    | _ => exact absurd (show false = true from hs) yAX
  | bl i =>
    cases rx
    cases y with
    | non => cases ry; exact PySem.EqNone.eq_bool_none (ZAh I q (by simp))
    | bl j => cases ry; exact eq_bool (ZAh I q dec_bl)
    | str j => obtain ⟨t', rfl⟩ := ry; exact PySem.EqMixed.eq_bool_str (ZAh I q (by simp))
    | _ => exact absurd (show false = true from hs) yAX
  | int i =>
    obtain ⟨t, rfl⟩ := rx
    cases y with
    | non => cases ry; exact PySem.EqNone.eq_int_none (ZAh I q (by simp))
    | int j => obtain ⟨t', rfl⟩ := ry; exact eq_int (ZAh I q dec_int)
    | str j => obtain ⟨t', rfl⟩ := ry; exact PySem.EqMixed.eq_int_str (ZAh I q (by simp))
    | _ => exact absurd (show false = true from hs) yAX
  | str i =>
    obtain ⟨t, rfl⟩ := rx
    cases y with
    | non => cases ry; exact PySem.EqNone.eq_str_none (ZAh I q (by simp))
    | bl j => cases ry; exact PySem.EqMixed.eq_str_bool (ZAh I q (by simp))
    | int j => obtain ⟨t', rfl⟩ := ry; exact PySem.EqMixed.eq_str_int (ZAh I q (by simp))
    | str j => obtain ⟨t', rfl⟩ := ry; exact eq_str (ZAh I q dec_str)
    | _ => exact absurd (show false = true from hs) yAX
  | byt i =>
    obtain ⟨t, rfl⟩ := rx
    cases y with
    | byt j => obtain ⟨t', rfl⟩ := ry; exact PySem.W.eq_bytes (ZAh I q dec_byt)
    | _ => exact absurd (show false = true from hs) yAX
  | _ => cases y <;> exact absurd (show false = true from hs) yAX
theorem ZEg : OpR X (compareOp .NotEq) rNe := by
  intro pins s σ H x y v u Q I rx ry h
  obtain ⟨hs, q⟩ := h
  cases x with
  | non =>
    cases rx
    cases y with
    | non => cases ry; exact PySem.EqNone.ne_none_none (ZAh I q (by simp))
    | bl j => cases ry; exact PySem.EqNone.ne_none_bool (ZAh I q (by simp))
    | int j => obtain ⟨t', rfl⟩ := ry; exact PySem.EqNone.ne_none_int (ZAh I q (by simp))
    | str j => obtain ⟨t', rfl⟩ := ry; exact PySem.EqNone.ne_none_str (ZAh I q (by simp))
    | _ => exact absurd (show false = true from hs) yAX
  | bl i =>
    cases rx
    cases y with
    | non => cases ry; exact PySem.EqNone.ne_bool_none (ZAh I q (by simp))
    | bl j => cases ry; exact ne_bool (ZAh I q (congrArg not dec_bl))
    | str j => obtain ⟨t', rfl⟩ := ry; exact PySem.EqMixed.ne_bool_str (ZAh I q (by simp))
    | _ => exact absurd (show false = true from hs) yAX
  | int i =>
    obtain ⟨t, rfl⟩ := rx
    cases y with
    | non => cases ry; exact PySem.EqNone.ne_int_none (ZAh I q (by simp))
    | int j => obtain ⟨t', rfl⟩ := ry; exact ne_int (ZAh I q (congrArg not dec_int))
    | str j => obtain ⟨t', rfl⟩ := ry; exact PySem.EqMixed.ne_int_str (ZAh I q (by simp))
    | _ => exact absurd (show false = true from hs) yAX
  | str i =>
    obtain ⟨t, rfl⟩ := rx
    cases y with
    | non => cases ry; exact PySem.EqNone.ne_str_none (ZAh I q (by simp))
    | bl j => cases ry; exact PySem.EqMixed.ne_str_bool (ZAh I q (by simp))
    | int j => obtain ⟨t', rfl⟩ := ry; exact PySem.EqMixed.ne_str_int (ZAh I q (by simp))
    | str j => obtain ⟨t', rfl⟩ := ry; exact ne_str (ZAh I q (congrArg not dec_str))
    | _ => exact absurd (show false = true from hs) yAX
  | byt i =>
    obtain ⟨t, rfl⟩ := rx
    cases y with
    | byt j => obtain ⟨t', rfl⟩ := ry; exact PySem.W.ne_bytes (ZAh I q (congrArg not dec_byt))
    | _ => exact absurd (show false = true from hs) yAX
  | _ => cases y <;> exact absurd (show false = true from hs) yAX
theorem ZC2 : OpR X (compareOp .Lt) (rI0 fun i j => .bl (decide (i < j))) := opB0 fun _ _ _ _ _ _ _ q => lt_int q
theorem op_le : OpR X (compareOp .LtE) (rI0 fun i j => .bl (decide (i <= j))) := opB0 fun _ _ _ _ _ _ _ q => le_int q
theorem ZE0 : OpR X (compareOp .Gt) (rI0 fun i j => .bl (decide (j < i))) := opB0 fun _ _ _ _ _ _ _ q => gt_int q
theorem op_ge : OpR X (compareOp .GtE) (rI0 fun i j => .bl (decide (j <= i))) := opB0 fun _ _ _ _ _ _ _ q => ge_int q
theorem ZCs : OpR X (compareOp .Is) (fun x y H Q => y = .non /\ Q (.bl (decide (x = .non))) H) := by
  intro pins s σ H x y v u Q I rx ry h
  obtain ⟨rfl, q⟩ := h
  cases ry
  refine is_none_gen (ZAh I q ?_)
  cases x <;> first
    | (cases rx; rfl)
    | (obtain ⟨t, rfl⟩ := rx; rfl)
theorem op_notN : OpR X (compareOp .IsNot) (fun x y H Q => y = .non /\ Q (.bl (!decide (x = .non))) H) := by
  intro pins s σ H x y v u Q I rx ry h
  obtain ⟨rfl, q⟩ := h
  cases ry
  refine isnot_none_gen (ZAh I q ?_)
  cases x <;> first
    | (cases rx; rfl)
    | (obtain ⟨t, rfl⟩ := rx; rfl)
theorem ZAS (b : Expr) {op : CmpOp} (h : op ≠ .In := by decide) (h2 : op ≠ .NotIn := by decide) : behindInMarks op b = false := by
  have e1 : (op == CmpOp.In) = false := by cases op <;> first | rfl | exact absurd rfl h
  have e2 : (op == CmpOp.NotIn) = false := by cases op <;> first | rfl | exact absurd rfl h2
  cases b <;> simp [behindInMarks, e1, e2]
theorem ZBY {op : CmpOp} {r : R2} (ho : OpR X (compareOp op) r) (ha : PE X a ta) (hb : PE X b tb) (hm : behindInMarks op b = false) : PE X (.Compare a [op] [b] pos) (tOp r ta tb) := by
  intro pins s σ H Q I h
  exact wpAny_Compare1 (binT ha hb I h fun v u s2 x y H2 I2 rx ry q => ho pins s2 σ H2 x y v u Q I2 rx ry q) hm
def ZEm (t : TE) : TT := fun σ H Q => t σ H fun x H' => ∃ k, x = .bl k /\ Q k H'
theorem ZAP {op : CmpOp} {r : R2} (ho : OpR X (compareOp op) r) (ha : PE X a ta) (hb : PE X b tb) (hm : behindInMarks op b = false) : PT X (.Compare a [op] [b] pos) (ZEm (tOp r ta tb)) := by
  intro pins s σ H Q I h
  refine wpAny_isTrue_Compare1 (thn (ha pins s σ H _ I h) fun v s1 ⟨x, H1, I1, r1, q1⟩ => thn (hb pins s1 σ H1 _ I1 q1) fun u s2 ⟨y, H2, I2, r2, q2⟩ =>
    thn (ho pins s2 σ H2 x y v u _ I2 r1 r2 q2) fun c s3 ⟨z, H3, I3, r3, k, e, q3⟩ => ?_) hm
  subst e
  cases r3
  exact wpAny_truthy_bool ⟨H3, I3, q3⟩
def tChain (r r' : R2) (ta tb tc : TE) : TE := fun σ H Q => ta σ H fun x H1 => tb σ H1 fun y H2 => r x y H2 fun z H3 => ∃ k, z = .bl k /\
  (if k = true then tc σ H3 fun w' H4 => r' y w' H4 Q else Q (.bl false) H3)
theorem ZD4 : (sizeLine : Nat) < 2 ^ 63 := by rw [sizeLine_eq]; decide
theorem ZDF {x : V} {us : List Value} (r : Vals [x] us) : ∃ u, us = [u] /\ RelV x u := by
  cases r with
  | cons r1 r2 => cases r2; exact ⟨_, rfl, r1⟩
theorem ZEl {x y : V} {us : List Value} (r : Vals [x, y] us) : ∃ u w', us = [u, w'] /\ RelV x u /\ RelV y w' := by
  cases r with
  | cons r1 r2 =>
    cases r2 with
    | cons r3 r4 => cases r4; exact ⟨_, _, rfl, r1, r3⟩
theorem ZC0 (hc : X.calm = true) : ZCb X (.builtin "max") (fun xs H Q => ∃ i j, xs = [.int i, .int j] /\ Q (.int (if j > i then j else i)) H) := by
  intro pins s σ H xs us Q I r h
  obtain ⟨i, j, rfl, q⟩ := h
  obtain ⟨u, w', rfl, ⟨t, rfl⟩, ⟨t', rfl⟩⟩ := ZEl r
  refine max_two_ints (I.ok.hd hc) fun h' tk k => ⟨_, H, I.kept k, ?_, q⟩
  by_cases hj : j > i
  . rw [if_pos hj, if_pos hj]; exact ⟨_, rfl⟩
  . rw [if_neg hj, if_neg hj]; exact ⟨_, rfl⟩
theorem call_min2 (hc : X.calm = true) : ZCb X (.builtin "min") (fun xs H Q => ∃ i j, xs = [.int i, .int j] /\ Q (.int (if j < i then j else i)) H) := by
  intro pins s σ H xs us Q I r h
  obtain ⟨i, j, rfl, q⟩ := h
  obtain ⟨u, w', rfl, ⟨t, rfl⟩, ⟨t', rfl⟩⟩ := ZEl r
  refine min_two_ints (I.ok.hd hc) fun h' tk k => ⟨_, H, I.kept k, ?_, q⟩
  by_cases hj : j < i
  . rw [if_pos hj, if_pos hj]; exact ⟨_, rfl⟩
  . rw [if_neg hj, if_neg hj]; exact ⟨_, rfl⟩
end
structure ObjM (h : Heap) (x dx C : Addr) (mA : Str -> Option Value) : Prop where
  obj : h.get? x = some (PySem.W.instObj C dx)
  ns : h.Ns1 dx mA
  ne : dx ≠ x
theorem lookIn_ns {h : Heap} {dx : Addr} {mA : Str -> Option Value} (n : h.Ns1 dx mA) : ∃ od, h.get? dx = some od /\ ∀ name, PySem.W.lookIn name od = some (mA name) := by
  obtain ⟨o, es, ep, ho, hd, hk, _, hm⟩ := n
  refine ⟨o, ho, fun name => ?_⟩
  have e := hm name
  unfold nsFind findBy at e
  rw [<- Array.find?_toList] at e
  unfold PySem.W.lookIn
  rw [hd]
  dsimp only
  split
  . rename_i y q
    rw [q] at e
    exact congrArg some e
  . rename_i q
    rw [q] at e
    have a : es.toList.any (·.refKey) = false := by
      rw [List.any_eq_false]
      intro y hy
      obtain ⟨z, t, hkey⟩ := hk y (Array.mem_toList_iff.mp hy)
      simp [DictEntry.refKey, hkey]
    have a' : ¬ es.toList.any (·.refKey) = true := by rw [a]; exact yAX
    rw [if_neg a']
    exact congrArg some e
theorem ObjM.look {h : Heap} {x dx C : Addr} {mA : Str -> Option Value} (I : ObjM h x dx C mA) : ∃ od, PySem.W.InstAt h x (PySem.W.instObj C dx) C (some od) /\ ∀ name, PySem.W.lookIn name od = some (mA name) :=
  let ⟨od, ho, hl⟩ := lookIn_ns I.ns
  ⟨od, ⟨I.obj, rfl, rfl, ho⟩, hl⟩
section
variable {prog : Program} {w : World} {A : Around} {E : Value -> Shared -> Prop} {s : Shared} {K : W.Frag} {x dx C f : Addr} {mA : Str -> Option Value} {name : Str} {v : Value}
theorem get_map {expr : Bool} {Q : Value -> Shared -> Prop} (X : K.In s.heap) (I : ObjM s.heap x dx C mA) (hg : PySem.W.plainGet K C name = true) (hh : PySem.W.hasDictIn K C = true)
    (ha : W.findIn K (.ref C) name = some none) (hv : mA name = some v) (hv' : PySem.W.handedIn v = true) (h : Q v { s with toks := s.toks + 1 }) :
    wpAny (model prog w) A (getAttr (.ref x) name expr) Q E s := by
  obtain ⟨od, J, hl⟩ := I.look
  exact PySem.W.get_value X J (PySem.W.plainGet_of hg).1 (PySem.W.findObj_own hh ha rfl (by rw [hl, hv])) hv' h
theorem get_meth {pl : Sem Bool} {Q : Value × List Value -> Shared -> Prop} (X : K.In s.heap) (I : ObjM s.heap x dx C mA) (hg : PySem.W.plainGet K C name = true)
    (hf : W.findIn K (.ref C) name = some (some (.ref f))) (ht : PySem.W.isFn K (.ref f) = true) (hv : mA name = none) (h : Q (.ref f, [.ref x]) s) :
    wpAny (model prog w) A (getMethod (.ref x) name pl) Q E s := by
  obtain ⟨od, J, hl⟩ := I.look
  exact PySem.W.method_fn X J (PySem.W.plainGet_of hg).1 (PySem.W.plainGet_of hg).2 hf (beq_iff_eq.mp ht) (by show (PySem.W.lookIn name od).map (·.isSome) = some false; rw [hl, hv]; rfl) h
theorem set_map {ns : List Str} {Q : Unit -> Shared -> Prop} (X : K.In s.heap) (I : ObjM s.heap x dx C mA)
    (hs : W.findIn K (.ref C) "__setattr__" = some (some (.builtin "object.__setattr__"))) (hp : PySem.W.plainOver K C = true) (ht : PySem.W.takerIn K C name = some none) (hh : PySem.W.hasDictIn K C = true)
    (hw : PySem.Within mA ns) (hsz : ns.length <= sizeLine)
    (h : ∀ h', ObjM h' x dx C (fun y => if y = name then some v else mA y) -> Heap.SameBut dx s.heap h' -> Q () { s with heap := h', toks := s.toks + 2 }) :
    wpAny (model prog w) A (setAttr (.ref x) name v) Q E s := by
  obtain ⟨od, J, hl⟩ := I.look
  refine PySem.W.set_plain X J hs (PySem.W.osa_open (s := { s with toks := s.toks + 1 }) (r := none) X J hp ht fun b => ?_)
  obtain ⟨cd, hc, hd'⟩ := PySem.W.any_some hh
  have hx : s.heap.get? x = some ⟨.ref C, some dx, .plain, #[]⟩ := I.obj
  refine wpAny_bind (wpAny_pure (wpAny_bind (wpAny_bind (wpAny_loadPart hx (wpAny_bind (PySem.W.Looks.here (s := { s with toks := s.toks + 1 }) (PySem.W.looks_clsIn X hc) ?_))))))
  rw [hd']
  refine wpAny_pure (a := some dx) (wpAny_bind (wpAny_pure (wpAny_bind ?_)))
  refine wpAny_nsSet1 (s := { s with toks := s.toks + 1 }) I.ns fun h' hn2 hs2 => ?_
  obtain ⟨oD, esD, epD, hoD, hdD, hcD⟩ := hn2.count (PySem.Within.cons name v hw)
  refine wpAny_bind (wpAny_lookBehind hoD (by rw [hdD]; exact pastItsLine_dict (yAE hcD (by rw [yAR]; omega))) ?_)
  exact wpAny_pure (h _ ⟨(hs2.2 _ (Ne.symm I.ne)).trans I.obj, hn2, I.ne⟩ hs2)
theorem make_map {R : Result -> Shared -> Prop} {vs : List Value} {kw : List (Str × Value)} (X : K.In s.heap) (hm : PySem.W.makesIn K C = true)
    (hi : W.findIn K (.ref C) "__init__" = some (some (.ref f))) (hf : PySem.W.typeIn K (.ref f) = some (.type "function"))
    (h : codeAny (model prog w) (A.under (.builtin "type.__call__" ⟨.ref C :: vs, kw⟩)) (.call (.ref f) ⟨.ref (s.heap.objs.size + 1) :: vs, kw⟩) (PySem.W.InitBack (s.heap.objs.size + 1) R)
      { s with heap := (s.heap.push PySem.W.emptyDict).push (PySem.W.instObj C s.heap.objs.size) }) :
    codeAny (model prog w) A (.call (.ref C) ⟨vs, kw⟩) R s := by
  obtain ⟨hh, g, d, t, os⟩ := s
  exact PySem.W.make_core (PySem.W.makes_of X hm) (PySem.W.looks_findIn X hi) (fun self => PySem.W.bind_fn X self hf) (.inl rfl) h
end
def putF (f : Str) (v : V) : List (Str × V) -> List (Str × V)
  | [] => [(f, v)]
  | (g, x) :: r => if g = f then (g, v) :: r else (g, x) :: putF f v r
theorem ZAa (f g : Str) (v : V) : ∀ fs : List (Str × V), (putF f v fs).lookup g = if g = f then some v else fs.lookup g
  | [] => by
    show List.lookup g [(f, v)] = _
    by_cases h : g = f
    . have hb : (g == f) = true := beq_iff_eq.mpr h
      simp only [List.lookup, hb, if_pos h]
    . have hb : (g == f) = false := beq_eq_false_iff_ne.mpr h
      simp only [List.lookup, hb, if_neg h]
  | (k, x) :: r => by
    have ih := ZAa f g v r
    rw [show putF f v ((k, x) :: r) = (if k = f then (k, v) :: r else (k, x) :: putF f v r) from rfl]
    by_cases hk : k = f
    . rw [if_pos hk]
      by_cases h : g = k
      . have hb : (g == k) = true := beq_iff_eq.mpr h
        simp only [List.lookup, hb, if_pos (h.trans hk)]
      . have hb : (g == k) = false := beq_eq_false_iff_ne.mpr h
        simp only [List.lookup, hb, if_neg (fun e : g = f => h (e.trans hk.symm))]
    . rw [if_neg hk]
      by_cases h : g = k
      . have hb : (g == k) = true := beq_iff_eq.mpr h
        simp only [List.lookup, hb, if_neg (fun e : g = f => hk (h.symm.trans e))]
      . have hb : (g == k) = false := beq_eq_false_iff_ne.mpr h
        simp only [List.lookup, hb]
        exact ih
theorem ZCw (f : Str) (v : V) : ∀ fs : List (Str × V), f ∈ (putF f v fs).map (·.1) /\ ∀ g, g ∈ fs.map (·.1) -> g ∈ (putF f v fs).map (·.1)
  | [] => ⟨by simp [putF], fun g h => by simp at h⟩
  | (k, x) :: r => by
    obtain ⟨i1, i2⟩ := ZCw f v r
    rw [show putF f v ((k, x) :: r) = (if k = f then (k, v) :: r else (k, x) :: putF f v r) from rfl]
    by_cases hk : k = f
    . rw [if_pos hk]
      subst hk
      exact ⟨by simp, fun g h => by simpa using h⟩
    . rw [if_neg hk]
      refine ⟨?_, fun g h => ?_⟩
      . rw [yAP]
        exact yAS _ i1
      . rw [yAP] at h ⊢
        rcases yAH.mp h with e | e
        . exact yAH.mpr (.inl e)
        . exact yAS _ (i2 g e)
theorem ZCI (f : Str) (v : V) : ∀ fs : List (Str × V), (putF f v fs).length <= fs.length + 1
  | [] => by simp [putF]
  | (k, x) :: r => by
    have ih := ZCI f v r
    rw [show putF f v ((k, x) :: r) = (if k = f then (k, v) :: r else (k, x) :: putF f v r) from rfl]
    by_cases hk : k = f
    . rw [if_pos hk, yAR, yAR]; omega
    . rw [if_neg hk, yAR, yAR]; omega
theorem RelO.some_of {v : V} {o : Option Value} (r : RelO (some v) o) : ∃ u, o = some u /\ RelV v u := by
  cases o with
  | none => exact (show False from r).elim
  | some u => exact ⟨u, rfl, r⟩
theorem RelO.none_of {o : Option Value} (r : RelO none o) : o = none := by
  cases o with
  | none => rfl
  | some u => exact (show False from r).elim
theorem handed_of {v : V} {u : Value} (r : RelV v u) : PySem.W.handedIn u = true := by
  cases v with
  | non => cases (show u = Value.none from r); rfl
  | bl b => cases (show u = Value.bool b from r); rfl
  | int i => obtain ⟨t, e⟩ := (show ∃ t, u = Value.int i t from r); cases e; rfl
  | str x => obtain ⟨t, e⟩ := (show ∃ t, u = Value.str x t from r); cases e; rfl
  | byt b => obtain ⟨t, e⟩ := (show ∃ t, u = Value.bytes b t from r); cases e; rfl
  | flt b => obtain ⟨t, e⟩ := (show ∃ t, u = Value.float b t from r); cases e; rfl
  | ref a => cases (show u = Value.ref a from r); rfl
  | ty n => cases (show u = Value.type n from r); rfl
section
variable {P : Program} {w : World} {H H' : Hp} {h h' : Heap} {a C dx : Addr} {fs fs' : List (Str × V)}
theorem ZDr (hok : HOk P w H h) (e : H a = some (.ins C dx fs)) : ∃ mA, ObjM h a dx C mA /\ (∀ f, RelO (fs.lookup f) (mA f)) /\ PySem.Within mA (fs.map (·.1)) /\ fs.length <= 1000 /\ H dx = some (.own a) := by
  obtain ⟨d, z, ne, ob, mA, n, r, q⟩ := (show ObjOk P w H h a (.ins C dx fs) from hok a _ e)
  exact ⟨mA, ⟨ob, n, ne⟩, r, q, z, d⟩
end
structure Cls (K : W.Frag) (C : Addr) : Prop where
  pg : PySem.W.plainGet K C Str.empty = true
  hd : PySem.W.hasDictIn K C = true
  po : PySem.W.plainOver K C = true
  sa : W.findIn K (.ref C) "__setattr__" = some (some (.builtin "object.__setattr__"))
theorem Cls.get {K : W.Frag} {C : Addr} (c : Cls K C) (f : Str) : PySem.W.plainGet K C f = true := c.pg
def NoAttr (K : W.Frag) (C : Addr) (f : Str) : Prop := W.findIn K (.ref C) f = some none
theorem NoAttr.taker {K : W.Frag} {C : Addr} {f : Str} (n : NoAttr K C f) : PySem.W.takerIn K C f = some none := by
  unfold PySem.W.takerIn
  rw [show W.findIn K (.ref C) f = some none from n]
  rfl
structure Meth (K : W.Frag) (C : Addr) (m : Str) (f : Addr) : Prop where
  at_ : W.findIn K (.ref C) m = some (some (.ref f))
  fn : PySem.W.isFn K (.ref f) = true
  kp : W.keepIn K (.ref f) = true
section
variable {X : Cx} {pins : List (Addr × Obj)} {σ : St} {H : Hp} {s : Shared} {a C dx : Addr} {fs : List (Str × V)} {f : Str} {v : V} {A : Around} {E : Value -> Shared -> Prop}
theorem getattr_ok {b : Bool} {Q : Value -> Shared -> Prop} (I : Inv X pins σ H s) (e : H a = some (.ins C dx fs)) (c : Cls X.K C) (n : NoAttr X.K C f) (l : fs.lookup f = some v)
    (h : ∀ u s', Inv X pins σ H s' -> RelV v u -> Q u s') : wpAny (model X.prog X.w) A (getAttr (.ref a) f b) Q E s := by
  obtain ⟨mA, O, r, _, _, _⟩ := ZDr I.hok e
  obtain ⟨u, hu, ru⟩ := RelO.some_of (v := v) (o := mA f) (by rw [<- l]; exact r f)
  exact get_map I.kIn O (c.get f) c.hd n hu (handed_of ru) (h u _ (I.tok _) ru)
theorem getmeth_ok {m : Str} {g : Addr} {pl : Sem Bool} {Q : Value × List Value -> Shared -> Prop} (I : Inv X pins σ H s) (e : H a = some (.ins C dx fs)) (c : Cls X.K C) (k : Meth X.K C m g) (l : fs.lookup m = none)
    (h : Q (.ref g, [.ref a]) s) : wpAny (model X.prog X.w) A (getMethod (.ref a) m pl) Q E s := by
  obtain ⟨mA, O, r, _, _, _⟩ := ZDr I.hok e
  have hn : mA m = none := RelO.none_of (by rw [<- l]; exact r m)
  exact get_meth I.kIn O (c.get m) k.at_ k.fn hn h
theorem setattr_ok {y : V} {u : Value} {Q : Unit -> Shared -> Prop} (I : Inv X pins σ H s) (e : H a = some (.ins C dx fs)) (c : Cls X.K C) (n : NoAttr X.K C f) (hl : fs.length < 1000) (ry : RelV y u)
    (h : ∀ s', Inv X pins σ (upd H a (.ins C dx (putF f y fs))) s' -> Q () s') : wpAny (model X.prog X.w) A (setAttr (.ref a) f u) Q E s := by
  obtain ⟨mA, O, r, wi, _, ho⟩ := ZDr I.hok e
  have hz : (fs.map (·.1)).length <= sizeLine := by rw [yAA, sizeLine_eq]; omega
  refine set_map I.kIn O c.sa c.po n.taker c.hd wi hz fun h' O' sb => h _ ?_
  have hd : ∃ o, h'.get? dx = some o := let ⟨o, _, _, e', _⟩ := O'.ns; ⟨o, e'⟩
  refine I.write (x := a) (e := dx) (by rw [e]; exact True.intro) (.inr ho) (fun b q hb z => (sb.2 b hb).trans z) hd ?_
  refine ⟨by rw [ZAI O.ne]; exact ho, ?_, O.ne, O'.obj, _, O'.ns, fun g => ?_, fun g hg => ?_⟩
  . have := ZCI f y fs; omega
  . show RelO ((putF f y fs).lookup g) (if g = f then some u else mA g)
    rw [ZAa]
    by_cases q : g = f
    . rw [if_pos q, if_pos q]; exact ry
    . rw [if_neg q, if_neg q]; exact r g
  . by_cases q : g = f
    . rw [q]; exact (ZCw f y fs).1
    . refine (ZCw f y fs).2 g (wi g fun z => hg ?_)
      show (if g = f then some u else mA g) = none
      rw [if_neg q]; exact z
theorem Inv.made (I : Inv X pins σ H s) : Inv X pins σ (upd (upd H s.heap.objs.size (.own (s.heap.objs.size + 1))) (s.heap.objs.size + 1) (.ins C s.heap.objs.size []))
    { s with heap := (s.heap.push PySem.W.emptyDict).push (PySem.W.instObj C s.heap.objs.size) } := by
  have e1 : (s.heap.push PySem.W.emptyDict).get? s.heap.objs.size = some PySem.W.emptyDict := Heap.get?_push_size s.heap rfl
  have e2 : ((s.heap.push PySem.W.emptyDict).push (PySem.W.instObj C s.heap.objs.size)).get? (s.heap.objs.size + 1) = some (PySem.W.instObj C s.heap.objs.size) := by
    have := Heap.get?_push_size (s.heap.push PySem.W.emptyDict) (o := PySem.W.instObj C s.heap.objs.size) rfl
    rwa [Heap.size_push] at this
  have e3 : (s.heap.push PySem.W.emptyDict).Ns s.heap.objs.size (fun _ => none) := ⟨PySem.W.emptyDict, #[], _, e1, rfl, (fun e he => absurd he (by simp)), fun _ => rfl⟩
  have I1 := I.laid (a := s.heap.objs.size) (o := .own (s.heap.objs.size + 1)) (h' := s.heap.push PySem.W.emptyDict) (t' := s.toks) (fun b u q => Heap.get?_push_of_some _ q) (yAB _) ⟨_, e1⟩
  refine I1.laid (a := s.heap.objs.size + 1) (o := .ins C s.heap.objs.size []) (t' := s.toks) (fun b u q => Heap.get?_push_of_some _ q) (Nat.le_of_eq (Heap.size_push _ _)) ?_
  have ne : s.heap.objs.size ≠ s.heap.objs.size + 1 := yAL (yCD _)
  refine ⟨by rw [ZAI ne, ZAG], yAF _, ne, e2, fun _ => none, (Heap.Ns1.of_empty e3).at fun o q => Heap.get?_push_of_some _ q, fun _ => True.intro, fun y hy => absurd rfl hy⟩
theorem attr_of {prog : Program} {w : World} {env : Env} {e : Expr} {f : Str} {pos : Pos} {s : Shared} {Q : Value -> Shared -> Prop} (hb : attributeBase e f env (eval e env) = eval e env)
    (h : wpAny (model prog w) A (eval e env) (fun o s₁ => wpAny (model prog w) A (getAttr o f true) Q E s₁) E s) : wpAny (model prog w) A (eval (.Attribute e f pos) env) Q E s :=
  Attribute_any_ h (by rw [arm_eval_Attribute, hb])
end
def tFld (K : W.Frag) (ta : TE) (f : Str) : TE := fun σ H Q => ta σ H fun x H1 => ∃ a C dx fs v, x = .ref a /\ H1 a = some (.ins C dx fs) /\ Cls K C /\ NoAttr K C f /\ fs.lookup f = some v /\ Q v H1
def sFld (K : W.Frag) (ta tv : TE) (f : Str) : TS := fun D σ H => tv σ H fun y H1 => ta σ H1 fun x H2 => ∃ a C dx fs, x = .ref a /\ H2 a = some (.ins C dx fs) /\ Cls K C /\ NoAttr K C f /\ fs.length < 1000 /\
  D.nx σ (upd H2 a (.ins C dx (putF f y fs)))
def InOp (X : Cx) (op : Operator) (rd : V -> V -> Hp -> VK -> Prop) : Prop :=
  ∀ (pins : List (Addr × Obj)) (s : Shared) (σ : St) (H : Hp) (x y : V) (u v : Value) (Q : VK), Inv X pins σ H s -> RelV x u -> RelV y v -> rd x y H Q -> wpAny (model X.prog X.w) X.A (inplaceOp op u v) (EP X pins σ Q) X.xe s
def sFldAug (K : W.Frag) (ta tv : TE) (rd : V -> V -> Hp -> VK -> Prop) (f : Str) : TS := fun D σ H => ta σ H fun x H1 => ∃ a C dx fs v, x = .ref a /\ H1 a = some (.ins C dx fs) /\ Cls K C /\ NoAttr K C f /\ fs.lookup f = some v /\
  tv σ H1 fun y H2 => rd v y H2 fun z H3 => ∃ dx' fs', H3 a = some (.ins C dx' fs') /\ fs'.length < 1000 /\ D.nx σ (upd H3 a (.ins C dx' (putF f z fs')))
section
variable {X : Cx} {o e value : Expr} {f : Str} {pos pos' tpos : Pos} {ta tv : TE}
theorem ZAp (he : PE X e ta) (hb : attributeBase e f X.env (eval e X.env) = eval e X.env) : PE X (.Attribute e f pos) (tFld X.K ta f) := by
  intro pins s σ H Q I h
  refine attr_of hb (thn (he pins s σ H _ I h) fun u s1 ⟨x, H1, I1, rx, a, C, dx, fs, v, ex, ea, c, n, l, q⟩ => ?_)
  subst ex
  obtain rfl : u = Value.ref a := rx
  exact getattr_ok I1 ea c n l fun u' s2 I2 ru => ⟨v, H1, I2, ru, q⟩
theorem ZBf (ha : PE X o ta) (hv : PE X value tv) (hs : swapsWith value (some (.Attribute o f pos')) pos.line X.env = pure false) : PS X (.Assign [.Attribute o f pos'] value pos) (sFld X.K ta tv f) := by
  intro pins s σ H D I h
  refine plainObj_wpAny_Assign_Attribute (thn (hv pins s σ H _ I h) fun u s1 ⟨y, H1, I1, ry, q⟩ => thn (ha pins s1 σ H1 _ I1 q) fun ov s2 ⟨x, H2, I2, rx, a, C, dx, fs, ex, ea, c, n, l, q2⟩ => ?_) hs
  subst ex
  obtain rfl : ov = Value.ref a := rx
  exact setattr_ok I2 ea c n l ry fun s3 I3 => ⟨σ, _, I3, q2⟩
theorem ps_fldaug {op : Operator} {rd : V -> V -> Hp -> VK -> Prop} (ha : PE X o ta) (hv : PE X value tv) (hop : InOp X op rd) : PS X (.AugAssign (.Attribute o f tpos) op value pos) (sFldAug X.K ta tv rd f) := by
  intro pins s σ H D I h
  refine wpAny_AugAssign_AttributeAny (thn (ha pins s σ H _ I h) fun ov s1 ⟨x, H1, I1, rx, a, C, dx, fs, v, ex, ea, c, n, l, q⟩ => ?_)
  subst ex
  obtain rfl : ov = Value.ref a := rx
  refine getattr_ok I1 ea c n l fun u s2 I2 ru => thn (hv pins s2 σ H1 _ I2 q) fun w3 s3 ⟨y, H2, I3, ry, q3⟩ => thn (hop pins s3 σ H2 v y u w3 _ I3 ru ry q3) fun w4 s4 ⟨z, H3, I4, rz, dx', fs', ea', l', q4⟩ => ?_
  exact setattr_ok I4 ea' c n l' rz fun s5 I5 => ⟨σ, _, I5, q4⟩
def rAdd : V -> V -> Hp -> VK -> Prop := fun x y H Q => ∃ i j, x = .int i /\ y = .int j /\ Q (.int (i + j)) H
theorem in_add : InOp X .Add rAdd := by
  rintro pins s σ H x y u v Q I rx ry ⟨i, j, rfl, rfl, q⟩
  obtain ⟨t, rfl⟩ := (show ∃ t, u = Value.int i t from rx)
  obtain ⟨t', rfl⟩ := (show ∃ t', v = Value.int j t' from ry)
  exact PyProof.Rows.iadd_int ⟨.int (i + j), H, I.tok _, ⟨_, rfl⟩, q⟩
end
section
variable {X : Cx} {pins : List (Addr × Obj)} {σ : St} {H : Hp} {s : Shared} {A : Around} {E : Value -> Shared -> Prop} {Q : Value -> Shared -> Prop} {c : Value} {b : Bool}
end
structure Room (k : Nat) (A : Around) : Prop where
  hd : A.handled = none
  dp : A.depth + 3 * k + 5 < recursionLimit
  un : A.units + 16 * k + 200 < cLine
theorem Room.mono {j k : Nat} {A : Around} (r : Room k A) (h : j <= k) : Room j A := ⟨r.hd, by have := r.dp; omega, by have := r.un; omega⟩
theorem Room.deeper {k : Nat} {A : Around} (r : Room (k + 1) A) (env : Env) : Room k (A.deeper env) :=
  ⟨r.hd, by have := r.dp; show A.depth + 1 + 3 * k + 5 < _; omega, by have := r.un; show A.units + 3 + 16 * k + 200 < _; omega⟩
theorem make_depth {A : Around} {C : Addr} {us : List Value} {kw : List (Str × Value)} : (A.under (.builtin "type.__call__" ⟨.ref C :: us, kw⟩)).depth = A.depth + 1 := by
  first | rfl | simp [Around.under, Code.weight, Code.isCreation, Code.isGuard, Code.isCaller, Code.frames, Code.isFrame, guardIds]
theorem make_units {A : Around} {C : Addr} {us : List Value} {kw : List (Str × Value)} : (A.under (.builtin "type.__call__" ⟨.ref C :: us, kw⟩)).units = A.units + 1 := by
  first | rfl | simp [Around.under, Code.cUnits, Code.frames, Code.isFrame]
theorem Room.make {k : Nat} {A : Around} (r : Room (k + 1) A) (C : Addr) (us : List Value) (kw : List (Str × Value)) : Room k (A.under (.builtin "type.__call__" ⟨.ref C :: us, kw⟩)) :=
  ⟨r.hd, by have := r.dp; rw [make_depth]; omega, by have := r.un; rw [make_units]; omega⟩
theorem Room.depth {k : Nat} {A : Around} (r : Room k A) : A.depth < recursionLimit := by have := r.dp; omega
theorem Room.units {k : Nat} {A : Around} (r : Room k A) : A.units + 64 < cLine := by have := r.un; omega
def tNil : TA := fun _ H Q => Q [] H
def ZCT (ta : TE) (tr : TA) : TA := fun σ H Q => ta σ H fun x H1 => tr σ H1 fun xs H2 => Q (x :: xs) H2
section
variable {X : Cx} {e : Expr} {es : List Expr} {te : TE} {t : TA} {pos : Pos}
theorem ZAD : PA X [] tNil := fun _ _ _ _ H Q I h => Calls.spliced_nil ⟨[], H, I, .nil, h⟩
theorem ZAA (ha : PE X e te) (hr : PA X es t) (hs : starEach (e :: es) X.env = (false, eval e X.env) :: starEach es X.env := by rfl) : PA X (e :: es) (ZCT te t) := by
  intro pos pins s σ H Q I h
  rw [hs]
  show wpAny _ _ (spliced ((false, eval e X.env) :: backTo pos (starEach es X.env))) _ _ s
  refine Calls.spliced_cons (thn (ha pins s σ H _ I h) fun u s1 ⟨x, H1, I1, r1, q1⟩ => ?_)
  exact thn (hr pos pins s1 σ H1 _ I1 q1) fun us s2 ⟨xs, H2, I2, r2, q2⟩ => ⟨x :: xs, H2, I2, .cons r1 r2, q2⟩
def tTup (t : TA) : TE := fun σ H Q => t σ H fun xs H1 => xs.length <= sizeLine /\ ∀ p, H1 p = none -> Q (.ref p) (upd H1 p (.tup xs))
def tLst (t : TA) : TE := fun σ H Q => t σ H fun xs H1 => xs.length <= sizeLine /\ ∀ p, H1 p = none -> Q (.ref p) (upd H1 p (.lst xs))
theorem ZBC {x1} (h : PA X es t) : PE X (.Tuple es x1 pos) (tTup t) := by
  intro pins s σ H Q I hq
  refine wpAny_Tuple_spliced (thn (h pos pins s σ H _ I hq) fun us s1 ⟨xs, H1, I1, r, z, q⟩ => ⟨by rw [<- r.length]; exact z, ?_⟩)
  have hf : H1 s1.heap.objs.size = none := I1.hok.fresh (yAB _)
  refine ⟨.ref s1.heap.objs.size, upd H1 s1.heap.objs.size (.tup xs), I1.laid (t' := s1.toks) (fun b u e => Heap.get?_push_of_some _ e) (yAB _) ?_, rfl, q _ hf⟩
  exact ⟨z, us, r, ⟨_, Heap.get?_push_size _ rfl, rfl, _, rfl⟩⟩
theorem ZBM (h : PA X es t) : PE X (.List es pos) (tLst t) := by
  intro pins s σ H Q I hq
  refine wpAny_List_spliced (thn (h pos pins s σ H _ I hq) fun us s1 ⟨xs, H1, I1, r, z, q⟩ => ⟨by rw [<- r.length]; exact z, ?_⟩)
  have hf : H1 s1.heap.objs.size = none := I1.hok.fresh (yAB _)
  refine ⟨.ref s1.heap.objs.size, upd H1 s1.heap.objs.size (.lst xs), I1.laid (t' := s1.toks) (fun b u e => Heap.get?_push_of_some _ e) (yAB _) ?_, rfl, q _ hf⟩
  exact ⟨z, us, 0, r, Heap.get?_push_size _ rfl⟩
end
abbrev Sp := List V -> Hp -> VK -> XK -> Prop
abbrev CXT := List Env -> Hp -> Shared -> XK -> Value -> Shared -> Prop
structure Env0 (P : Program) (w : World) (K : W.Frag) (mg : Str -> Option Value) (base : Heap) (A : Around) (outer : List Env) (s : Shared) (H : Hp) : Prop where
  frames : A.frames = some outer
  mod : Mod K mg base
  bs : ∀ b o, base.get? b = some o -> s.heap.get? b = some o /\ H b = none
  bsz : base.objs.size <= s.heap.objs.size
  funs : s.heap.FunFrames base outer
  frf : ∀ b ∈ frs outer, H b = none
  hok : HOk P w H s.heap
  bare : AllBare s.gens
def CE (outer : List Env) (P : Program) (w : World) (H : Hp) (s : Shared) (Q : VK) (u : Value) (s' : Shared) : Prop :=
  ∃ v H', s'.os = s.os /\ AllBare s'.gens /\ Un (frs outer) [] H H' s.heap s'.heap /\ HOk P w H' s'.heap /\ RelV v u /\ Q v H'
def CR (CX : CXT) (outer : List Env) (P : Program) (w : World) (H : Hp) (s : Shared) (Q : VK) (E : XK) (r : Result) (s' : Shared) : Prop :=
  match r with
  | .ok (.ret u) => CE outer P w H s Q u s'
  | .ok _ => False
  | .error e => CX outer H s E e s'
structure FnOk (P : Program) (w : World) (K : W.Frag) (mg : Str -> Option Value) (base : Heap) (CX : CXT) (k : Nat) (f : Addr) (fd : FuncData) (ps : List Str) (sp : Sp) : Prop where
  len : ∀ vs H Q E, sp vs H Q E -> vs.length = ps.length
  run : ∀ (A : Around) (outer : List Env) (s : Shared) (H : Hp) (args : Args) (us : List Value) (vs : List V) (Q : VK) (E : XK), Room k A -> Env0 P w K mg base A outer s H -> BindsTo s fd args (ps.zip us) -> Vals vs us -> sp vs H Q E ->
    codeAny (model P w) A (.call (.ref f) args) (CR CX outer P w H s Q E) s
theorem Env0.make {P : Program} {w : World} {K : W.Frag} {mg : Str -> Option Value} {base : Heap} {A : Around} {outer : List Env} {s : Shared} {H : Hp} (e : Env0 P w K mg base A outer s H) (C : Addr) (us : List Value) (kw : List (Str × Value)) :
    Env0 P w K mg base (A.under (.builtin "type.__call__" ⟨.ref C :: us, kw⟩)) outer s H := ⟨by first | exact e.frames | (simpa [Around.under, Code.envs, Code.isFrame, pushEnvs] using e.frames), e.mod, e.bs, e.bsz, e.funs, e.frf, e.hok, e.bare⟩
section
variable {X : Cx} {pins : List (Addr × Obj)} {σ : St} {H : Hp} {s s' : Shared}
theorem Inv.env0 (I : Inv X pins σ H s) : Env0 X.prog X.w X.K X.mg X.base X.A X.stack s H :=
  ⟨I.ok.frames, I.ok.mod, I.bs, yAE I.ok.bsz I.sz, I.stack, I.stkFree, I.hok, I.bare⟩
theorem Inv.after {Q : VK} {u : Value} (I : Inv X pins σ H s) (h : CE X.stack X.prog X.w H s Q u s') : EP X pins σ Q u s' := by
  obtain ⟨v, H', os, bare, un, hok, r, q⟩ := h
  obtain ⟨hh, g, d, t, os'⟩ := s'
  obtain rfl : os' = s.os := os
  exact ⟨v, H', I.call (h' := hh) (g' := g) (d' := d) (t' := t) (ch := []) un hok bare (fun b z => absurd z (by simp)), r, q⟩
end
def ZEd (sp : Sp) (dvs : List V) (E : XK) (t : TA) : TE := fun σ H Q => t σ H fun vs H1 => sp (vs ++ dvs) H1 Q E
def ZD9 (C : Addr) (m : Str) (sp : Sp) (dvs : List V) (E : XK) (ta : TE) (t : TA) : TE := fun σ H Q => ta σ H fun x H1 => ∃ a dx fs, x = .ref a /\ H1 a = some (.ins C dx fs) /\ fs.lookup m = none /\
  t σ H1 fun vs H2 => sp (x :: (vs ++ dvs)) H2 Q E
def ZEF (C : Addr) (sp : Sp) (dvs : List V) (E : XK) (t : TA) : TE := fun σ H Q => t σ H fun vs H1 => ∀ x dx, H1 x = none -> H1 dx = none -> dx ≠ x ->
  sp (.ref x :: (vs ++ dvs)) (upd (upd H1 dx (.own x)) x (.ins C dx [])) (fun v H2 => v = .non /\ Q (.ref x) H2) E
def Binds (K : W.Frag) (fd : FuncData) (ps : List Str) (ds : List Value) : Prop :=
  ∀ (s : Shared) (us : List Value), K.In s.heap -> (us ++ ds).length = ps.length -> BindsTo s fd ⟨us, []⟩ (ps.zip (us ++ ds))
theorem Binds.all {K : W.Frag} {fd : FuncData} {ps : List Str} (h : ∀ us : List Value, us.length = ps.length -> bindArgs fd ⟨us, []⟩ = pure (ps.zip us)) : Binds K fd ps [] := fun s us _ hl => by
  rw [yAZ] at hl ⊢
  exact .of_eq (h us hl)
def ZBw (CX : CXT) (X : Cx) (E : XK) : Prop := ∀ (pins : List (Addr × Obj)) (σ : St) (H : Hp) (s : Shared) (e : Value) (s' : Shared), Inv X pins σ H s -> CX X.stack H s E e s' -> X.xe e s'
section
variable {X : Cx} {CX : CXT} {k : Nat} {f C : Addr} {fd : FuncData} {ps : List Str} {sp : Sp} {dvs : List V} {ds : List Value} {E : XK} {x m : Str} {p pos apos : Pos} {e o : Expr} {es : List Expr} {ta : TE} {t : TA}
theorem ZEM {pins : List (Addr × Obj)} {σ : St} {H : Hp} {s : Shared} {Q : VK} {us : List Value} {vs : List V} (F : FnOk X.prog X.w X.K X.mg X.base CX k f fd ps sp) (hr : Room k X.A) (hb : Binds X.K fd ps ds) (hd : Vals dvs ds) (hx : ZBw CX X E)
    (I : Inv X pins σ H s) (r : Vals vs us) (h : sp (vs ++ dvs) H Q E) : wpAny (model X.prog X.w) X.A (call (.ref f) us) (EP X pins σ Q) X.xe s := by
  have r2 : Vals (vs ++ dvs) (us ++ ds) := r.append hd
  have hl : (us ++ ds).length = ps.length := by rw [<- r2.length]; exact F.len _ _ _ _ h
  refine wpAny_call (codeAny_mono (F.run X.A X.stack s H ⟨us, []⟩ (us ++ ds) (vs ++ dvs) Q E hr I.env0 (hb s us I.kIn hl) r2 h) fun r s' hq => ?_)
  cases r with
  | error e => exact hx pins σ H s e s' I hq
  | ok fl =>
    cases fl with
    | ret u => exact I.after hq
    | next => exact False.elim hq
    | brk => exact False.elim hq
    | cont => exact False.elim hq
theorem pe_call (F : FnOk X.prog X.w X.K X.mg X.base CX k f fd ps sp) (hr : Room k X.A) (hg : Gl X x) (hm : X.mg x = some (.ref f)) (hk : W.keepIn X.K (.ref f) = true) (hb : Binds X.K fd ps ds) (hd : Vals dvs ds) (hx : ZBw CX X E)
    (ha : PA X (e :: es) t) (hdb : (x == ("__debug__" : Str)) = false := by decide) (he : starEach (e :: es) X.env = (false, eval e X.env) :: starEach es X.env := by rfl) (hpl : (backTo pos (starEach es X.env)).any (·.1) = false := by rfl) :
    PE X (.Call (.Name x p) (e :: es) [] pos) (ZEd sp dvs E t) := by
  intro pins s σ H Q I h
  refine wpAny_Call_Name_kw (ld_glob I hg hm ?_ hdb)
  refine PySem.W.callWith_K (h₀ := X.base) I.ok.mod.kin hk (thn (ha pos pins s σ H _ I h) fun us s1 ⟨vs, H1, I1, r, q⟩ => ⟨I1.kIn, ?_⟩) he hpl
  exact ZEM F hr hb hd hx I1 r q
theorem pe_meth {pl : Sem Bool} (he : PE X o ta) (c : Cls X.K C) (hm : Meth X.K C m f) (F : FnOk X.prog X.w X.K X.mg X.base CX k f fd ps sp) (hr : Room k X.A) (hb : Binds X.K fd ps ds) (hd : Vals dvs ds) (hx : ZBw CX X E) (ha : PA X (e :: es) t)
    (hst : starEach (e :: es) X.env = (false, eval e X.env) :: starEach es X.env := by rfl) (hpl : (backTo pos (starEach es X.env)).any (·.1) = false := by rfl)
    (ht : eval (.Call (.Attribute o m apos) (e :: es) [] pos) X.env = (do
      let ov <- eval o X.env
      standAt apos.atName
      let (f, first) <- holding [ov] (getMethod ov m pl)
      callWith pos f first (backTo pos (starEach (e :: es) X.env)) (backToKw pos (keywordEach [] X.env))) := by rfl) :
    PE X (.Call (.Attribute o m apos) (e :: es) [] pos) (ZD9 C m sp dvs E ta t) := by
  intro pins s σ H Q I h
  refine PySem.W.methodCall_KW (pl := pl) (thn (he pins s σ H _ I h) fun u s1 ⟨x, H1, I1, rx, a, dx, fs, ex, ea, l, q⟩ => ?_) ht
  subst ex
  obtain rfl : u = Value.ref a := rx
  refine getmeth_ok I1 ea c hm l ?_
  refine PySem.W.callWith_K (first := [.ref a]) (h₀ := X.base) I.ok.mod.kin hm.kp (thn (ha pos pins s1 σ H1 _ I1 q) fun us s2 ⟨vs, H2, I2, r, q2⟩ => ⟨I2.kIn, ?_⟩) hst hpl
  exact ZEM (us := .ref a :: us) (vs := .ref a :: vs) F hr hb hd hx I2 (.cons rfl r) q2
theorem pe_meth0 {pl : Sem Bool} (he : PE X o ta) (c : Cls X.K C) (hm : Meth X.K C m f) (F : FnOk X.prog X.w X.K X.mg X.base CX k f fd ps sp) (hr : Room k X.A) (hb : Binds X.K fd ps ds) (hd : Vals dvs ds) (hx : ZBw CX X E)
    (ht : eval (.Call (.Attribute o m apos) [] [] pos) X.env = (do
      let ov <- eval o X.env
      standAt apos.atName
      let (f, first) <- holding [ov] (getMethod ov m pl)
      callWith pos f first (backTo pos (starEach [] X.env)) (backToKw pos (keywordEach [] X.env))) := by rfl) :
    PE X (.Call (.Attribute o m apos) [] [] pos) (ZD9 C m sp dvs E ta tNil) := by
  intro pins s σ H Q I h
  refine PySem.W.methodCall_KW (pl := pl) (thn (he pins s σ H _ I h) fun u s1 ⟨x, H1, I1, rx, a, dx, fs, ex, ea, l, q⟩ => ?_) ht
  subst ex
  obtain rfl : u = Value.ref a := rx
  refine getmeth_ok I1 ea c hm l ?_
  exact PySem.W.callWith_K0 (first := [.ref a]) I1.kIn hm.kp (ZEM (us := [.ref a]) (vs := [.ref a]) F hr hb hd hx I1 (.cons rfl .nil) q)
structure Mk (K : W.Frag) (C f : Addr) : Prop where
  makes : PySem.W.makesIn K C = true
  init : W.findIn K (.ref C) "__init__" = some (some (.ref f))
  fn : PySem.W.isFn K (.ref f) = true
  kp : W.keepIn K (.ref C) = true
theorem run_make {pins : List (Addr × Obj)} {σ : St} {H : Hp} {s : Shared} {Q : VK} {us : List Value} {vs : List V} (M : Mk X.K C f) (F : FnOk X.prog X.w X.K X.mg X.base CX k f fd ps sp) (hr : Room (k + 1) X.A) (hb : Binds X.K fd ps ds) (hd : Vals dvs ds)
    (hx : ZBw CX X E) (I : Inv X pins σ H s) (r : Vals vs us)
    (h : ∀ x dx, H x = none -> H dx = none -> dx ≠ x -> sp (.ref x :: (vs ++ dvs)) (upd (upd H dx (.own x)) x (.ins C dx [])) (fun v H2 => v = .non /\ Q (.ref x) H2) E) :
    wpAny (model X.prog X.w) X.A (call (.ref C) us) (EP X pins σ Q) X.xe s := by
  have hq := h (s.heap.objs.size + 1) s.heap.objs.size (I.hok.fresh (yBC _)) (I.hok.fresh (yAB _)) (yAL (yCD _))
  have I2 := Inv.made (C := C) I
  have r2 : Vals (V.ref (s.heap.objs.size + 1) :: (vs ++ dvs)) (Value.ref (s.heap.objs.size + 1) :: (us ++ ds)) := .cons rfl (r.append hd)
  have hl : (Value.ref (s.heap.objs.size + 1) :: us ++ ds).length = ps.length := by
    have e := r2.length
    rw [F.len _ _ _ _ hq] at e
    exact e.symm
  refine wpAny_call (make_map (f := f) I.kIn M.makes M.init (beq_iff_eq.mp M.fn) (codeAny_mono (F.run _ X.stack _ _ ⟨Value.ref (s.heap.objs.size + 1) :: us, []⟩ (Value.ref (s.heap.objs.size + 1) :: (us ++ ds)) _ _ E (hr.make C us [])
    (I2.env0.make C us []) (hb _ (Value.ref (s.heap.objs.size + 1) :: us) I2.kIn hl) r2 hq) fun r s' hq' => ?_))
  cases r with
  | error e => exact hx pins σ _ _ e s' I2 hq'
  | ok fl =>
    cases fl with
    | ret u =>
      obtain ⟨v, H', I3, rv, ev, q3⟩ := I2.after hq'
      subst ev
      exact ⟨rv, ⟨V.ref (s.heap.objs.size + 1), H', I3, rfl, q3⟩⟩
    | next => exact False.elim hq'
    | brk => exact False.elim hq'
    | cont => exact False.elim hq'
theorem pe_make (M : Mk X.K C f) (F : FnOk X.prog X.w X.K X.mg X.base CX k f fd ps sp) (hr : Room (k + 1) X.A) (hg : Gl X x) (hm : X.mg x = some (.ref C)) (hb : Binds X.K fd ps ds) (hd : Vals dvs ds) (hx : ZBw CX X E)
    (ha : PA X (e :: es) t) (hdb : (x == ("__debug__" : Str)) = false := by decide) (he : starEach (e :: es) X.env = (false, eval e X.env) :: starEach es X.env := by rfl) (hpl : (backTo pos (starEach es X.env)).any (·.1) = false := by rfl) :
    PE X (.Call (.Name x p) (e :: es) [] pos) (ZEF C sp dvs E t) := by
  intro pins s σ H Q I h
  refine wpAny_Call_Name_kw (ld_glob I hg hm ?_ hdb)
  refine PySem.W.callWith_K (h₀ := X.base) I.ok.mod.kin M.kp (thn (ha pos pins s σ H _ I h) fun us s1 ⟨vs, H1, I1, r, q⟩ => ⟨I1.kIn, ?_⟩) he hpl
  exact run_make M F hr hb hd hx I1 r q
end
section
variable {X : Cx} {CX : CXT} {k : Nat} {f C : Addr} {fd : FuncData} {ps ks : List Str} {sp : Sp} {E : XK} {x m : Str} {p pos apos kpos : Pos} {e o : Expr} {es : List Expr} {kws : List Keyword} {te ta : TE} {t tk : TA} {nm : Option Str}
variable {g : List Value -> List Value -> List Value} {gV : List V -> List V -> List V}
end
structure FnScope (N P : List Str) (sc : Scope) : Prop where
  kind : sc.kind = .function
  co : sc.isCoroutine = false
  gen : sc.isGenerator = false
  nd : N.Nodup
  pre : N.take P.length = P
  par : ∀ x ∈ P, sc.names.lookup x = some .local ∨ sc.names.lookup x = some .cell
  nofree : ∀ y ∈ sc.names, y.2 ≠ .free
theorem bindL_out {kindOf : Str -> Option NameKind} {x : Str} : ∀ {binds : List (Str × Value)} {m : Str -> Option Value}, (∀ v, (x, v) ∉ binds) -> bindL kindOf binds m x = m x
  | [], _, _ => rfl
  | (n, v) :: r, m, h => by
    unfold bindL
    rw [bindL_out fun w hw => h w (yAS _ hw)]
    split
    . have : x ≠ n := by rintro rfl; exact h v yAI
      simp [this]
    . rfl
theorem bindC_out {kindOf : Str -> Option NameKind} {x : Str} : ∀ {binds : List (Str × Value)} {m : Str -> Option Value}, (∀ v, (x, v) ∉ binds) -> bindC kindOf binds m x = m x
  | [], _, _ => rfl
  | (n, v) :: r, m, h => by
    unfold bindC
    rw [bindC_out fun w hw => h w (yAS _ hw)]
    split
    . rfl
    . have : x ≠ n := by rintro rfl; exact h v yAI
      simp [this]
theorem bindL_get {kindOf : Str -> Option NameKind} {x : Str} {v : Value} : ∀ {P : List Str} {vs : List Value} {i : Nat} {m : Str -> Option Value}, P.Nodup -> P[i]? = some x -> vs[i]? = some v -> kindOf x = some .local ->
    bindL kindOf (P.zip vs) m x = some v
  | [], _, _, _, _, h, _, _ => by simp at h
  | _ :: _, [], _, _, _, _, h, _ => by simp at h
  | p :: P, w :: vs, 0, m, nd, h1, h2, hk => by
    simp at h1 h2; subst h1; subst h2
    show bindL kindOf ((p, w) :: P.zip vs) m p = _
    unfold bindL
    rw [bindL_out fun v hv => (yCL.mp nd).1 (List.of_mem_zip hv).1, if_pos hk]
    simp
  | p :: P, w :: vs, i + 1, m, nd, h1, h2, hk => by
    show bindL kindOf ((p, w) :: P.zip vs) m x = _
    unfold bindL
    exact bindL_get (i := i) (yCL.mp nd).2 (by simpa using h1) (by simpa using h2) hk
theorem bindC_get {kindOf : Str -> Option NameKind} {x : Str} {v : Value} : ∀ {P : List Str} {vs : List Value} {i : Nat} {m : Str -> Option Value}, P.Nodup -> P[i]? = some x -> vs[i]? = some v -> kindOf x ≠ some .local ->
    bindC kindOf (P.zip vs) m x = some v
  | [], _, _, _, _, h, _, _ => by simp at h
  | _ :: _, [], _, _, _, _, h, _ => by simp at h
  | p :: P, w :: vs, 0, m, nd, h1, h2, hk => by
    simp at h1 h2; subst h1; subst h2
    show bindC kindOf ((p, w) :: P.zip vs) m p = _
    unfold bindC
    rw [bindC_out fun v hv => (yCL.mp nd).1 (List.of_mem_zip hv).1, if_neg hk]
    simp
  | p :: P, w :: vs, i + 1, m, nd, h1, h2, hk => by
    show bindC kindOf ((p, w) :: P.zip vs) m x = _
    unfold bindC
    exact bindC_get (i := i) (yCL.mp nd).2 (by simpa using h1) (by simpa using h2) hk
def start (N : List Str) (vs : List V) : St := vs.map some ++ List.replicate (N.length - vs.length) none
def cxOf (CX : CXT) (P : Program) (w : World) (K : W.Frag) (mg : Str -> Option Value) (base : Heap) (N : List Str) (qual : Str) (scope : Scope) (f : Addr) (cd : Value) (A : Around) (outer : List Env) (s : Shared) (H : Hp) (E : XK) : Cx where
  prog := P
  w := w
  K := K
  mg := mg
  base := base
  A := A.deeper (envOfC qual scope s.heap.objs.size f cd)
  N := N
  s₀ := s
  H₀ := H
  env := envOfC qual scope s.heap.objs.size f cd
  outer := outer
  stack := envOfC qual scope s.heap.objs.size f cd :: outer
  ex := []
  calm := true
  fn := fun _ => true
  pn := []
  xe := fun e s' => wpAny (model P w) (A.deeper (envOfC qual scope s.heap.objs.size f cd)) (leaving (envOfC qual scope s.heap.objs.size f cd) e) (fun _ s'' => CX outer H s E e s'') (fun e' s'' => CX outer H s E e' s'') s'
theorem ZCk {sc : Scope} {n : Nat} {x : Str} (h : sc.names.lookup x = some .cell) : ∃ c, (cellsFrom n sc.names []).lookup x = some c := by
  have q := PySem.W.cellsFrom_some sc.names n [] (.inl h)
  exact Option.isSome_iff_exists.mp q
theorem inv_start {CX : CXT} {P : Program} {w : World} {K : W.Frag} {mg : Str -> Option Value} {base : Heap} {N ps : List Str} {qual : Str} {scope : Scope} {f : Addr} {cd : Value} {A : Around} {outer : List Env} {s s1 : Shared} {H : Hp} {E : XK} {us : List Value} {vs : List V}
    (S : FnScope N ps scope) (hd : A.handled = none) (e0 : Env0 P w K mg base A outer s H) (hl : vs.length = ps.length) (r : Vals vs us)
    (x : InCallC s s.heap.objs.size (bindL (envOfC qual scope s.heap.objs.size f cd).kindOf (ps.zip us) fun _ => none) (cellsFrom (s.heap.objs.size + 1) scope.names []) (bindC (envOfC qual scope s.heap.objs.size f cd).kindOf (ps.zip us) fun _ => none) s1) :
    Inv (cxOf CX P w K mg base N qual scope f cd A outer s H E) [] (start N vs) H s1 := by
  have hpl : ps.length <= N.length := by have := congrArg List.length S.pre; rw [yAT] at this; omega
  obtain ⟨h1, tk, rfl, hk⟩ := x.done
  have noA : ∀ b : Addr, b ∉ (cxOf CX P w K mg base N qual scope f cd A outer s H E).ex := fun b z => absurd (show b ∈ ([] : List Addr) from z) (by simp)
  refine ⟨⟨e0.mod, S.kind, rfl, rfl, yAB _, fun y z c h1 h2 => ?_, fun y hy => ?_, fun y c _ h => ?_, fun _ => hd, Around.frames_deeper e0.frames, .inr ⟨rfl, rfl⟩, fun b z => absurd z (noA b), e0.bs, e0.bsz, fun b _ _ => noA b, fun b z => absurd z (noA b), e0.funs, e0.frf⟩,
    rfl, e0.bare, Un.kept hk, ⟨_, x.toInCall.ns, fun i y v h1 h2 h3 => ?_⟩, fun y c h => ⟨_, x.cell y c h⟩, e0.hok.fresh (yAB _), fun y c h => ?_, fun p hp => absurd (show p ∈ ([] : List (Addr × Obj)) from hp) (by simp), e0.hok.kept hk, ?_⟩
  . exact name_of_addr x.apart (PySem.mem_of_lookup h1) (PySem.mem_of_lookup h2)
  . have hy : scope.names.lookup y = some .cell ∨ scope.names.lookup y = some .free := hy
    rcases hy with hy | hy
    . exact ZCk hy
    . exact absurd rfl (S.nofree _ (PySem.mem_of_lookup hy))
  . exact yBW (x.above y c (PySem.mem_of_lookup h))
  . have hi : i < vs.length := by
      unfold start at h2
      by_cases hi : i < vs.length
      . exact hi
      . rw [yAU (by simpa using hi)] at h2
        rw [yCM] at h2
        split at h2 <;> cases h2
    have ha : vs[i]? = some v := by
      unfold start at h2
      rw [yAV (by simpa using hi), yAG] at h2
      cases e : vs[i]? with
      | none => rw [e] at h2; cases h2
      | some a => rw [e] at h2; cases h2; rfl
    obtain ⟨u, hu, rv⟩ := r.get ha
    have hp : ps[i]? = some y := by
      rw [<- S.pre, List.getElem?_take_of_lt (by omega)]; exact h1
    have ndP : ps.Nodup := by rw [<- S.pre]; exact S.nd.sublist (List.take_sublist _ _)
    refine ⟨u, rv, ?_⟩
    rcases S.par y (yAM hp) with k | k
    . exact .inl ⟨k, bindL_get ndP hp hu k⟩
    . obtain ⟨c, e⟩ := ZCk (n := s.heap.objs.size + 1) k
      refine .inr ⟨.inl k, c, e, ?_⟩
      have q := x.cell y c e
      rw [bindC_get ndP hp hu (by show scope.names.lookup y ≠ _; rw [k]; decide)] at q
      exact q
  . exact e0.hok.fresh (yBW (x.above y c (PySem.mem_of_lookup h)))
  . unfold start
    show _ = N.length
    rw [yAD, yAA, yBY]
    omega
theorem fn_of {CX : CXT} {P : Program} {w : World} {K : W.Frag} {mg : Str -> Option Value} {base : Heap} {k : Nat} {f : Addr} {name qual : Str} {params : Arguments} {body : List Stmt} {scope : Scope} {dV kV doc pm cdv ct oc : Value} {an od : Option Addr}
    {osl : Array (Option Value)} {N ps : List Str} {sp : Sp} (lk : K.lookup f = some ⟨oc, od, .func (W.fnOf name qual params body scope dV kV doc pm an cdv ct), osl⟩) (hcd : W.codeIn K cdv qual = true) (S : FnScope N ps scope)
    (len : ∀ vs H Q E, sp vs H Q E -> vs.length = ps.length)
    (hbody : ∀ (A : Around) (outer : List Env) (s : Shared) (H : Hp) (vs : List V) (Q : VK) (E : XK), Room k (A.deeper (envOfC qual scope s.heap.objs.size f cdv)) -> sp vs H Q E ->
      ∃ t, PSs (cxOf CX P w K mg base N qual scope f cdv A outer s H E) body t /\ t { nx := fun _ H' => Q .non H', rt := Q } (start N vs) H) :
    FnOk P w K mg base CX (k + 1) f (W.fnOf name qual params body scope dV kV doc pm an cdv ct) ps sp := by
  refine ⟨len, fun A outer s H args us vs Q E hr e0 hb r hsp => ?_⟩
  have hl := len _ _ _ _ hsp
  have KX : K.In s.heap := e0.mod.kin.keeps fun b o e => (e0.bs b o e).1
  have lim : s.heap.NoLimit := e0.mod.nolimit.keeps fun b o e => (e0.bs b o e).1
  have hkind : ∀ y ∈ ps.zip us, scope.names.lookup y.1 = some .local ∨ (scope.names.lookup y.1 = some .cell /\ ((cellsFrom (s.heap.objs.size + 1) scope.names []).lookup y.1).isSome = true) := fun ⟨n, v⟩ hy => by
    rcases S.par n (List.of_mem_zip hy).1 with q | q
    . exact .inl q
    . exact .inr ⟨q, PySem.W.cellsFrom_some _ _ _ (.inl q)⟩
  refine codeAny_call_function hr.depth (KX _ _ lk) rfl S.co S.gen rfl (PySem.W.codeRec_of KX hcd) (hb _ _ _ _ ?_)
  refine wpAny_newFunctionEnv_cells S.kind hkind fun env he s1 x => ?_
  subst he
  refine ⟨lim.keeps x.toInCall.keep, codeAny_func ?_⟩
  obtain ⟨t, ht, hq⟩ := hbody A outer s H vs Q E (hr.deeper _) hsp
  have I : Inv (cxOf CX P w K mg base N qual scope f cdv A outer s H E) [] (start N vs) H s1 := inv_start S hr.hd e0 hl r x
  refine wpAny_mono (ht [] s1 (start N vs) H _ I hq) (fun fl s' hs => ?_) fun e s' hs => hs
  have fin : ∀ {σ' : St} {H' : Hp} {v : V} {u : Value}, Inv (cxOf CX P w K mg base N qual scope f cdv A outer s H E) [] σ' H' s' -> RelV v u -> Q v H' -> CE outer P w H s Q u s' :=
    fun {σ' H' v u} J rv q => ⟨v, H', J.os, J.bare, J.base, J.hok, rv, q⟩
  cases fl with
  | ret u =>
    obtain ⟨v, σ', H', J, rv, q⟩ := hs
    exact fin J rv q
  | next =>
    obtain ⟨σ', H', J, q⟩ := hs
    exact fin (v := V.non) (u := Value.none) J rfl q
  | brk =>
    obtain ⟨_, _, _, q⟩ := hs
    exact False.elim q
  | cont =>
    obtain ⟨_, _, _, q⟩ := hs
    exact False.elim q
section
variable {X : Cx} {x : Str} {p pos : Pos} {e : Expr} {es : List Expr} {t : TA} {id T : String} {r : List V -> Hp -> VK -> Prop}
def tCB (r : List V -> Hp -> VK -> Prop) (t : TA) : TE := fun σ H Q => t σ H fun vs H1 => r vs H1 Q
theorem ZAK (hc : ZCb X (.builtin id) r) (hg : Gl X x) (hm : X.mg x = none) (hv : bootBuiltins x = some (.builtin id)) (ha : PA X (e :: es) t) (hn : x ≠ "__name__" := by decide) (hdb : (x == ("__debug__" : Str)) = false := by decide)
    (he : starEach (e :: es) X.env = (false, eval e X.env) :: starEach es X.env := by rfl) (hpl : (backTo pos (starEach es X.env)).any (·.1) = false := by rfl) : PE X (.Call (.Name x p) (e :: es) [] pos) (tCB r t) := by
  intro pins s σ H Q I h
  refine wpAny_Call_Name_kw (ZDC I hg hm hv ?_ hn hdb)
  exact PyProof.Rows.callWith_builtin1 (thn (ha pos pins s σ H _ I h) fun us s1 ⟨vs, H1, I1, r1, q1⟩ => hc pins s1 σ H1 vs us Q I1 r1 q1) he hpl
theorem ZBg (hc : ZCb X (.type T) r) (hg : Gl X x) (hm : X.mg x = none) (hv : bootBuiltins x = some (.type T)) (ha : PA X (e :: es) t) (hn : x ≠ "__name__" := by decide) (hdb : (x == ("__debug__" : Str)) = false := by decide)
    (he : starEach (e :: es) X.env = (false, eval e X.env) :: starEach es X.env := by rfl) (hpl : (backTo pos (starEach es X.env)).any (·.1) = false := by rfl) : PE X (.Call (.Name x p) (e :: es) [] pos) (tCB r t) := by
  intro pins s σ H Q I h
  refine wpAny_Call_Name_kw (ZDC I hg hm hv ?_ hn hdb)
  exact PyProof.Rows.callWith_type1 (thn (ha pos pins s σ H _ I h) fun us s1 ⟨vs, H1, I1, r1, q1⟩ => hc pins s1 σ H1 vs us Q I1 r1 q1) he hpl
end
end L2
namespace HT
open PySem PyProof.Rows
section
open PySem.SeqAt
open PySem.AutoSeq1 (wpAny_loadPart')
open PySem.MeetsSeq PySem.MeetsSeq2 PySem.MeetsSeq3
end
section
variable {prog : Program} {w : World} {A : Around} {E : Value -> Shared -> Prop} {s : Shared}
def sIx (n d : Nat) : Option Int -> Nat
  | none => d
  | some v => if v < 0 then (v + (n : Int)).toNat else min v.toNat n
theorem sIx_none (n d : Nat) : sIx n d none = d := rfl
theorem sIx_nat (n d k : Nat) : sIx n d (some (k : Int)) = min k n := by
  show (if (k : Int) < 0 then ((k : Int) + (n : Int)).toNat else min (k : Int).toNat n) = min k n
  rw [if_neg (by omega), Int.toNat_natCast]
theorem sIx_le (n d : Nat) (hd : d <= n) (o : Option Int) : sIx n d o <= n := by
  cases o with
  | none => exact hd
  | some v =>
    show (if v < 0 then (v + (n : Int)).toNat else min v.toNat n) <= n
    by_cases hv : v < 0
    . rw [if_pos hv]; omega
    . rw [if_neg hv]; exact Nat.min_le_right _ _
theorem clip_eq (v : Int) (n d : Nat) : (if v < 0 then max (v + (n : Int)) 0 else min v (n : Int)) = ((sIx n d (some v) : Nat) : Int) := by
  show (if v < 0 then max (v + (n : Int)) 0 else min v (n : Int)) = (((if v < 0 then (v + (n : Int)).toNat else min v.toNat n) : Nat) : Int)
  by_cases hv : v < 0
  . simp only [if_pos hv]; omega
  . simp only [if_neg hv]; omega
theorem adjust_gen (lo hi : Option Int) (n : Nat) : Builtin.Slice.sliceAdjust lo hi 1 (n : Int) = (((sIx n 0 lo : Nat) : Int), ((sIx n n hi : Nat) : Int)) := by
  have h1 : ¬ ((1 : Int) < 0) := by omega
  unfold Builtin.Slice.sliceAdjust
  simp only [h1, if_false]
  refine Prod.ext ?_ ?_
  . cases lo with
    | none => rfl
    | some v => exact clip_eq v n 0
  . cases hi with
    | none => rfl
    | some v => exact clip_eq v n n
theorem places_gen (i j : Nat) : Builtin.Slice.slicePlaces (i : Int) (j : Int) 1 = j - i := by
  unfold Builtin.Slice.slicePlaces
  have h1 : (1 : Int) > 0 := by omega
  simp only [h1, if_true, Int.ediv_one]
  split <;> omega
theorem slicePart_ {v : Value} {o : Option Int} {Q : Option Int -> Shared -> Prop} (p : IsPart v o) (h : Q o s) : wpAny (model prog w) A (Builtin.Slice.slicePartIndex v) Q E s := by
  cases p with
  | none => exact slicePart_none h
  | int i t => exact slicePart_int h
theorem sliceApplied_gen {sl : Addr} {vl vu : Value} {lo hi : Option Int} {n : Nat} {Q : Int × Int × Nat -> Shared -> Prop} (hs : s.heap.IsSliceOf sl vl vu .none) (pl : IsPart vl lo) (pu : IsPart vu hi)
    (h : Q (((sIx n 0 lo : Nat) : Int), 1, sIx n n hi - sIx n 0 lo) s) : wpAny (model prog w) A (Builtin.Slice.sliceApplied (.ref sl) (pure (n : Int))) Q E s := by
  obtain ⟨os, hos, hcs, hds⟩ := id hs
  unfold Builtin.Slice.sliceApplied Builtin.Slice.sliceFields
  refine wpAny_bind (wpAny_bind (wpAny_field hos hds (x := vl) rfl (wpAny_bind (wpAny_field hos hds (x := vu) rfl (wpAny_bind (wpAny_field hos hds (x := .none) rfl (wpAny_pure ?_)))))))
  refine wpAny_bind (slicePart_none ?_)
  show wpAny _ _ (if ((1 : Int) == 0) = true then _ else _) _ _ s
  rw [if_neg (by decide)]
  refine wpAny_bind (slicePart_ pl (wpAny_bind (slicePart_ pu (wpAny_bind (wpAny_pure ?_)))))
  show wpAny _ _ (match Builtin.Slice.sliceAdjust lo hi 1 (n : Int) with | (lo, hi) => pure (lo, (1 : Int), Builtin.Slice.slicePlaces lo hi 1)) _ _ s
  rw [adjust_gen lo hi n]
  show wpAny _ _ (pure (((sIx n 0 lo : Nat) : Int), (1 : Int), Builtin.Slice.slicePlaces ((sIx n 0 lo : Nat) : Int) ((sIx n n hi : Nat) : Int) 1)) _ _ s
  rw [places_gen]
  exact wpAny_pure h
theorem pick_gen (xs : Array Value) (i k : Nat) : ((List.range k).filterMap fun (m : Nat) => xs[((i : Int) + (m : Int) * 1).toNat]?).toArray = ((xs.toList.drop i).take k).toArray := by
  have e : (fun (m : Nat) => xs[((i : Int) + (m : Int) * 1).toNat]?) = fun m => xs[i + m]? := by
    funext m
    have : ((i : Int) + (m : Int) * 1).toNat = i + m := by omega
    rw [this]
  rw [e]
  have := pick_run xs i k
  rw [List.filterMap_map] at this
  have e2 : ((fun x => xs[x]?) ∘ fun x => i + x) = fun m => xs[i + m]? := rfl
  rw [e2] at this
  rw [this]
theorem getItem_tuple_cut {t sl : Addr} {items : Array Value} {vl vu : Value} {lo hi : Option Int} {Q : Value -> Shared -> Prop} (ht : IsTup s.heap t items) (hs : s.heap.IsSliceOf sl vl vu .none) (pl : IsPart vl lo) (pu : IsPart vu hi)
    (hw : ¬ (sIx items.size 0 lo = 0 /\ sIx items.size items.size hi = items.size))
    (h : Q (.ref s.heap.objs.size) { s with heap := s.heap.push { cls := .type "tuple", data := .seq ((items.toList.drop (sIx items.size 0 lo)).take (sIx items.size items.size hi - sIx items.size 0 lo)).toArray } })
    (hsz : items.size <= sizeLine) : wpAny (model prog w) A (getItem (.ref t) (.ref sl)) Q E s := by
  have htake : sizeOk (.seq ((items.toList.drop (sIx items.size 0 lo)).take (sIx items.size items.size hi - sIx items.size 0 lo)).toArray) := by
    show ((items.toList.drop (sIx items.size 0 lo)).take (sIx items.size items.size hi - sIx items.size 0 lo)).toArray.size <= sizeLine
    rw [yAO, yAT, yBH, yAN]
    omega
  have hj : sIx items.size items.size hi <= items.size := sIx_le _ _ (yAB _) hi
  obtain ⟨os, hos, hcs, hds⟩ := id hs
  have hTs : s.TypeIs (.ref sl) "slice" := ⟨os, hos, hcs⟩
  unfold getItem
  try with_reducible refine wpAny_holding ?_
  first | refine wpAny_bind (wpAny_pure ?_) | skip
  refine wpAny_bind (wpAny_sequenceKey ht.typeIs (by decide) ?_)
  refine wpAny_bind (wpAny_callSpecial?_slot (name := Str.ofString "__getitem__") ht.typeIs PyProof.Rows.slot_tuple_getitem
    (wpAny_call_entry PyProof.Rows.slot_tuple_getitem ht.typeIs entry_tuple_getitem ?_ (args_tuple_getitem _ _)))
  show wpAny _ _ (Builtin.Tuple.tupleItemsOf (.ref t) >>= _) _ _ s
  refine wpAny_bind (tupleItemsOf_ ht ?_)
  refine wpAny_bind (wpAny_typeOf hTs ?_)
  rw [if_pos (by decide)]
  refine wpAny_bind (sliceApplied_gen hs pl pu ?_)
  have hno : ¬ ((((sIx items.size 0 lo : Nat) : Int) == 0 && (1 : Int) == 1 && (sIx items.size items.size hi - sIx items.size 0 lo) == items.size) = true) := by
    intro q
    rw [yBQ, yBQ] at q
    have q1 : ((sIx items.size 0 lo : Nat) : Int) = 0 := eq_of_beq q.1.1
    have q2 : sIx items.size items.size hi - sIx items.size 0 lo = items.size := eq_of_beq q.2
    exact hw ⟨by omega, by omega⟩
  show wpAny _ _ (if (((sIx items.size 0 lo : Nat) : Int) == 0 && (1 : Int) == 1 && (sIx items.size items.size hi - sIx items.size 0 lo) == items.size) = true then _ else _) _ _ s
  rw [if_neg hno, pick_gen]
  first
    | exact wpAny_bind (m := Builtin.Tuple.tupleExact _) (wpAny_newObj_type (wpAny_pure ⟨_, rfl, wpAny_pure h⟩) htake)
    | exact wpAny_bind (m := Builtin.Tuple.tupleExact _) (wpAny_newObj_type (wpAny_bind (wpAny_pure (wpAny_pure ⟨_, rfl, wpAny_pure h⟩))) htake)
    | exact wpAny_bind (wpAny_bind (m := Builtin.Tuple.tupleExact _) (wpAny_newObj_type (wpAny_pure (wpAny_pure ⟨_, rfl, wpAny_pure h⟩)) htake))
    | exact wpAny_bind (wpAny_bind (m := Builtin.Tuple.tupleExact _) (wpAny_newObj_type (wpAny_pure ⟨_, rfl, wpAny_pure h⟩) htake))
end
end HT
namespace L2
open PySem PySem.Spec PyProof.Rows
abbrev TO := St -> Hp -> (Option Int -> Hp -> Prop) -> Prop
def PO (X : Cx) (e : Option Expr) (t : TO) : Prop :=
  ∀ (pins : List (Addr × Obj)) (s : Shared) (σ : St) (H : Hp) (Q : Option Int -> Hp -> Prop), Inv X pins σ H s -> t σ H Q ->
    wpAny (model X.prog X.w) X.A (evalPart e X.env) (fun u s' => ∃ o H', Inv X pins σ H' s' /\ IsPart u o /\ Q o H') X.xe s
def ZDg : TO := fun _ H Q => Q none H
def ZEo (t : TE) : TO := fun σ H Q => t σ H fun x H1 => ∃ i, x = .int i /\ Q (some i) H1
theorem intsAre_of {ns : List Int} : ∀ {us : List Value}, Vals (ns.map V.int) us -> IntsAre us ns := by
  induction ns with
  | nil => intro us r; rw [List.map_nil] at r; cases r; exact .nil
  | cons n ns ih =>
    intro us r
    rw [yAP] at r
    cases r with
    | cons r1 r2 =>
      obtain ⟨t, e⟩ := r1
      subst e
      exact .cons n t (ih r2)
section
variable {X : Cx} {e : Expr} {te : TE} {lo hi : Option Expr} {tl th : TO} {pos p2 : Pos}
theorem ZDl : PO X none ZDg := by
  intro pins s σ H Q I h
  rw [evalPart_none]
  exact wpAny_pure ⟨none, H, I, .none, h⟩
theorem ZCG (h : PE X e te) : PO X (some e) (ZEo te) := by
  intro pins s σ H Q I hw
  rw [evalPart_some]
  refine thn (h pins s σ H _ I hw) fun u s1 ⟨x, H1, I1, r1, q1⟩ => ?_
  obtain ⟨i, rfl, q⟩ := q1
  obtain ⟨t, rfl⟩ := r1
  exact ⟨some i, H1, I1, .int i t, q⟩
def SlR (X : Cx) (r : V -> Option Int -> Option Int -> Hp -> VK -> Prop) : Prop :=
  ∀ (pins : List (Addr × Obj)) (s : Shared) (σ : St) (H : Hp) (x : V) (v vl vu : Value) (lo hi : Option Int) (sl : Addr) (Q : VK), Inv X pins σ H s -> RelV x v -> s.heap.IsSliceOf sl vl vu .none -> IsPart vl lo -> IsPart vu hi -> r x lo hi H Q ->
    ∃ T id, typeLookup (.type T) "__getitem__" = pure (some (.builtin id)) /\ s.TypeIs v T /\ wpAny (model X.prog X.w) X.A (getItem v (.ref sl)) (EP X pins σ Q) X.xe s
def tSl (r : V -> Option Int -> Option Int -> Hp -> VK -> Prop) (te : TE) (tl th : TO) : TE := fun σ H Q => te σ H fun x H1 => tl σ H1 fun l H2 => th σ H2 fun u H3 => r x l u H3 Q
theorem ZCP {r : V -> Option Int -> Option Int -> Hp -> VK -> Prop} (hr : SlR X r) (he : PE X e te) (hl : PO X lo tl) (hu : PO X hi th) : PE X (.Subscript e (.Slice lo hi none p2) pos) (tSl r te tl th) := by
  intro pins s σ H Q I h
  refine Subscript_ (thn (he pins s σ H _ I h) fun v s1 ⟨x, H1, I1, r1, q1⟩ => ?_)
  refine wpAny_Slice (thn (hl pins s1 σ H1 _ I1 q1) fun vl s2 ⟨l, H2, I2, pl, q2⟩ => thn (hu pins s2 σ H2 _ I2 q2) fun vu s3 ⟨u, H3, I3, pu, q3⟩ => ?_)
  rw [evalPart_none]
  refine wpAny_pure ?_
  have I4 : Inv X pins σ H3 { s3 with heap := s3.heap.push { cls := .type "slice", data := .fields #[vl, vu, .none] } } := I3.kept (t' := s3.toks) fun b ob q => Heap.get?_push_of_some _ q
  obtain ⟨T, id, hT, ht, hg⟩ := hr pins { s3 with heap := s3.heap.push { cls := .type "slice", data := .fields #[vl, vu, .none] } } σ H3 x v vl vu l u s3.heap.objs.size Q I4 r1 (Heap.IsSliceOf.new ..) pl pu q3
  show wpAny (model X.prog X.w) X.A (subscriptTail e (.Slice lo hi none p2) v (.ref s3.heap.objs.size)) (EP X pins σ Q) X.xe { s3 with heap := s3.heap.push { cls := .type "slice", data := .fields #[vl, vu, .none] } }
  exact tail_any (ops := [.ref s3.heap.objs.size, v]) ht hT hg (by with_unfolding_all rfl)
def cutV (xs : List V) (lo hi : Option Int) : List V := (xs.drop (HT.sIx xs.length 0 lo)).take (HT.sIx xs.length xs.length hi - HT.sIx xs.length 0 lo)
theorem cutV_length (xs : List V) (lo hi : Option Int) : (cutV xs lo hi).length <= xs.length := by
  unfold cutV
  rw [yAT, yBH]
  omega
def rSlT (K : W.Frag) : V -> Option Int -> Option Int -> Hp -> VK -> Prop := fun x lo hi H Q => ∃ a xs, x = .ref a /\ SqT K H a xs /\
  ¬ (HT.sIx xs.length 0 lo = 0 /\ HT.sIx xs.length xs.length hi = xs.length) /\ ∀ p, H p = none -> Q (.ref p) (upd H p (.tup (cutV xs lo hi)))
theorem sl_tup : SlR X (rSlT X.K) := by
  intro pins s σ H x v vl vu lo hi sl Q I rx hs pl pu h
  obtain ⟨a, xs, rfl, hx, hw, q⟩ := h
  cases rx
  obtain ⟨its, r, ht, hz⟩ := I.tuple hx
  have hlen : its.toArray.size = xs.length := by rw [yAO]; exact r.length.symm
  refine ⟨"tuple", _, PyProof.Rows.slot_tuple_getitem.lookup, ht.typeIs, ?_⟩
  refine HT.getItem_tuple_cut ht hs pl pu (by rw [hlen]; exact hw) ?_ (by rw [hlen]; exact hz)
  rw [hlen]
  refine ⟨.ref s.heap.objs.size, _, I.laid (t' := s.toks) (o := .tup (cutV xs lo hi)) (fun b ob q => Heap.get?_push_of_some _ q) (yAB _) ?_, rfl, q _ (I.hok.fresh (yAB _))⟩
  exact ⟨yAE (cutV_length xs lo hi) hz, _, (r.drop (HT.sIx xs.length 0 lo)).take (HT.sIx xs.length xs.length hi - HT.sIx xs.length 0 lo), IsTup.new _ _⟩
end
def ixN (n : Nat) (i : Int) : Option Nat := if 0 <= i then (if i < n then some i.toNat else none) else if -(n : Int) <= i then some (i + n).toNat else none
def atI {α : Type} (xs : List α) (i : Int) : Option α := (ixN xs.length i).bind fun j => xs[j]?
theorem ixN_seq {n : Nat} {i : Int} {j : Nat} (h : ixN n i = some j) : seqIndex? i n = some j /\ j < n /\ -(n : Int) <= i /\ i < n := by
  unfold ixN at h
  by_cases h0 : 0 <= i
  . rw [if_pos h0] at h
    by_cases h1 : i < n
    . rw [if_pos h1] at h
      have e : i.toNat = j := Option.some.inj h
      exact ⟨by rw [seqIndex_of h0 h1, e], by omega, by omega, h1⟩
    . rw [if_neg h1] at h; cases h
  . rw [if_neg h0] at h
    by_cases h1 : -(n : Int) <= i
    . rw [if_pos h1] at h
      have e : (i + n).toNat = j := Option.some.inj h
      exact ⟨by rw [seqIndex_neg (by omega) h1, e], by omega, h1, by omega⟩
    . rw [if_neg h1] at h; cases h
theorem atI_get {α : Type} {xs : List α} {i : Int} {v : α} (h : atI xs i = some v) : ∃ j, seqIndex? i xs.length = some j /\ xs[j]? = some v /\ j < xs.length /\ -(xs.length : Int) <= i /\ i < xs.length := by
  unfold atI at h
  cases e : ixN xs.length i with
  | none => rw [e] at h; cases h
  | some j =>
    rw [e] at h
    obtain ⟨h1, h2, h3, h4⟩ := ixN_seq e
    exact ⟨j, h1, h, h2, h3, h4⟩
theorem atI_nat {α : Type} {xs : List α} {j : Nat} {v : α} (h : xs[j]? = some v) : atI xs (j : Int) = some v := by
  have hj : j < xs.length := (yAJ.mp h).1
  have e : ixN xs.length (j : Int) = some j := by
    unfold ixN
    rw [if_pos (by omega), if_pos (by omega)]; simp
  unfold atI; rw [e]; exact h
def PlainIx (b : Expr) : Prop := ∀ o i, subscripted b false o i = operate [o, i] (getItem o i)
def IxR (X : Cx) (r : R2) : Prop :=
  ∀ (value slice : Expr) (pins : List (Addr × Obj)) (s : Shared) (σ : St) (H : Hp) (x y : V) (v u : Value) (Q : VK), Inv X pins σ H s -> RelV x v -> RelV y u -> r x y H Q ->
    subscripted slice false v u = operate [v, u] (getItem v u) -> wpAny (model X.prog X.w) X.A (subscriptTail value slice v u) (EP X pins σ Q) X.xe s
def MtR (X : Cx) (id : String) (r : V -> List V -> Hp -> VK -> Prop) : Prop :=
  ∀ (pins : List (Addr × Obj)) (s : Shared) (σ : St) (H : Hp) (x : V) (xs : List V) (v : Value) (us : List Value) (Q : VK), Inv X pins σ H s -> RelV x v -> Vals xs us -> r x xs H Q ->
    wpAny (model X.prog X.w) X.A (call (.builtin id) (v :: us)) (EP X pins σ Q) X.xe s
section
variable {X : Cx} {a b : Expr} {ta tb : TE} {pos : Pos}
theorem ZAt {r : R2} (hr : IxR X r) (ha : PE X a ta) (hb : PE X b tb) (hs : PlainIx b) : PE X (.Subscript a b pos) (tOp r ta tb) := by
  intro pins s σ H Q I h
  exact Subscript_ (binT ha hb I h fun v u s2 x y H2 I2 rx ry q => hr a b pins s2 σ H2 x y v u Q I2 rx ry q (hs _ _))
def rIxL (K : W.Frag) : R2 := fun x y H Q => ∃ p xs i v, x = .ref p /\ y = .int i /\ SqL K H p xs /\ atI xs i = some v /\ Q v H
def rIxT (K : W.Frag) : R2 := fun x y H Q => ∃ p xs i v, x = .ref p /\ y = .int i /\ SqT K H p xs /\ atI xs i = some v /\ Q v H
theorem ZAi : IxR X (rIxL X.K) := by
  intro value slice pins s σ H x y v u Q I rx ry h hs
  obtain ⟨p, xs, i, z, rfl, rfl, hq, he, q⟩ := h
  cases rx
  obtain ⟨t, rfl⟩ := ry
  obtain ⟨its, r, pl, hz⟩ := I.list hq
  obtain ⟨j, h1, h2, h3, h4, h5⟩ := atI_get he
  obtain ⟨w, ew, rw'⟩ := r.get h2
  have hl := r.length
  have hn := ZD4
  have fin : EP X pins σ Q w s := ⟨z, H, I, rw', q⟩
  by_cases h0 : 0 <= i
  . have hj : i.toNat = j := by
      rw [seqIndex_of h0 h5] at h1
      exact Option.some.inj h1
    exact item_listR pl.isList h0 (by omega) (by rw [hj]; simpa using ew) fin hs
  . have hj : (i + (its.toArray.size : Int)).toNat = j := by
      rw [seqIndex_neg (by omega) h4] at h1
      rw [yAO, <- hl]
      exact Option.some.inj h1
    exact subscriptTail_builtinR (x := w) pl.isList.typeIs slot_list_getitem.lookup
      (wpAny_getItem_list_neg (Q := fun r s' => r = w /\ EP X pins σ Q r s') pl.isList (by omega) (by rw [yAO] <;> omega) (by omega) (by rw [hj]; simpa using ew) ⟨rfl, fin⟩) hs
theorem ZB0 : IxR X (rIxT X.K) := by
  intro value slice pins s σ H x y v u Q I rx ry h hs
  obtain ⟨p, xs, i, z, rfl, rfl, hq, he, q⟩ := h
  cases rx
  obtain ⟨t, rfl⟩ := ry
  obtain ⟨its, r, pl, hz⟩ := I.tuple hq
  obtain ⟨j, h1, h2, h3, h4, h5⟩ := atI_get he
  obtain ⟨w, ew, rw'⟩ := r.get h2
  have hl := r.length
  have hn := ZD4
  have fin : EP X pins σ Q w s := ⟨z, H, I, rw', q⟩
  exact subscriptTail_builtinR (x := w) pl.typeIs slot_tuple_getitem.lookup
    (getItem_tuple (j := j) (Q := fun r s' => r = w /\ EP X pins σ Q r s') pl (by omega) (by omega) (by rw [yAO, <- hl]; exact h1) (by simpa using ew) ⟨rfl, fin⟩) hs
theorem mapSeq_set (its : List Value) (n j : Nat) (u : Value) : Obj.mapSeq (·.setIfInBounds j u) { cls := .type "list", data := .seq its.toArray n } = { cls := .type "list", data := .seq (its.set j u).toArray n } := by
  simp [Obj.mapSeq]
theorem Inv.lst {pins : List (Addr × Obj)} {σ : St} {H : Hp} {s : Shared} {p : Addr} {xs : List V} (I : Inv X pins σ H s) (h : H p = some (.lst xs)) :
    ∃ (its : List Value) (n : Nat), Vals xs its /\ s.heap.get? p = some { cls := .type "list", data := .seq its.toArray n } /\ xs.length <= sizeLine := by
  obtain ⟨z, its, n, r, e⟩ := I.hok p _ h
  exact ⟨its, n, r, e, z⟩
theorem Inv.lstUpd {pins : List (Addr × Obj)} {σ : St} {H : Hp} {s : Shared} {p : Addr} {xs ys : List V} {its its' : List Value} {n n' : Nat} {f : Obj -> Obj} (I : Inv X pins σ H s) (h : H p = some (.lst xs))
    (ho : s.heap.get? p = some { cls := .type "list", data := .seq its.toArray n }) (hf : f { cls := .type "list", data := .seq its.toArray n } = { cls := .type "list", data := .seq its'.toArray n' }) (r : Vals ys its') (hz : ys.length <= sizeLine) (t : Nat) :
    Inv X pins σ (upd H p (.lst ys)) { s with heap := s.heap.update p f, toks := t } := by
  have e : (s.heap.update p f).get? p = some { cls := .type "list", data := .seq its'.toArray n' } := by
    rw [Heap.get?_update_self f ho (by rw [hf] <;> rfl), hf]
  refine I.write (x := p) (e := p) (by rw [h]; trivial) (.inl rfl) (fun b u hb q => (Heap.get?_update_other _ _ (Ne.symm hb)).trans q) ⟨_, e⟩ ?_
  exact ⟨hz, its', n', r, e⟩
def rSetL : V -> V -> V -> Hp -> (Hp -> Prop) -> Prop := fun o i v H Q => ∃ p xs k j, o = .ref p /\ i = .int k /\ H p = some (.lst xs) /\ ixN xs.length k = some j /\ Q (upd H p (.lst (xs.set j v)))
theorem set_list : PSet X rSetL := by
  intro pins s σ H o i v ov iv u Q I ro ri rv h
  obtain ⟨p, xs, k, j, rfl, rfl, hp, hj, q⟩ := h
  cases ro
  obtain ⟨t, rfl⟩ := ri
  obtain ⟨its, n, r, ho, hz⟩ := I.lst hp
  obtain ⟨h1, h2, h3, h4⟩ := ixN_seq hj
  have hl := r.length
  have hn := ZD4
  have I' : Inv X pins σ (upd H p (.lst (xs.set j v))) { s with heap := s.heap.update p (Obj.mapSeq (·.setIfInBounds j u)) } :=
    I.lstUpd hp ho (mapSeq_set its n j u) (r.set rv j) (by rw [yCQ]; exact hz) s.toks
  by_cases h0 : 0 <= k
  . have hk : k.toNat = j := by
      rw [seqIndex_of h0 h4] at h1
      exact Option.some.inj h1
    exact PySem.W.ki_setAt ho h0 (by omega) (by rw [yAO, <- hl]; exact h4) (by rw [hk]; exact ⟨_, I', q⟩)
  . have hk : (k + (its.toArray.size : Int)).toNat = j := by
      rw [seqIndex_neg (by omega) h3] at h1
      rw [yAO, <- hl]
      exact Option.some.inj h1
    exact PySem.W.ki_setBack ho (by omega) (by rw [yAO, <- hl]; exact h3) (by omega) (by rw [hk]; exact ⟨_, I', q⟩)
theorem slice_bounds (lo hi : Option Int) (n : Nat) : (sliceBounds lo hi none n).1 = ((HT.sIx n 0 lo : Nat) : Int) /\ (sliceBounds lo hi none n).2.1 = ((HT.sIx n n hi : Nat) : Int) /\ (sliceBounds lo hi none n).2.2 = 1 := by
  refine ⟨?_, ?_, rfl⟩
  . cases lo with
    | none => simp [sliceBounds, HT.sIx]
    | some i =>
      simp only [sliceBounds, HT.sIx, Option.getD_none, show (1 : Int) > 0 by decide, if_true]
      by_cases h : i < 0
      . simp only [h, if_true] <;> omega
      . simp only [h, if_false] <;> omega
  . cases hi with
    | none => simp [sliceBounds, HT.sIx]
    | some i =>
      simp only [sliceBounds, HT.sIx, Option.getD_none, show (1 : Int) > 0 by decide, if_true]
      by_cases h : i < 0
      . simp only [h, if_true] <;> omega
      . simp only [h, if_false] <;> omega
theorem slicePick_cut (its : List Value) (lo hi : Option Int) : slicePick its.toArray lo hi none = ((its.drop (HT.sIx its.length 0 lo)).take (HT.sIx its.length its.length hi - HT.sIx its.length 0 lo)).toArray := by
  obtain ⟨h1, h2, h3⟩ := slice_bounds lo hi its.toArray.size
  unfold slicePick
  rw [h1, h2, h3]
  simp only [sliceRange_one, pick_run, yAO] <;> rfl
def rSlL (K : W.Frag) : V -> Option Int -> Option Int -> Hp -> VK -> Prop := fun x lo hi H Q => ∃ a xs, x = .ref a /\ SqL K H a xs /\ ∀ p, H p = none -> Q (.ref p) (upd H p (.lst (cutV xs lo hi)))
theorem ZDI : SlR X (rSlL X.K) := by
  intro pins s σ H x v vl vu lo hi sl Q I rx hs pl pu h
  obtain ⟨a, xs, rfl, hx, q⟩ := h
  cases rx
  obtain ⟨its, r, ht, hz⟩ := I.list hx
  have hlen := r.length
  refine ⟨"list", _, slot_list_getitem.lookup, ht.isList.typeIs, ?_⟩
  refine wpAny_getItem_list_slice ht.isList hs pl pu .none (by simp) ?_ (by rw [yAO] <;> omega)
  rw [slicePick_cut, <- hlen]
  refine ⟨.ref s.heap.objs.size, _, I.laid (t' := s.toks) (o := .lst (cutV xs lo hi)) (fun b ob q => Heap.get?_push_of_some _ q) (yAB _) ?_, rfl, q _ (I.hok.fresh (yAB _))⟩
  exact ⟨yAE (cutV_length xs lo hi) hz, _, 0, (r.drop (HT.sIx xs.length 0 lo)).take (HT.sIx xs.length xs.length hi - HT.sIx xs.length 0 lo), Heap.get?_push_size _ rfl⟩
def ZDS : V -> Bool
  | .non => true
  | .bl _ => true
  | .int _ => true
  | .str _ => true
  | _ => false
def eqV : V -> V -> Bool
  | .non, .non => true
  | .bl a, .bl b => a == b
  | .bl a, .int b => (if a then 1 else 0) == b
  | .int a, .bl b => a == (if b then 1 else 0)
  | .int a, .int b => a == b
  | .str a, .str b => a == b
  | _, _ => false
theorem eqAt_V {A : Around} {s : Shared} {y x : V} {u v : Value} (ry : RelV y u) (rx : RelV x v) (fy : ZDS y = true) (fx : ZDS x = true) : SeqAt.EqAt A s u v (eqV y x) := by
  cases y with
  | non =>
    cases ry
    cases x with
    | non => cases rx; exact SeqAt.EqAt.same _
    | bl b => cases rx; exact SeqAt.EqAt.none_bool b
    | int b => obtain ⟨t, rfl⟩ := rx; exact SeqAt.EqAt.none_int b t
    | str b => obtain ⟨t, rfl⟩ := rx; exact SeqAt.EqAt.none_str b t
    | _ => exact absurd (show false = true from fx) yAX
  | bl a =>
    cases ry
    cases x with
    | non => cases rx; exact SeqAt.EqAt.bool_none a
    | bl b => cases rx; exact SeqAt.EqAt.bool_bool a b
    | int b => obtain ⟨t, rfl⟩ := rx; exact SeqAt.EqAt.bool_int a b t
    | str b => obtain ⟨t, rfl⟩ := rx; exact SeqAt.EqAt.bool_str a b t
    | _ => exact absurd (show false = true from fx) yAX
  | int a =>
    obtain ⟨t', rfl⟩ := ry
    cases x with
    | non => cases rx; exact SeqAt.EqAt.int_none a t'
    | bl b => cases rx; exact SeqAt.EqAt.int_bool a t' b
    | int b => obtain ⟨t, rfl⟩ := rx; exact SeqAt.EqAt.int_int a t' b t
    | str b => obtain ⟨t, rfl⟩ := rx; exact SeqAt.EqAt.int_str a t' b t
    | _ => exact absurd (show false = true from fx) yAX
  | str a =>
    obtain ⟨t', rfl⟩ := ry
    cases x with
    | non => cases rx; exact SeqAt.EqAt.str_none a t'
    | bl b => cases rx; exact SeqAt.EqAt.str_bool a t' b
    | int b => obtain ⟨t, rfl⟩ := rx; exact SeqAt.EqAt.str_int a t' b t
    | str b => obtain ⟨t, rfl⟩ := rx; exact SeqAt.EqAt.str_str a t' b t
    | _ => exact absurd (show false = true from fx) yAX
  | _ => exact absurd (show false = true from fy) yAX
def eqU (x : V) (u : Value) : Bool := match u with
  | .none => eqV .non x
  | .bool b => eqV (.bl b) x
  | .int i _ => eqV (.int i) x
  | .str z _ => eqV (.str z) x
  | _ => false
theorem eqU_of {x y : V} {u : Value} (r : RelV y u) (f : ZDS y = true) : eqU x u = eqV y x := by
  cases y with
  | non => cases r; rfl
  | bl b => cases r; rfl
  | int i => obtain ⟨t, rfl⟩ := r; rfl
  | str z => obtain ⟨t, rfl⟩ := r; rfl
  | _ => exact absurd (show false = true from f) yAX
theorem ZDx {x : V} : ∀ {xs : List V} {us : List Value}, Vals xs us -> xs.all ZDS = true -> us.any (eqU x) = xs.any fun y => eqV y x
  | _, _, .nil, _ => rfl
  | y :: xs, u :: us, .cons r t, f => by
    rw [List.all_cons, yBQ] at f
    rw [yCR, yCR, eqU_of r f.1, ZDx t f.2]
theorem ZDO {A : Around} {s : Shared} {x : V} {v : Value} (rx : RelV x v) (fx : ZDS x = true) : ∀ {xs : List V} {us : List Value}, Vals xs us -> xs.all ZDS = true -> ∀ u ∈ us, SeqAt.EqAt A s u v (eqU x u)
  | _, _, .nil, _ => fun u hu => by cases hu
  | y :: xs, u :: us, .cons r t, f => fun u' hu => by
    rw [List.all_cons, yBQ] at f
    rcases yAH.mp hu with rfl | hu
    . rw [eqU_of r f.1]; exact eqAt_V r rx f.1 fx
    . exact ZDO rx fx t f.2 u' hu
def inV (x : V) (xs : List V) : Bool := xs.any fun y => eqV y x
def rIn (K : W.Frag) (neg : Bool) : R2 := fun x y H Q => ∃ p xs, y = .ref p /\ (SqL K H p xs ∨ SqT K H p xs) /\ ZDS x = true /\ xs.all ZDS = true /\ Q (.bl (if neg then !inV x xs else inV x xs)) H
theorem op_in_seq : OpR X (compareOp .In) (rIn X.K false) := by
  intro pins s σ H x y v u Q I rx ry h
  obtain ⟨p, xs, rfl, hq, fx, fs, q⟩ := h
  cases ry
  rcases hq with hq | hq
  . obtain ⟨its, r, pl, hz⟩ := I.list hq
    refine SeqAt.in_listAt (eqU x) pl.isList (fun w hw => ZDO rx fx r fs w (by simpa using hw)) ⟨.bl _, H, I, rfl, ?_⟩
    rw [show its.toArray.any (eqU x) = its.any (eqU x) by simp, ZDx r fs]
    exact q
  . obtain ⟨its, r, pl, hz⟩ := I.tuple hq
    refine SeqAt.in_tupleAt (eqU x) pl (fun w hw => ZDO rx fx r fs w (by simpa using hw)) ⟨.bl _, H, I, rfl, ?_⟩
    rw [show its.toArray.any (eqU x) = its.any (eqU x) by simp, ZDx r fs]
    exact q
theorem ZAJ : ZCb X (.builtin "len") (fun xs H Q => ∃ p ys, xs = [.ref p] /\ (SqL X.K H p ys ∨ SqT X.K H p ys) /\ Q (.int ys.length) H) := by
  intro pins s σ H xs us Q I r h
  obtain ⟨p, ys, rfl, hq, q⟩ := h
  obtain ⟨u, rfl, rx⟩ := ZDF r
  cases rx
  have hn := ZD4
  rcases hq with hq | hq
  . obtain ⟨its, r', pl, hz⟩ := I.list hq
    have hlen := r'.length
    exact Calls.call_len_list pl.isList (by simp only [yAO] <;> omega) ⟨.int ys.length, H, I.tok _, ⟨s.toks + 1, by rw [yAO, hlen]⟩, q⟩
  . obtain ⟨its, r', pl, hz⟩ := I.tuple hq
    have hlen := r'.length
    exact len_tuple pl (by simp only [yAO] <;> omega) ⟨.int ys.length, H, I.tok _, ⟨s.toks + 1, by rw [yAO, hlen]⟩, q⟩
theorem call_list_of : ZCb X (.type "list") (fun xs H Q => ∃ p ys, xs = [.ref p] /\ (SqL X.K H p ys ∨ SqT X.K H p ys) /\ ∀ l, H l = none -> Q (.ref l) (upd H l (.lst ys))) := by
  intro pins s σ H xs us Q I r h
  obtain ⟨p, ys, rfl, hq, q⟩ := h
  obtain ⟨u, rfl, rx⟩ := ZDF r
  cases rx
  have fin : ∀ (its : List Value), Vals ys its -> ys.length <= sizeLine -> ∀ (h' : Heap) (c' : Nat), (∀ b o', s.heap.get? b = some o' -> h'.get? b = some o') ->
      h'.get? s.heap.objs.size = some { cls := .type "list", dict := none, data := .seq its.toArray c', slots := #[] } -> EP X pins σ Q (.ref s.heap.objs.size) { s with heap := h' } := fun its r' hz h' c' kp e =>
    ⟨.ref s.heap.objs.size, _, I.laid (t' := s.toks) kp (yAB _) (show ObjOk X.prog X.w _ h' _ (.lst ys) from ⟨hz, its, c', r', e⟩), rfl, q _ (I.hok.fresh (yAB _))⟩
  rcases hq with hq | hq
  . obtain ⟨its, r', pl, hz⟩ := I.list hq
    have hlen := r'.length
    obtain ⟨o, ho, hc, n, hd⟩ := pl.isList
    exact call_list_seq p (.inl rfl) ho hc hd (fun h' c' kp e => fin its r' hz h' c' kp e) (by simp only [yAO] <;> omega)
  . obtain ⟨its, r', pl, hz⟩ := I.tuple hq
    have hlen := r'.length
    obtain ⟨o, ho, hc, n, hd⟩ := pl
    exact call_list_seq p (.inr rfl) ho hc hd (fun h' c' kp e => fin its r' hz h' c' kp e) (by simp only [yAO] <;> omega)
def tyV (K : W.Frag) (T : String) (x : V) (H : Hp) : Prop := match x with
  | .str _ => T = "str"
  | .int _ => T = "int"
  | .ref p => (T = "list" /\ ∃ xs, SqL K H p xs) ∨ (T = "tuple" /\ ∃ o, K.lookup p = some o /\ o.cls = .type "tuple" /\ o.dict = none) ∨
      (T = "dict" /\ ((∃ kvs, H p = some (.dK kvs)) ∨ ∃ kvs, H p = some (.dT kvs))) ∨ (T = "set" /\ ∃ S n, H p = some (.set S n))
  | _ => False
theorem tyV_is {pins : List (Addr × Obj)} {σ : St} {H : Hp} {s : Shared} {T : String} {x : V} {v : Value} (I : Inv X pins σ H s) (r : RelV x v) (ty : tyV X.K T x H) :
    s.TypeIs v T /\ ∀ a, v = .ref a -> ∃ ob, s.heap.get? a = some ob /\ ob.dict = none := by
  cases x with
  | str z =>
    obtain ⟨t, rfl⟩ := r
    cases (show T = "str" from ty)
    exact ⟨typeIs_str s z t, fun _ e => nomatch e⟩
  | int i =>
    obtain ⟨t, rfl⟩ := r
    cases (show T = "int" from ty)
    exact ⟨typeIs_int s i t, fun _ e => nomatch e⟩
  | ref p =>
    cases r
    rcases ty with ⟨rfl, xs, hq⟩ | ⟨rfl, o, hk, hc, hd⟩ | ⟨rfl, hk⟩ | ⟨rfl, S, n, hk⟩
    . obtain ⟨its, _, pl, _⟩ := I.list hq
      refine ⟨pl.isList.typeIs, fun a e => ?_⟩
      cases e
      obtain ⟨o, n, e, c, hd, _⟩ := pl
      exact ⟨o, e, hd⟩
    . refine ⟨⟨o, I.kIn p o hk, hc⟩, fun a e => ?_⟩
      cases e
      exact ⟨o, I.kIn _ o hk, hd⟩
    . have z : ∃ o, s.heap.get? p = some o /\ o.ExactDict := by
        rcases hk with ⟨kvs, hk⟩ | ⟨kvs, hk⟩
        . obtain ⟨_, _, _, _, o, _, _, e, ex, _⟩ := I.hok p _ hk
          exact ⟨o, e, ex⟩
        . obtain ⟨_, _, _, _, o, _, _, e, ex, _⟩ := I.hok p _ hk
          exact ⟨o, e, ex⟩
      obtain ⟨o, e, ex⟩ := z
      refine ⟨⟨o, e, ex.1⟩, fun a e2 => ?_⟩
      cases e2
      exact ⟨o, e, ex.2.1⟩
    . obtain ⟨o, _, _, _, e, ex, _⟩ := I.hok p _ hk
      refine ⟨⟨o, e, ex.1⟩, fun a e2 => ?_⟩
      cases e2
      exact ⟨o, e, ex.2.1⟩
  | _ => exact False.elim ty
def tBM0 (K : W.Frag) (T : String) (r : V -> List V -> Hp -> VK -> Prop) (to : TE) : TE := fun σ H Q => to σ H fun x H1 => tyV K T x H1 /\ r x [] H1 Q
def tBM (K : W.Frag) (T : String) (r : V -> List V -> Hp -> VK -> Prop) (to : TE) (t : TA) : TE := fun σ H Q => to σ H fun x H1 => tyV K T x H1 /\ t σ H1 fun xs H2 => r x xs H2 Q
variable {o e : Expr} {es : List Expr} {to : TE} {t : TA} {name : Str} {apos cpos : Pos} {T id : String} {r : V -> List V -> Hp -> VK -> Prop}
theorem pe_bm0 (pa : PlainAttrs T) (slot : Slot T name id) (hty : typeOf (.builtin id) = pure (.type "method_descriptor")) (hm : MtR X id r) (ho : PE X o to)
    (hbase : attributeBase o name X.env (eval o X.env) = eval o X.env := by rfl) (hline : (apos.endLine == cpos.line) = true := by rfl) : PE X (.Call (.Attribute o name apos) [] [] cpos) (tBM0 X.K T r to) := by
  intro pins s σ H Q I h
  refine wpAny_Call_method0_late hbase hline (thn (ho pins s σ H _ I h) fun v s1 ⟨x, H1, I1, r1, ty, q1⟩ => ?_)
  obtain ⟨h1, h2⟩ := tyV_is I1 r1 ty
  exact ⟨T, id, pa, slot, hty, h1, h2, Calls.callWith_builtin rfl (PySem.evalArgs_none (hm pins s1 σ H1 x [] v [] Q I1 r1 .nil q1))⟩
theorem ZDN (pa : PlainAttrs T) (slot : Slot T name id) (hty : typeOf (.builtin id) = pure (.type "method_descriptor")) (hm : MtR X id r) (ho : PE X o to) (ha : PA X (e :: es) t)
    (hbase : attributeBase o name X.env (eval o X.env) = eval o X.env := by rfl)
    (hfew : ((backTo cpos (starEach (e :: es) X.env)).all (fun x => !x.1) && (backToKw cpos (keywordEach [] X.env)).all (fun x => x.1.isSome)
      && decide ((e :: es).length + ([] : List Keyword).length + (if ([] : List Keyword).isEmpty then 0 else 1) < 30)) = true := by rfl)
    (hline : (apos.endLine == cpos.line) = true := by rfl) (hs : starEach (e :: es) X.env = (false, eval e X.env) :: starEach es X.env := by rfl) (hplain : (backTo cpos (starEach es X.env)).any (·.1) = false := by rfl) :
    PE X (.Call (.Attribute o name apos) (e :: es) [] cpos) (tBM X.K T r to t) := by
  intro pins s σ H Q I h
  refine wpAny_Call_method_late hbase hfew hline rfl (thn (ho pins s σ H _ I h) fun v s1 ⟨x, H1, I1, r1, ty, q1⟩ => ?_)
  obtain ⟨h1, h2⟩ := tyV_is I1 r1 ty
  refine ⟨T, id, pa, slot, hty, h1, h2, ?_⟩
  have hA := ha cpos pins s1 σ H1 _ I1 q1
  rw [hs] at hA ⊢
  refine Calls.callWith_builtin (by show (false || (backTo cpos (starEach es X.env)).any (·.1)) = false; rw [hplain] <;> rfl) (Calls.evalArgs_plain ?_)
  exact thn hA fun us s2 ⟨vs, H2, I2, r2, q2⟩ => hm pins s2 σ H2 x vs v us Q I2 r1 r2 q2
/- xs.append(e), list.index on a module's tuple .. are MtR facts of 06m -/
end
def MtM (X : Cx) (id : String) (r : V -> List V -> Hp -> VK -> Prop) : Prop :=
  ∀ (pins : List (Addr × Obj)) (s : Shared) (σ : St) (H : Hp) (x : V) (xs : List V) (v : Value) (us : List Value) (Q : VK), Inv X pins σ H s -> RelV x v -> Vals xs us -> r x xs H Q ->
    wpAny (model X.prog X.w) X.A (call (.builtin id) (v :: us)) (EP X pins σ Q) X.xe s
theorem Vals.one : ∀ {x : V} {us : List Value}, Vals [x] us -> ∃ u, us = [u] /\ RelV x u
  | _, _, .cons r .nil => ⟨_, rfl, r⟩
theorem Vals.two : ∀ {x y : V} {us : List Value}, Vals [x, y] us -> ∃ u v, us = [u, v] /\ RelV x u /\ RelV y v
  | _, _, _, .cons r (.cons q .nil) => ⟨_, _, rfl, r, q⟩
theorem Vals.zero : ∀ {us : List Value}, Vals [] us -> us = []
  | _, .nil => rfl
theorem Vals.eraseIdx : ∀ {xs : List V} {us : List Value} (i : Nat), Vals xs us -> Vals (xs.eraseIdx i) (us.eraseIdx i)
  | _, _, _, .nil => .nil
  | _, _, 0, .cons _ t => t
  | _, _, i + 1, .cons r t => .cons r (Vals.eraseIdx i t)
theorem Vals.reverse {xs : List V} {us : List Value} (h : Vals xs us) : Vals xs.reverse us.reverse := by
  induction h with
  | nil => exact .nil
  | cons r t ih => rw [List.reverse_cons, List.reverse_cons]; exact Vals.append ih (.cons r .nil)
theorem ZCt {α : Type} : ∀ (l : List α) (i : Nat), (l.eraseIdx i).length <= l.length
  | [], _ => yAB _
  | _ :: _, 0 => yBC _
  | _ :: r, i + 1 => Nat.succ_le_succ (ZCt r i)
section
variable {X : Cx} {pins : List (Addr × Obj)} {σ : St} {H : Hp} {s : Shared} {l b : Addr} {xs ys zs : List V}
theorem Inv.lset {its its' : List Value} {n : Nat} {f : Array Value -> Array Value} {t' : Nat} (I : Inv X pins σ H s) (hH : H l = some (.lst xs))
    (e : s.heap.get? l = some { cls := .type "list", data := .seq its.toArray n }) (hf : f its.toArray = its'.toArray) (hv : Vals ys its') (hz : ys.length <= sizeLine) :
    Inv X pins σ (upd H l (.lst ys)) { s with heap := s.heap.update l (Obj.mapSeq f), toks := t' } := by
  have q := PySem.IsL.update e f
  rw [hf] at q
  refine I.write (x := l) (e := l) (by rw [hH]; exact trivial) (.inl rfl) (fun b' u hb hu => (Heap.get?_update_other s.heap (Obj.mapSeq f) (Ne.symm hb)).trans hu) ⟨_, q⟩ ?_
  exact ⟨hz, its', _, hv, q⟩
theorem Inv.lnew {its : List Value} {t' : Nat} (I : Inv X pins σ H s) (hv : Vals ys its) (hz : ys.length <= sizeLine) :
    Inv X pins σ (upd H s.heap.objs.size (.lst ys)) { s with heap := s.heap.push { cls := .type "list", data := .seq its.toArray }, toks := t' } :=
  I.laid (fun _ _ q => Heap.get?_push_of_some _ q) (yAB _) ⟨hz, its, 0, hv, Heap.get?_push_size _ rfl⟩
theorem Inv.fresh (I : Inv X pins σ H s) : H s.heap.objs.size = none := I.hok.fresh (yAB _)
theorem Inv.lstM (I : Inv X pins σ H s) (hH : H l = some (.lst xs)) : xs.length <= sizeLine /\ ∃ (its : List Value) (n : Nat), Vals xs its /\ xs.length = its.length /\ s.heap.get? l = some { cls := .type "list", data := .seq its.toArray n } := by
  obtain ⟨z, its, n, r, e⟩ := I.hok l _ hH
  exact ⟨z, its, n, r, r.length, e⟩
end
section
variable {X : Cx}
def rAppend : V -> List V -> Hp -> VK -> Prop := fun x vs H Q => ∃ l xs y, x = .ref l /\ vs = [y] /\ H l = some (.lst xs) /\ xs.length < sizeLine /\ Q .non (upd H l (.lst (xs ++ [y])))
theorem ZBz : MtM X "list.append" rAppend := by
  intro pins s σ H x vs v us Q I rx rv h
  obtain ⟨l, xs, y, rfl, rfl, hH, hz, q⟩ := h
  cases rx
  obtain ⟨u, rfl, ru⟩ := rv.one
  obtain ⟨z, its, n, r, hl, e⟩ := I.lstM hH
  refine call_meets F.slot_list_append ⟨_, e, rfl⟩ F.entry_list_append (F.args_list_append_2 _ _) (PySem.list_append l its.toArray n u (by rw [yAO]; omega)) ⟨e, ?_⟩
  refine ⟨.non, _, I.lset (its' := its ++ [u]) hH e (by simp) (r.append (.cons ru .nil)) ?_, rfl, q⟩
  rw [yAD, yBN]
  omega
def rPopAt : V -> List V -> Hp -> VK -> Prop := fun x vs H Q => ∃ l xs i k y, x = .ref l /\ vs = [.int i] /\ H l = some (.lst xs) /\ -(2 ^ 63) <= i /\ i < 2 ^ 63 /\ seqIndex? i xs.length = some k /\ xs[k]? = some y /\ Q y (upd H l (.lst (xs.eraseIdx k)))
theorem mt_popAt : MtM X "list.pop" rPopAt := by
  intro pins s σ H x vs v us Q I rx rv h
  obtain ⟨l, xs, i, k, y, rfl, rfl, hH, h1, h2, hk, hy, q⟩ := h
  cases rx
  obtain ⟨u, rfl, ru⟩ := rv.one
  obtain ⟨t, rfl⟩ := ru
  obtain ⟨z, its, n, r, hl, e⟩ := I.lstM hH
  obtain ⟨w, hw, rw'⟩ := r.get hy
  refine call_meets F.slot_list_pop ⟨_, e, rfl⟩ F.entry_list_pop (F.args_list_pop_2 _ _)
    (MeetsSeq.list_pop_at l its.toArray n i t k w (fitsIndex_both h1 h2) (by rw [yAO, <- hl]; exact hk) (by rw [<- yBD]; exact hw) (by rw [yAO]; omega)) ⟨e, ?_⟩
  refine ⟨y, _, I.lset (its' := its.eraseIdx k) hH e ?_ (r.eraseIdx k) ?_, rw', q⟩
  . show its.toArray.eraseIdxIfInBounds k = (its.eraseIdx k).toArray
    rw [List.eraseIdxIfInBounds_toArray]
  . have := ZCt xs k
    omega
def rReverse : V -> List V -> Hp -> VK -> Prop := fun x vs H Q => ∃ l xs, x = .ref l /\ vs = [] /\ H l = some (.lst xs) /\ Q .non (upd H l (.lst xs.reverse))
theorem mt_reverse : MtM X "list.reverse" rReverse := by
  intro pins s σ H x vs v us Q I rx rv h
  obtain ⟨l, xs, rfl, rfl, hH, q⟩ := h
  cases rx
  have hus := rv.zero
  subst hus
  obtain ⟨z, its, n, r, hl, e⟩ := I.lstM hH
  refine call_meets F.slot_list_reverse ⟨_, e, rfl⟩ F.entry_list_reverse (F.args_list_reverse_1 _) (AutoSeq1.list_reverse_list_0 l its.toArray n (by rw [yAO]; omega)) ⟨e, ?_⟩
  refine ⟨.non, _, I.lset (its' := its.reverse) hH e (by simp) r.reverse ?_, rfl, q⟩
  rw [yBZ]
  omega
def rCat : R2 := fun x y H Q => ∃ l b xs zs, x = .ref l /\ y = .ref b /\ H l = some (.lst xs) /\ H b = some (.lst zs) /\ xs.length + zs.length <= sizeLine /\ ∀ p, H p = none -> Q (.ref p) (upd H p (.lst (xs ++ zs)))
theorem ZDZ : OpR X (binaryOp .Add) rCat := by
  intro pins s σ H x y v u Q I rx ry h
  obtain ⟨l, b, xs, zs, rfl, rfl, hH, hB, hz, q⟩ := h
  cases rx
  cases ry
  obtain ⟨z, its, n, r, hl, e⟩ := I.lstM hH
  obtain ⟨z2, its2, n2, r2, hl2, e2⟩ := I.lstM hB
  refine PySem.P.add_list e e2 ?_ (by rw [yAO, yAO]; omega)
  have ea : its.toArray ++ its2.toArray = (its ++ its2).toArray := by simp
  rw [ea]
  exact ⟨.ref _, _, I.lnew (t' := s.toks) (r.append r2) (by rw [yAD]; omega), rfl, q _ I.fresh⟩
end
section
variable {prog : Program} {w : World} {A : Around} {E : Value -> Shared -> Prop} {s : Shared}
set_option maxRecDepth 100000 in
end
section
variable {X : Cx}
end
end L2
namespace Att
open PySem PySem.W PySem.Calls PyProof.Rows
theorem ints_of_wellAll {P : Params} {h : Heap} : ∀ (ns : List Int) (vs : List Value), WellAll P h vs (ns.map WData.int) -> IntsAre vs ns := by
  intro ns
  induction ns with
  | nil =>
    intro vs w
    rw [List.map_nil] at w
    cases w
    exact .nil
  | cons n ns ih =>
    intro vs w
    rw [yAP] at w
    cases w with
    | cons a b =>
      cases a
      exact .cons _ _ (ih _ b)
theorem script_of {l : OpenLaw} {n : Nat} (hn : l.most = some n) {P : Params} {h : Heap} {args : List WData} {vals : List Value}
    (hpre : l.row.toRowW.claim.pre args = true) (hwl : WellAll P h vals args) :
    ∃ a vs ns, vals = [Value.ref a] /\ args = [WData.list (ns.map WData.int)] /\ h.get? a = some { cls := .type "list", data := .seq vs.toArray } /\ IntsAre vs ns /\ ns.length <= n := by
  have hsh : WShape.hasAll [] args [.list .int] = true := (pre_splitW hpre).1
  have hc : l.pre.holds [] { args := args } = true := (pre_splitW hpre).2
  obtain ⟨d, r, rfl, h1, h2⟩ := hasAllW_cons hsh
  obtain rfl := hasAllW_nil h2
  obtain ⟨xs, rfl, h3⟩ := hasW_list h1
  obtain ⟨ns, rfl⟩ := items_int h3
  have hlen : ns.length <= n := by
    unfold OpenLaw.pre at hc
    have h4 : (WTm.not (.lt (.lit (.int (n : Int))) (.len (.arg 0)))).holds [] { args := [.list (ns.map .int)] } = true := by
      have h4 := (holds_andW hc).1
      rw [hn] at h4
      exact h4
    have h5 := condW_of h4 (w_not (w_lt w_lit (w_len_list (w_arg rfl))))
    rw [yAA] at h5
    refine Nat.le_of_not_lt fun q => ?_
    have q' : (n : Int) < ((ns.length : Nat) : Int) := by omega
    first
      | (rw [decide_eq_true q'] at h5; exact absurd h5 (by decide))
      | (simp at h5; omega)
  cases hwl with
  | cons w1 w2 =>
    cases w2
    cases w1 with
    | list ho hall => exact ⟨_, _, ns, rfl, rfl, ho, ints_of_wellAll ns _ hall, hlen⟩
theorem post_true (l : OpenLaw) (args : List WData) : l.row.toRowW.claim.post args (.bool true) args = true :=
  postW_of (r := l.row.toRowW) (X := (true == true))
    (show WShape.has [] (.bool true) .bool = true by first | rfl | decide | simp [WShape.has, WShape.arms, WShape.armsAll])
    (show (WTm.eq .res (.lit (.bool true))).value [] { args := args, res := some (.bool true), after := args } = some (.bool (true == true)) from w_eq_bool (w_res rfl) w_lit) rfl
theorem attach_call {l : OpenLaw} {n : Nat} {q : Program} {loose : List Str} {XP : (Str -> Option Value) -> Heap -> Prop} {YP : World -> Heap -> Prop} {d : DefRec}
    (hn : l.most = some n) (hdf : d.params.defaults = [])
    (call : ∀ (w : World) (s₀ s₁ : Shared) (mg mb : Str -> Option Value) (fa : Addr) (o : Obj) (pm cd doc : Value) (a : Addr) (vs : List Value) (ns : List Int),
      Ground q loose [] XP w s₀ mg mb s₁.heap -> YP w s₁.heap ->
      s₁.heap.get? fa = some o -> o.data = .func (docDef d.name d.params d.body d.scope pm cd doc) -> s₁.heap.CodeRec cd d.name -> mg d.name = some (.ref fa) ->
      s₁.heap.get? a = some { cls := .type "list", data := .seq vs.toArray } -> IntsAre vs ns -> ns.length <= n -> s₁.gens = #[] ->
      codeAny (model l.prog w) callerA (.call (.ref fa) ⟨[.ref a], []⟩) (fun r s' => r = .ok (.ret (.bool true)) /\ OldK s₁.heap s'.heap /\ s'.os = s₁.os /\ AllBare s'.gens) s₁) :
    WalkO q loose XP YP l.row.toRowW d [] (fun f vs => PySem.call f vs) := by
  intro w s₀ s₁ mg mb G Y fa o pm cd doc dV kV ho hd hcd hD hmg hg args vals as hpre hlay hrd hwl hlo
  obtain rfl : dV = .none := Dflts.none hD hdf
  obtain rfl : kV = .none := Dflts.noKw hD
  obtain ⟨a, vs, ns, rfl, rfl, hobj, hints, hlen⟩ := script_of hn hpre hwl
  refine enter_call (codeAny_mono (call w s₀ s₁ mg mb fa o pm cd doc a vs ns G Y ho (fd_plain hd) hcd hmg hobj hints hlen hg) fun r s' hq => ?_)
  obtain ⟨rfl, h2, h3, h4⟩ := hq
  exact ⟨.inl ⟨.bool true, .bool true, [], rfl, fun _ => rfl, .bool true, post_true l _, fun _ => ⟨List.Pairwise.nil, fun _ hm => (nomatch hm)⟩⟩, h2, h3, h4⟩
section
variable {prog : Program} {w : World} {A : Around} {E : Value -> Shared -> Prop} {s : Shared} {K : Frag}
end
end Att
namespace L2
open PySem PySem.Spec PyProof.Rows
theorem ZCn : ∀ {vs : List Value} {ns : List Int}, IntsAre vs ns -> Vals (ns.map V.int) vs
  | _, _, .nil => .nil
  | _, _, .cons n t h => .cons ⟨t, rfl⟩ (ZCn h)
end L2
/- THE LAST THEOREM (shape; LID, My.* are yours):
   My.Adr: a structure of the addresses that your layer names (classes, functions); My.Txt K t: a structure (Prop) of the equations over K;
   My.txt_mk : {K} {implicit addresses ..} (e1 : nsIn K mainGlobals "law" = some (some (.ref f))) (e2 : K.lookup f = some ⟨oc, od, .func (fnOf "law" "law" params body scope dV kV doc pm an cdv ct), sl⟩) (e3 : codeIn K cdv "law" = true) .. : ∃ t, My.Txt K t
set_option maxRecDepth 100000 in
set_option maxHeartbeats 0 in
theorem PySem.Challenge.cw_LID_holds : PySem.Challenge.rw_LID.Holds := by
  w_on; o_law; k_head; (case hw => w_witness2)
  k_fill
  refine L2.walk_of (l := PySem.Challenge.rw_LID) (n := 63) (k := 40) (x := "script") (CX := fun w => ..) (sp := fun _ => My.sp_law) rfl (by decide) rfl ⟨rfl, by decide, by decide⟩ (fun w h Y => PySem.W.kIn_of Y) ?F ?S ?C
  case F =>
    intro w mg fa h KX G hmg
    have T : ∃ t, My.Txt (L2.KOf KX) t := by
      dsimp only [L2.KOf]                          -- K must stand as «<heap const> w.params» for k_is
      refine' My.txt_mk ?e1 ?e2 ?e3 ..
      (case e1 => PySem.W.k_is)                    -- in the order: a name -> its address -> its object -> its parts
      (case e2 => PySem.W.k_is)
      ..
    obtain ⟨t, T⟩ := T
    have e0 := hmg.symm.trans (PySem.W.mg_of KX G T.law)
    cases e0                                       -- fa is the law's own address
    exact ⟨_, fun s u => .of_eq rfl, fun base kb nb => My.law_fn T kb nb⟩     -- if «.of_eq rfl» comes too early: refine' ⟨_, ?b, fun base kb nb => My.law_fn T kb nb⟩; exact fun s u => .of_eq rfl
  case S => exact fun w H a ns hl hO hS => ..
  case C => exact ..
(the tactic k_is has no namespace: write k_is) -/
namespace L2
open PySem PySem.Spec PyProof.Rows
def ZA6 (s : Stmt) (j : Nat) : Stmt := match s with
  | .ClassDef _ _ _ body _ _ _ _ _ _ _ => body.getD j (.Pass ⟨0, 0, 0, 0⟩)
  | _ => .Pass ⟨0, 0, 0, 0⟩
def ZAQ (s : Stmt) : Arguments := match s with
  | .FunctionDef _ a _ _ _ _ _ _ _ _ => a
  | _ => { posonlyargs := [], args := [], vararg := none, kwonlyargs := [], kw_defaults := [], kwarg := none, defaults := [] }
def ZAL (s : Stmt) : List Stmt := match s with
  | .FunctionDef _ _ b _ _ _ _ _ _ _ => b
  | _ => []
def ZAC (s : Stmt) : Scope := match s with
  | .FunctionDef _ _ _ _ _ _ sc _ _ _ => sc
  | _ => { kind := .function, names := [], isGenerator := false, isCoroutine := false }
abbrev CX0 : CXT := fun _ _ _ _ _ _ => False
abbrev E0 : XK := fun _ _ _ => False
theorem ZAZ {X : Cx} : ZBw CX0 X E0 := fun _ _ _ _ _ _ _ h => h.elim
structure Fun (K : W.Frag) (x qual : Str) (st : Stmt) (f : Addr) (fd : FuncData) : Prop where
  ex : ∃ (oc : Value) (od : Option Addr) (kV doc pm : Value) (an : Option Addr) (cdv ct : Value) (osl : Array (Option Value)),
    fd = W.fnOf x qual (ZAQ st) (ZAL st) (ZAC st) .none kV doc pm an cdv ct /\ K.lookup f = some ⟨oc, od, .func fd, osl⟩ /\ W.codeIn K cdv qual = true
  kp : W.keepIn K (.ref f) = true
section
variable {P : Program} {w : World} {K : W.Frag} {mg : Str -> Option Value} {base : Heap}
theorem Fun.ok {x qual : Str} {st : Stmt} {f : Addr} {fd : FuncData} {N ps : List Str} {k : Nat} {sp : Sp} (F : Fun K x qual st f fd) (S : FnScope N ps (ZAC st)) (len : ∀ vs H Q E, sp vs H Q E -> vs.length = ps.length)
    (hbody : ∀ (cdv : Value) (A : Around) (outer : List Env) (s : Shared) (H : Hp) (vs : List V) (Q : VK) (E : XK), Room k (A.deeper (envOfC qual (ZAC st) s.heap.objs.size f cdv)) -> sp vs H Q E ->
      ∃ t, PSs (cxOf CX0 P w K mg base N qual (ZAC st) f cdv A outer s H E).nox (ZAL st) t /\ t { nx := fun _ H' => Q .non H', rt := Q } (start N vs) H) : FnOk P w K mg base CX0 (k + 1) f fd ps sp := by
  obtain ⟨oc, od, kV, doc, pm, an, cdv, ct, osl, rfl, lk, hcd⟩ := F.ex
  refine fn_of lk hcd S len fun A outer s H vs Q E hr hsp => ?_
  obtain ⟨t, h, q⟩ := hbody cdv A outer s H vs Q E hr hsp
  exact ⟨t, h.nox, q⟩
theorem Fun.binds {x qual : Str} {st : Stmt} {f : Addr} {fd : FuncData} {ps : List Str} (F : Fun K x qual st f fd)
    (h : ∀ (kV doc pm : Value) (an : Option Addr) (cdv ct : Value) (us : List Value), us.length = ps.length -> bindArgs (W.fnOf x qual (ZAQ st) (ZAL st) (ZAC st) .none kV doc pm an cdv ct) ⟨us, []⟩ = pure (ps.zip us)) : Binds K fd ps [] := by
  obtain ⟨oc, od, kV, doc, pm, an, cdv, ct, osl, rfl, lk, hcd⟩ := F.ex
  exact .all (h kV doc pm an cdv ct)
theorem ZAl {x qual : Str} {st : Stmt} {f : Addr} {oc : Value} {od an : Option Addr} {osl : Array (Option Value)} {kV doc pm cdv ct : Value} (l : K.lookup f = some ⟨oc, od, .func (W.fnOf x qual (ZAQ st) (ZAL st) (ZAC st) .none kV doc pm an cdv ct), osl⟩)
    (c : W.codeIn K cdv qual = true) (k : W.keepIn K (.ref f) = true) : Fun K x qual st f (W.fnOf x qual (ZAQ st) (ZAL st) (ZAC st) .none kV doc pm an cdv ct) := ⟨⟨oc, od, kV, doc, pm, an, cdv, ct, osl, rfl, l, c⟩, k⟩
end
theorem ZC5 {A : Around} {k : Nat} (hr : Room k A) : A.units + 1 < cLine := Nat.lt_of_le_of_lt (Nat.add_le_add_left (by decide : 1 <= 64) _) hr.units
theorem ZAw {n : Nat} (h : n <= 1000) : n < sizeLine := Nat.lt_of_le_of_lt h (by decide)
section
variable {X : Cx}
theorem pv (i : Nat) {x : Str} {pos : Pos} (hN : X.N[i]? = some x := by rfl) (hv : Vis X.env.scope x := by first | exact Or.inl rfl | exact Or.inr (Or.inl rfl) | exact Or.inr (Or.inr rfl)) (hd : (x == ("__debug__" : Str)) = false := by decide)
    (hcd : (x == ("__classdict__" : Str)) = false := by decide) : PE X (.Name x pos) (tVar i) := pe_var hN hv hd hcd
end
def Same (H H' : Hp) : Prop := ∀ b o, H b = some o -> H' b = some o
theorem Same.refl (H : Hp) : Same H H := fun _ _ h => h
theorem Same.trans {H H1 H2 : Hp} (a : Same H H1) (b : Same H1 H2) : Same H H2 := fun c o h => b c o (a c o h)
theorem Same.free {H H' : Hp} (e : Same H H') {l : Addr} (h : H' l = Option.none) : H l = Option.none := by
  cases q : H l with
  | none => rfl
  | some o =>
    rw [e l o q] at h
    cases h
theorem Same.seq {K : W.Frag} {H H' : Hp} {a : Addr} {xs : List V} (e : Same H H') (h : SqL K H a xs) : SqL K H' a xs := by
  rcases h with (h | ⟨o, h⟩) | h
  . exact .inl (.inl (e _ _ h))
  . exact .inl (.inr ⟨o, e _ _ h⟩)
  . exact .inr h
end L2
set_option maxHeartbeats 4000000
namespace L2
open PySem PySem.Spec PyProof.Rows
theorem natlt {a b : Addr} (h : a < b) : @LT.lt Nat _ a b := h
theorem ZC3 {a b : Addr} {n : Nat} (h : a < n) (k : n <= b) : a ≠ b := yAL (yAW h k)
theorem ZA3 : ∀ (names : List (Str × NameKind)) (n : Nat) (acc : List (Str × Addr)), cellsFrom n names acc = cellsFrom n names [] ++ acc
  | [], _, _ => rfl
  | (x, k) :: r, n, acc => by
    unfold cellsFrom
    split
    . rw [ZA3 r (n + 1) ((x, n) :: acc), ZA3 r (n + 1) [(x, n)], yBA]; rfl
    . exact ZA3 r n acc
theorem ZBs : ∀ (names : List (Str × NameKind)) (n : Nat) (acc : List (Str × Addr)) (y : Str) (c : Addr), (y, c) ∈ cellsFrom n names acc -> (y, c) ∈ acc ∨ ((y, NameKind.cell) ∈ names /\ n <= c)
  | [], _, _, _, _, h => .inl h
  | (x, k) :: r, n, acc, y, c, h => by
    unfold cellsFrom at h
    split at h
    . rename_i hk
      have hk' : k = .cell := by simpa using hk
      rcases ZBs r (n + 1) _ y c h with h | ⟨h, l⟩
      . rcases yAH.mp h with e | h
        . cases e; subst hk'; exact .inr ⟨yAI, yAB _⟩
        . exact .inl h
      . exact .inr ⟨yAS _ h, Nat.le_of_succ_le l⟩
    . rcases ZBs r n _ y c h with h | ⟨h, l⟩
      . exact .inl h
      . exact .inr ⟨yAS _ h, l⟩
def closFrom (cells : List (Str × Addr)) : List (Str × NameKind) -> List (Str × Addr) -> List (Str × Addr)
  | [], acc => acc
  | (x, k) :: r, acc => if k == .free then closFrom cells r ((x, (cells.lookup x).getD 0) :: acc) else closFrom cells r acc
theorem ZBW {cells : List (Str × Addr)} : ∀ (names : List (Str × NameKind)) (acc : List (Str × Addr)) (y : Str) (c : Addr), (y, c) ∈ closFrom cells names acc -> (y, c) ∈ acc ∨ ((y, NameKind.free) ∈ names /\ c = (cells.lookup y).getD 0)
  | [], _, _, _, h => .inl h
  | (x, k) :: r, acc, y, c, h => by
    unfold closFrom at h
    split at h
    . rename_i hk
      have hk' : k = .free := by simpa using hk
      rcases ZBW r _ y c h with h | ⟨h, l⟩
      . rcases yAH.mp h with e | h
        . cases e; subst hk'; exact .inr ⟨yAI, rfl⟩
        . exact .inl h
      . exact .inr ⟨yAS _ h, l⟩
    . rcases ZBW r _ y c h with h | ⟨h, l⟩
      . exact .inl h
      . exact .inr ⟨yAS _ h, l⟩
theorem ZB1 {cells : List (Str × Addr)} : ∀ (names : List (Str × NameKind)) (acc : List (Str × Addr)) (p : Str × Addr), p ∈ acc -> p ∈ closFrom cells names acc
  | [], _, _, h => h
  | (x, k) :: r, acc, p, h => by
    unfold closFrom
    split
    . exact ZB1 r _ p (yAS _ h)
    . exact ZB1 r _ p h
theorem ZBX {cells : List (Str × Addr)} : ∀ (names : List (Str × NameKind)) (acc : List (Str × Addr)) (y : Str), (y, NameKind.free) ∈ names -> (y, (cells.lookup y).getD 0) ∈ closFrom cells names acc
  | [], _, _, h => nomatch h
  | (x, k) :: r, acc, y, h => by
    unfold closFrom
    rcases yAH.mp h with e | h
    . cases e
      rw [if_pos (by rfl)]
      exact ZB1 r _ _ yAI
    . split
      . exact ZBX r _ y h
      . exact ZBX r _ y h
theorem ZBN {α : Type} : ∀ {l : List (Str × α)} {y : Str} {c : α}, (y, c) ∈ l -> ∃ c', l.lookup y = some c'
  | (k, v) :: r, y, c, h => by
    rw [yCE]
    cases hb : y == k with
    | true => exact ⟨v, rfl⟩
    | false =>
      rcases yAH.mp h with e | h
      . cases e; rw [beq_self_eq_true] at hb; cases hb
      . exact ZBN h
theorem ZBr {env : Env} (f : Str × NameKind -> List (Str × Addr) -> Sem (ForInStep (List (Str × Addr))))
    (hf : ∀ name kind cs, f (name, kind) cs = if kind == .free then (do let a <- cellOf env name; pure (.yield ((name, a) :: cs))) else pure (.yield cs)) :
    ∀ (names : List (Str × NameKind)) (acc : List (Str × Addr)), (∀ x, (x, NameKind.free) ∈ names -> ∃ c, env.cells.lookup x = some c) -> forIn names acc f = (pure (closFrom env.cells names acc) : Sem (List (Str × Addr)))
  | [], acc, _ => by rw [List.forIn_nil]; rfl
  | (x, k) :: r, acc, h => by
    have hr : ∀ x, (x, NameKind.free) ∈ r -> ∃ c, env.cells.lookup x = some c := fun y hy => h y (yAS _ hy)
    rw [List.forIn_cons, hf]
    unfold closFrom
    split
    . rename_i hk
      have hk' : k = .free := by simpa using hk
      subst hk'
      obtain ⟨c, hc⟩ := h x yAI
      have e : cellOf env x = (pure c : Sem Addr) := by unfold cellOf; rw [hc]
      rw [e, hc]
      exact ZBr f hf r ((x, c) :: acc) hr
    . exact ZBr f hf r acc hr
theorem closureFor_eq {scope : Scope} {env : Env} (h : ∀ x, (x, NameKind.free) ∈ scope.names -> ∃ c, env.cells.lookup x = some c) : closureFor scope env = pure (closFrom env.cells scope.names []) := by
  simp only [closureFor]
  rw [ZBr _ (fun name kind cs => by cases hk : kind == NameKind.free <;> simp [hk]) scope.names [] h]
  rfl
section
variable {M : Model} {A : Around} {E : Value -> Shared -> Prop} {s : Shared}
theorem newEnv_comp {scope : Scope} {globals : Addr} {cl : List (Str × Addr)} {qual : Str} {env : Env} {Q : Env -> Shared -> Prop}
    (hQ : Q { scope := scope, locals := s.heap.objs.size, globals := globals, cells := cellsFrom (s.heap.objs.size + 1) scope.names cl, qual := qual, func := none, code := env.code, frame := env.frame, builtins := env.builtins }
      { s with heap := pushCells (s.heap.push { cls := .type "dict", data := .dict #[] }) scope.names }) :
    wpAny M A (newFunctionEnv scope globals cl [] qual none .none (some env)) Q E s := by
  simp only [newFunctionEnv, Option.isSome_some, if_true]
  refine wpAny_bind (wpAny_alloc ?_)
  refine wpAny_bind (wpAny_layCells _ (fun name kind cells => by cases hkc : kind == NameKind.cell <;> simp [hkc]) _ _ _ _ ?_)
  rw [show ({ s with heap := s.heap.push { cls := .type "dict", data := .dict #[] } } : Shared).heap.objs.size = s.heap.objs.size + 1 from Heap.size_push ..]
  rw [List.forIn_nil]
  exact wpAny_bind (wpAny_pure (wpAny_pure hQ))
end
theorem relabel_lookup {scope : Scope} {env : Env} (x : Str) : (relabel scope env).names.lookup x = (scope.names.lookup x).map fun k => if (k == .free && env.scope.kind == .function && env.kindOf x == some .cell) = true then NameKind.cell else k := by
  unfold relabel
  dsimp only
  generalize scope.names = names
  induction names with
  | nil => rfl
  | cons p r ih =>
    obtain ⟨n, k⟩ := p
    rw [yAP, yCE (as := r)]
    cases hx : x == n with
    | true =>
      have e : x = n := beq_iff_eq.mp hx
      subst e
      by_cases hc : (k == NameKind.free && env.scope.kind == .function && env.kindOf x == some .cell) = true
      . simp only [hc, if_true, yCE, hx, yCF]
      . simp only [hc, yCS, if_false, yCE, hx, yCF]
    | false =>
      by_cases hc : (k == NameKind.free && env.scope.kind == .function && env.kindOf n == some .cell) = true
      . simp only [hc, if_true, yCE, hx]; exact ih
      . simp only [hc, yCS, if_false, yCE, hx]; exact ih
def ZCj (N : List Str) (osc : Scope) (k : Nat) (js : List Nat) (N' : List Str) (sc : Scope) : Bool :=
  decide (sc.kind = .function) && decide (N'.length = k + js.length) && decide N'.Nodup &&
  sc.names.all (fun p => decide (sc.names.lookup p.1 = some p.2) && (decide (p.2 ≠ .free) || decide (osc.names.lookup p.1 = some .cell) || decide (osc.names.lookup p.1 = some .free))) &&
  (List.range js.length).all (fun i => decide (js[i]?.bind (fun j => N[j]?) = N'[k + i]?) && decide ((N'[k + i]?).bind (fun y => sc.names.lookup y) = some .free))
structure CmpOk (N : List Str) (osc : Scope) (k : Nat) (js : List Nat) (N' : List Str) (sc : Scope) : Prop where
  kind : sc.kind = .function
  len : N'.length = k + js.length
  nd : N'.Nodup
  look : ∀ p ∈ sc.names, sc.names.lookup p.1 = some p.2
  fr : ∀ y, (y, NameKind.free) ∈ sc.names -> osc.names.lookup y = some .cell ∨ osc.names.lookup y = some .free
  js : ∀ i j, js[i]? = some j -> ∃ y, N'[k + i]? = some y /\ N[j]? = some y /\ sc.names.lookup y = some .free
theorem cmpOk {N : List Str} {osc : Scope} {k : Nat} {js : List Nat} {N' : List Str} {sc : Scope} (h : ZCj N osc k js N' sc = true) : CmpOk N osc k js N' sc := by
  unfold ZCj at h
  simp only [yBQ, decide_eq_true_eq, List.all_eq_true, Bool.or_eq_true, List.mem_range] at h
  obtain ⟨⟨⟨⟨h1, h2⟩, h3⟩, h4⟩, h5⟩ := h
  refine ⟨h1, h2, h3, fun p hp => (h4 p hp).1, fun y hy => ?_, fun i j hj => ?_⟩
  . rcases (h4 _ hy).2 with (z | z) | z
    . exact absurd rfl z
    . exact .inl z
    . exact .inr z
  . have hi : i < js.length := (yAJ.mp hj).1
    obtain ⟨a, b⟩ := h5 i hi
    rw [hj] at a
    cases e : N'[k + i]? with
    | none => rw [e] at b; cases b
    | some y =>
      rw [e] at a b
      exact ⟨y, rfl, a, b⟩
def ZDU (scope : Scope) (cl : List (Str × Addr)) (C : Addr) (env : Env) : Env :=
  { scope := relabel scope env, locals := C, globals := env.globals, cells := cellsFrom (C + 1) scope.names cl, qual := env.qual, func := none, code := env.code, frame := env.frame, builtins := env.builtins }
def ZBj (X : Cx) (N' : List Str) (scope : Scope) (C : Addr) (fp : List Addr) (s2 : Shared) (H2 : Hp) : Cx where
  prog := X.prog
  w := X.w
  K := X.K
  mg := X.mg
  base := X.base
  A := X.A
  N := N'
  s₀ := s2
  H₀ := H2
  env := ZDU scope (closFrom X.env.cells scope.names []) C X.env
  outer := X.stack
  stack := X.stack
  ex := fp
  fn := fun x => decide (scope.names.lookup x = some .cell)
  calm := X.calm
  pn := []
  xe := fun _ _ => False
def up (k : Nat) (js : List Nat) (σ : St) : St := List.replicate k none ++ js.map fun j => (σ[j]?).getD none
section
variable {X : Cx} {pins : List (Addr × Obj)} {σ : St} {H : Hp} {s2 : Shared} {k : Nat} {js : List Nat} {N' : List Str} {scope : Scope} {fp : List Addr}
theorem comp_inv (hc : CmpOk X.N X.env.scope k js N' scope) (I : Inv X pins σ H s2) (hfp : ∀ b ∈ fp, FpOk X pins H b) (hlt : ∀ b ∈ fp, b < s2.heap.objs.size) {h3 : Heap} (hz : h3.objs.size = s2.heap.objs.size + 1) (hk3 : ∀ b o, s2.heap.get? b = some o -> h3.get? b = some o) :
    Inv (ZBj X N' scope (s2.heap.objs.size + 1) fp s2 H) [] (up k js σ) H { s2 with heap := pushCells (h3.push { cls := .type "dict", data := .dict #[] }) scope.names } := by
  have frLook : ∀ y, (y, NameKind.free) ∈ scope.names -> ∃ c, X.env.cells.lookup y = some c := fun y hy => I.ok.has y (hc.fr y hy)
  have ok0 := cellsFrom_ok scope.names (h3.push { cls := .type "dict", data := .dict #[] }) (s2.heap.objs.size + 2) [] ⟨fun _ _ hm => (nomatch hm), List.Pairwise.nil⟩ (by rw [Heap.size_push, hz]; exact yAB _)
  rw [Heap.size_push, hz] at ok0
  -- the cells of the block
  have parts : ∀ y c, (ZDU scope (closFrom X.env.cells scope.names []) (s2.heap.objs.size + 1) X.env).cells.lookup y = some c ->
      ((y, c) ∈ cellsFrom (s2.heap.objs.size + 2) scope.names [] /\ (y, NameKind.cell) ∈ scope.names /\ s2.heap.objs.size + 2 <= c) ∨ ((y, NameKind.free) ∈ scope.names /\ X.env.cells.lookup y = some c) := fun y c e => by
    have m := PySem.mem_of_lookup e
    change (y, c) ∈ cellsFrom (s2.heap.objs.size + 1 + 1) scope.names _ at m
    rw [ZA3] at m
    rcases yBB.mp m with m | m
    . rcases ZBs _ _ _ _ _ m with z | ⟨z, l⟩
      . cases z
      . exact .inl ⟨m, z, l⟩
    . rcases ZBW _ _ _ _ m with z | ⟨z, l⟩
      . cases z
      . obtain ⟨c', e'⟩ := frLook y z
        rw [e'] at l
        exact .inr ⟨z, by rw [e']; exact congrArg some l.symm⟩
  have old : ∀ y c, X.env.cells.lookup y = some c -> c < s2.heap.objs.size := fun y c e => by
    obtain ⟨v, q⟩ := I.cell y c e
    exact q.lt
  have freeAt : ∀ y, (y, NameKind.free) ∈ scope.names -> ∀ c, X.env.cells.lookup y = some c -> (ZDU scope (closFrom X.env.cells scope.names []) (s2.heap.objs.size + 1) X.env).cells.lookup y = some c := fun y hy c e => by
    have m : (y, c) ∈ cellsFrom (s2.heap.objs.size + 1 + 1) scope.names (closFrom X.env.cells scope.names []) := by
      rw [ZA3]
      have q := ZBX (cells := X.env.cells) scope.names [] y hy
      rw [e] at q
      exact yAY _ q
    obtain ⟨c', q⟩ := ZBN m
    rcases parts y c' q with ⟨_, z, _⟩ | ⟨_, z⟩
    . have z1 := hc.look _ z
      have z2 := hc.look _ hy
      rw [z1] at z2
      cases z2
    . rw [e] at z
      cases z
      exact q
  have keepAll : ∀ b o, s2.heap.get? b = some o -> (pushCells (h3.push { cls := .type "dict", data := .dict #[] }) scope.names).get? b = some o := fun b o e => pushCells_keeps _ _ b o (Heap.get?_push_of_some _ (hk3 b o e))
  refine ⟨⟨I.ok.mod, hc.kind, I.ok.glob, I.ok.blt, yBC _, fun y z c h1 h2 => ?_, fun y hy => ?_, fun y c h1 h2 => ?_, I.ok.hd, I.ok.frames, .inl rfl, fun b hb => ⟨?_, fun y c e => ?_⟩, I.bs, yAE I.ok.bsz I.sz, fun b o e hb => ?_, fun b hb hs => ?_, I.stack, I.stkFree⟩,
    rfl, I.bare, Un.kept keepAll, ⟨fun _ => none, ?_, fun i y v e1 e2 e3 => ?_⟩, fun y c e => ?_, I.hok.fresh (yBC _), fun y c e => ?_, fun p hp => absurd (show p ∈ ([] : List (Addr × Obj)) from hp) (by simp), I.hok.kept keepAll, ?_⟩
  . -- inj
    rcases parts y c h1 with ⟨a, _, l⟩ | ⟨_, a⟩ <;> rcases parts z c h2 with ⟨b, _, l'⟩ | ⟨_, b⟩
    . exact name_of_addr ok0.apart a b
    . have := natlt (old z c b); omega
    . have := natlt (old y c a); omega
    . exact I.ok.inj y z c a b
  . -- has
    have hy' : (relabel scope X.env).names.lookup y = some .cell ∨ (relabel scope X.env).names.lookup y = some .free := hy
    rw [relabel_lookup] at hy'
    have q : scope.names.lookup y = some .cell ∨ scope.names.lookup y = some .free := by
      cases e : scope.names.lookup y with
      | none => rw [e] at hy'; rcases hy' with z | z <;> cases z
      | some kk =>
        rw [e] at hy'
        cases kk <;> first | exact .inl rfl | exact .inr rfl | (rcases hy' with z | z <;> simp at z)
    rcases q with q | q
    . obtain ⟨c, e⟩ := ZCk (n := s2.heap.objs.size + 1 + 1) q
      have m : (y, c) ∈ cellsFrom (s2.heap.objs.size + 1 + 1) scope.names (closFrom X.env.cells scope.names []) := by
        rw [ZA3]
        exact yBX _ (PySem.mem_of_lookup e)
      exact ZBN m
    . have m := PySem.mem_of_lookup q
      obtain ⟨c, e⟩ := frLook y m
      exact ⟨c, freeAt y m c e⟩
  . -- cab
    have h1' : scope.names.lookup y = some .cell := of_decide_eq_true h1
    rcases parts y c h2 with ⟨_, _, l⟩ | ⟨z, _⟩
    . show s2.heap.objs.size <= c
      omega
    . have := hc.look _ z
      rw [h1'] at this
      cases this
  . -- an iterator is not the frame
    exact ZC3 (hlt b hb) (yBC _)
  . rcases parts y c e with ⟨_, _, l⟩ | ⟨_, z⟩
    . exact (ZC3 (hlt b hb) (yAE (Nat.le_add_right _ 2) l)).symm
    . exact (hfp b hb).2.2.2.2.1 y c z
  . -- noex
    rcases (hfp b hb).2.2.2.1 with z | z
    . exact I.ok.noex b o e z
    . exact absurd (yAW (Heap.lt_size e) (yAE I.ok.bsz z)) (yBG _)
  . -- exfs
    rcases yAH.mp (I.stkSub b hs) with z | z
    . exact (hfp b hb).2.1 z
    . exact (hfp b hb).2.2.1 z
  . -- the frame's map
    have q := (Heap.Ns.new h3 (.type "dict")).keeps (pushCells_keeps scope.names _)
    rw [hz] at q
    exact q
  . -- what is captured
    unfold up at e2
    have hik : k <= i := by
      by_cases hi : i < k
      . rw [yAV (by simpa using hi), yCM] at e2
        rw [if_pos hi] at e2
        cases e2
      . omega
    rw [yAU (by simpa using hik), yBY, yAG] at e2
    cases ej : js[i - k]? with
    | none => rw [ej] at e2; cases e2
    | some j =>
      rw [ej] at e2
      have e2' : (σ[j]?).getD none = some v := Option.some.inj e2
      have e4 : σ[j]? = some (some v) := by
        cases q : σ[j]? with
        | none => rw [q] at e2'; cases e2'
        | some z => rw [q] at e2'; exact congrArg some e2'
      obtain ⟨y', n1, n2, n3⟩ := hc.js _ _ ej
      rw [Nat.add_sub_cancel' hik] at n1
      have n0 : N'[i]? = some y := e1
      rw [n1] at n0
      cases n0
      have hm := PySem.mem_of_lookup n3
      have hvis : Vis X.env.scope y := .inr (hc.fr y hm)
      obtain ⟨m, hn, hl⟩ := I.loc
      obtain ⟨u, r, l⟩ := hl j y v n2 e4 hvis
      refine ⟨u, r, ?_⟩
      rcases l with ⟨kk, _⟩ | ⟨kk, c, ec, ic⟩
      . have kk' : X.env.scope.names.lookup y = some .local := kk
        rcases hc.fr y hm with z | z <;> (rw [kk'] at z; cases z)
      . refine .inr ⟨?_, c, freeAt y hm c ec, ic.keeps keepAll⟩
        show (relabel scope X.env).names.lookup y = some .cell ∨ (relabel scope X.env).names.lookup y = some .free
        rw [relabel_lookup, n3]
        simp only [yCF]
        split
        . exact .inl rfl
        . exact .inr rfl
  . -- cells are there
    rcases parts y c e with ⟨a, _, _⟩ | ⟨_, a⟩
    . exact ⟨none, (ok0.empty y c a).1⟩
    . obtain ⟨v, q⟩ := I.cell y c a
      exact ⟨v, q.keeps keepAll⟩
  . rcases parts y c e with ⟨_, _, l⟩ | ⟨_, a⟩
    . exact I.hok.fresh (by omega)
    . exact I.freeC y c a
  . unfold up
    show _ = N'.length
    rw [yAD, yBY, yAA, hc.len]
theorem comp_end {σ' : St} {H' : Hp} {s' : Shared} {C D : Addr} {its : List Value} {n : Nat} {ys : List V} (I : Inv X pins σ H s2) (hfp : ∀ b ∈ fp, FpOk X pins H b) (hC : s2.heap.objs.size <= C) (hD : s2.heap.objs.size <= D) (hDC : D ≠ C)
    (I' : Inv (ZBj X N' scope C fp s2 H) [(D, { cls := .type "list", data := .seq its.toArray n })] σ' H' s') (hv : Vals ys its) (hz : ys.length <= sizeLine) :
    H' D = none /\ ∀ h', Heap.SameBut C s'.heap h' -> Inv X pins σ (upd H' D (.lst ys)) { s' with heap := h' } := by
  obtain ⟨eD, nD, _, _, _⟩ := I'.pin (D, { cls := .type "list", data := .seq its.toArray n }) (yAY _ yAI)
  dsimp only at eD nD
  have nC : H' C = none := I'.free
  refine ⟨nD, fun h' hs => ?_⟩
  have neC : ∀ b o, s2.heap.get? b = some o -> b ≠ C := fun b o e => ZC3 (Heap.lt_size e) hC
  have neD : ∀ b o, s2.heap.get? b = some o -> b ≠ D := fun b o e => ZC3 (Heap.lt_size e) hD
  have tr : ∀ b u, H' b = some u -> b ≠ D := fun b u e z => by rw [z, nD] at e; cases e
  have trC : ∀ b u, H' b = some u -> b ≠ C := fun b u e z => by rw [z, nC] at e; cases e
  have B := I'.base
  refine I.call' (s' := { s' with heap := h' }) (ch := fp) I'.os ⟨fun b o e nn hb hx => ?_, fun b o e nn hb hx => ?_, fun b o e nn hx => ?_, fun b o e hx => ?_, fun b xs e => ?_, fun b o u e => ?_, fun b ps e => ?_⟩ (fun b u e => ?_) I'.bare fun b hb => ?_
  . exact (hs.2 b (neC b o e)).trans (B.keep b o e nn hb hx)
  . obtain ⟨sl, q⟩ := B.slot b o e nn hb hx
    exact ⟨sl, (hs.2 b (neC b o e)).trans q⟩
  . rw [ZAI (neD b o e)]
    exact B.free b o e nn hx
  . obtain ⟨o', q⟩ := B.there b o e hx
    exact ⟨o', (hs.2 b (neC b o e)).trans q⟩
  . have q := B.tups b xs e
    rw [ZAI (tr b _ q)]
    exact q
  . have q := B.frzs b o u e
    rw [ZAI (tr b _ q)]
    exact q
  . obtain ⟨more, q⟩ := B.tbls b ps e
    exact ⟨more, by rw [ZAI (tr b _ q)]; exact q⟩
  . by_cases hb : b = D
    . subst hb
      rw [ZAG] at e
      cases e
      exact ⟨hz, its, n, hv, (hs.2 b hDC).trans eD⟩
    . rw [ZAI hb] at e
      refine (I'.hok b u e).stay (fun c v hcc q => (hs.2 c ?_).trans q) (fun c q => by rw [ZAI (tr c _ q)]; exact q) fun c xs q => by rw [ZAI (tr c _ q)]; exact q
      rcases hcc with rfl | hcc
      . exact trC c _ e
      . exact trC c _ hcc
  . obtain ⟨_, f1, _, f3, f4, f5⟩ := hfp b hb
    exact ⟨f3, f1, f4, f5⟩
end
section
variable {prog : Program} {w : World} {A : Around} {R : Result -> Shared -> Prop} {s : Shared}
theorem codeAny_compLoop_any {elt target iter : Expr} {ifs : List Expr} {scope : Scope} {pos : Pos} {it acc : Value} {env : Env} (I : Nat -> Shared -> Prop)
    (turn : ∀ n s, I n s -> wpAny (model prog w) A (pyNext it) (fun r s₁ => match r with
      | none => R (.ok .next) s₁
      | some v => wpAny (model prog w) A (letOwnedTupleGo target it v) (fun _ s₁' => wpAny (model prog w) A (assign target env v) (fun _ s₂ =>
          wpAny (model prog w) A (forIn ifs true fun c r => if r = true then do let ok <- isTrue c env (eval c env); pure (ForInStep.yield ok) else pure (ForInStep.yield r)) (fun ok s₃ =>
            if ok = true then wpAny (model prog w) A (eval elt env) (fun x s₄ =>
              wpAny (model prog w) A (call (.builtin "list.append") [acc, x]) (fun _ s₅ => ∃ m, m < n /\ I m s₅) (notedBy (model prog w) A env fun e s' => R (.error e) s') s₄) (notedBy (model prog w) A env fun e s' => R (.error e) s') s₃
            else ∃ m, m < n /\ I m s₃) (notedBy (model prog w) A env fun e s' => R (.error e) s') s₂) (notedBy (model prog w) A env fun e s' => R (.error e) s') s₁') (notedBy (model prog w) A env fun e s' => R (.error e) s') s₁) (notedBy (model prog w) A env fun e s' => R (.error e) s') s)
    (n : Nat) (h : I n s) :
    codeAny (model prog w) A (.compLoop (.ListComp elt [⟨target, iter, ifs, 0⟩] scope pos) 0 it acc env) R s := by
  refine codeAny_loop rfl I (fun n s hI => ?_) n h
  show wpAny _ A ((compTurn (.ListComp elt [⟨target, iter, ifs, 0⟩] scope pos) 0 it acc env).onRaise (fun x => do noteFrame x env; theTreesLotGoes x)) _ _ s
  refine wpAny_noted ?_
  rw [compTurn_list]
  refine wpAny_bind (wpAny_standAt (wpAny_bind (wpAny_mono (turn n s hI) (fun r s₁ h₁ => ?_) fun _ _ h' => h')))
  cases r with
  | none => exact wpAny_pure h₁
  | some v =>
    refine wpAny_bind (wpAny_mono h₁ (fun _ s₁' h₁' => ?_) fun _ _ h' => h')
    refine wpAny_bind (wpAny_mono h₁' (fun _ s₂ h₂ => wpAny_bind (wpAny_mono h₂ (fun ok s₃ h₃ => ?_) fun _ _ h' => h')) fun _ _ h' => h')
    cases ok with
    | false => exact wpAny_pure ⟨rfl, h₃⟩
    | true => exact wpAny_bind (wpAny_bind (wpAny_mono h₃ (fun x s₄ h₄ => wpAny_bind (wpAny_mono h₄ (fun _ s₅ h₅ => wpAny_pure (wpAny_pure ⟨rfl, h₅⟩)) fun _ _ h' => h')) fun _ _ h' => h'))
end
def PIfs (X : Cx) (ifs : List Expr) (t : TT) : Prop :=
  ∀ (pins : List (Addr × Obj)) (s : Shared) (σ : St) (H : Hp) (Q : Bool -> Hp -> Prop), Inv X pins σ H s -> t σ H Q ->
    wpAny (model X.prog X.w) X.A (forIn ifs true fun c r => if r = true then do let ok <- isTrue c X.env (eval c X.env); pure (ForInStep.yield ok) else pure (ForInStep.yield r)) (TP X pins σ Q) X.xe s
def tYes : TT := fun _ H Q => Q true H
theorem ZAy {X : Cx} : PIfs X [] tYes := fun _ _ _ H _ I h => wpAny_tests_nil ⟨H, I, h⟩
theorem ZDL {X : Cx} {c : Expr} {t : TT} (hc : PT X c t) : PIfs X [c] t := fun pins s σ H Q I h => wpAny_tests_one (hc pins s σ H Q I h)
def ZDi (k : Nat) (js : List Nat) (wi : TI) (g : TG) (tt : TT) (te : TE) : TE := fun σ H Q => wi σ H fun J H1 => ∃ W : Nat -> Nat -> List V -> St -> Hp -> Prop, (∃ m, W 0 m [] (up k js σ) H1) /\ ∀ i m ys σ H, W i m ys σ H ->
  (J.stop i H /\ ys.length <= sizeLine /\ ∀ p, H p = none -> Q (.ref p) (upd H p (.lst ys))) ∨
  (J.go i H /\ ys.length < sizeLine /\ ∀ x H', J.yld i H x H' -> g x σ H' fun σ2 H2 => tt σ2 H2 fun b H3 => if b = true then te σ2 H3 fun y H4 => ∃ m', m' < m /\ W (i + 1) m' (ys ++ [y]) σ2 H4 else ∃ m', m' < m /\ W (i + 1) m' ys σ2 H3)
section
variable {X : Cx} {k : Nat} {js : List Nat} {N' : List Str} {scope : Scope} {tg iter elt : Expr} {ifs : List Expr} {wi : TI} {g : TG} {tt : TT} {te : TE} {pos : Pos}
theorem comp_core {use : Option (Value -> Sem Unit)} {Q' : Value -> Shared -> Prop} (hcalm : X.calm = true) (hc : CmpOk X.N X.env.scope k js N' scope) (hi : PI X tg iter wi)
    (hg : ∀ C fp s2 H2, PG (ZBj X N' scope C fp s2 H2) tg g) (ht : ∀ C fp s2 H2, PIfs (ZBj X N' scope C fp s2 H2) ifs tt) (he : ∀ C fp s2 H2, PE (ZBj X N' scope C fp s2 H2) elt te)
    {pins : List (Addr × Obj)} {s : Shared} {σ : St} {H : Hp} {Q : VK} (I : Inv X pins σ H s) (h : ZDi k js wi g tt te σ H Q)
    (fin : ∀ (C D : Addr) (s' : Shared) (m : Str -> Option Value) (H' : Hp) (ys : List V), s'.heap.Ns C m -> C ≠ X.env.locals -> C ∉ X.fs -> D ≠ C -> H' C = none -> X.s₀.heap.objs.size <= C -> (∀ x c, X.env.cells.lookup x = some c -> c ≠ C) -> (∀ p ∈ X.pn ++ pins, p.1 ≠ C) -> (∀ h', Heap.SameBut C s'.heap h' -> Inv X pins σ (upd H' D (.lst ys)) { s' with heap := h' }) -> Q (.ref D) (upd H' D (.lst ys)) ->
      compPost (model X.prog X.w) X.A X.xe use Q' (.ref D) C (.ok .next) s')
    (hs : ∀ x, foldedSetIterable iter X.env x = pure x) (p' : Pos) :
    wpAny (model X.prog X.w) X.A (comprehension (.ListComp elt [⟨tg, iter, ifs, 0⟩] scope pos) scope X.env p' (newList []) false (eval iter X.env) use) Q' X.xe s := by
  have hclos : closureFor scope X.env = pure (closFrom X.env.cells scope.names []) := closureFor_eq fun y hy => I.ok.has y (hc.fr y hy)
  refine wpAny_comprehension_free (g := ⟨tg, iter, ifs, 0⟩) (gs := []) rfl hs hclos hc.kind (fun x hx hl => by rw [hc.look x hx, hl]) ?_
  refine thn (hi pins s σ H _ I h) fun v s1 h1 => thn h1 fun itv s2 h2 => ?_
  obtain ⟨it, fp, tn, J, H2, e, I2, T, st2, f2, W, ⟨m0, w0⟩, turn⟩ := h2
  subst e
  have hlt : ∀ b ∈ fp, b < s2.heap.objs.size := fun b hb => by
    obtain ⟨o, e, _⟩ := T.obj _ _ st2 b hb
    exact Heap.lt_size e
  refine wpAny_newObj_type (newEnv_comp ?_)
  have hz3 : (s2.heap.push { cls := .type "list", dict := none, data := .seq ([] : List Value).toArray }).objs.size = s2.heap.objs.size + 1 := Heap.size_push ..
  have I3 := comp_inv (h3 := s2.heap.push { cls := .type "list", dict := none, data := .seq ([] : List Value).toArray }) hc I2 f2 hlt hz3 (fun b o e => Heap.get?_push_of_some _ e)
  dsimp only
  rw [hz3]
  generalize hS4 : ({ s2 with heap := pushCells ((s2.heap.push { cls := .type "list", dict := none, data := .seq ([] : List Value).toArray }).push { cls := .type "dict", data := .dict #[] }) scope.names } : Shared) = s4 at I3 ⊢
  have keep4 : ∀ b o, s2.heap.get? b = some o -> s4.heap.get? b = some o := fun b o e => by
    rw [<- hS4]
    exact pushCells_keeps _ _ b o (Heap.get?_push_of_some _ (Heap.get?_push_of_some _ e))
  have eD4 : s4.heap.get? s2.heap.objs.size = some { cls := .type "list", data := .seq ([] : List Value).toArray 0 } := by
    rw [<- hS4]
    exact pushCells_keeps _ _ _ _ (Heap.get?_push_of_some _ (Heap.get?_push_size _ rfl))
  generalize hX' : ZBj X N' scope (s2.heap.objs.size + 1) fp s2 H2 = X' at I3
  have hC' : X'.env.locals = s2.heap.objs.size + 1 := by rw [<- hX']; rfl
  have hfs' : X'.fs = frs X.stack := by rw [<- hX']; rfl
  -- D is nobody's
  have nofsD : ∀ a, s2.heap.objs.size <= a -> a ∉ frs X.stack := fun a ha hb => by
    rcases yAH.mp (I2.stkSub a hb) with z | z
    . exact absurd z.symm (ZC3 I2.lt ha)
    . exact I2.nofs ha z
  have cellD : ∀ x c, X'.env.cells.lookup x = some c -> c ≠ s2.heap.objs.size := fun x c e z => by
    obtain ⟨v, o, ho, hd⟩ := I3.cell x c e
    rw [z, eD4] at ho
    cases ho
    cases hd
  have pinD : ∀ {σ' : St} {H' : Hp} {s' : Shared} {its : List Value} {n : Nat}, Inv X' [] σ' H' s' -> s'.heap.get? s2.heap.objs.size = some { cls := .type "list", data := .seq its.toArray n } -> H' s2.heap.objs.size = none ->
      Inv X' [(s2.heap.objs.size, { cls := .type "list", data := .seq its.toArray n })] σ' H' s' := fun {σ' H' s' its n} J e nn => J.pins_of fun p hp => by
    have e' : p = (s2.heap.objs.size, { cls := .type "list", data := .seq its.toArray n }) := by simpa using hp
    subst e'
    refine ⟨e, nn, ?_, ?_, fun v z => nomatch z⟩
    . rw [hC']; exact yAL (yCD _)
    . rw [hfs']; exact nofsD _ (yAB _)
  have I4 := pinD I3 eD4 (I2.hok.fresh (yAB _))
  -- what stays true of the iterator's objects
  have stat : ∀ {H' : Hp} {o : Obj}, (∀ b ∈ fp, H' b = none) -> ∀ b ∈ fp, FpOk X' [(s2.heap.objs.size, o)] H' b := fun {H' o} hn b hb => by
    have hb' := hlt b hb
    refine ⟨hn b hb, ?_, ?_, .inl (by rw [<- hX']; exact hb), fun x c e z => ?_, fun p hp z => ?_⟩
    . rw [hC']; exact ZC3 hb' (yBC _)
    . rw [hfs']
      intro z
      rcases yAH.mp (I2.stkSub b z) with q | q
      . exact (f2 b hb).2.1 q
      . exact (f2 b hb).2.2.1 q
    . have q := I3.ok.exf b (by rw [<- hX']; exact hb)
      exact q.2 x c e z
    . rw [show X'.pn = [] by rw [<- hX']; rfl] at hp
      have e' : p = (s2.heap.objs.size, o) := by simpa using hp
      subst e'
      exact absurd hb' (by rw [<- z]; exact yBG _)
  have hfin : ∀ {σ' : St} {H' : Hp} {s' : Shared} {its : List Value} {n : Nat} {ys : List V}, Inv X' [(s2.heap.objs.size, { cls := .type "list", data := .seq its.toArray n })] σ' H' s' -> Vals ys its -> ys.length <= sizeLine -> (∀ p, H' p = none -> Q (.ref p) (upd H' p (.lst ys))) ->
      compPost (model X.prog X.w) X.A X.xe use Q' (.ref s2.heap.objs.size) (s2.heap.objs.size + 1) (.ok .next) s' := fun {σ' H' s' its n ys} J hv hz hq => by
    obtain ⟨m, hn, _⟩ := id J.loc
    rw [hC'] at hn
    have nC : H' (s2.heap.objs.size + 1) = none := by rw [<- hC']; exact J.free
    have J' : Inv (ZBj X N' scope (s2.heap.objs.size + 1) fp s2 H2) [(s2.heap.objs.size, { cls := .type "list", data := .seq its.toArray n })] σ' H' s' := by rw [hX']; exact J
    obtain ⟨nD, E⟩ := comp_end I2 f2 (yBC _) (yAB _) (yAL (yCD _)) J' hv hz
    refine fin _ _ s' m H' ys hn ?_ (I2.nofs (yBC _)) (yAL (yCD _)) nC (yAE I2.sz (yBC _)) (fun x c e z => ?_) (fun p hp z => ?_) E (hq _ nD)
    . exact (ZC3 I2.lt (yBC _)).symm
    . obtain ⟨v, q⟩ := I2.cell x c e
      exact absurd z (ZC3 q.lt (yBC _))
    . exact absurd z (ZC3 (Heap.lt_size (I2.pin p hp).1) (yBC _))
  have hprog : X'.prog = X.prog := by rw [<- hX']; rfl
  have hw : X'.w = X.w := by rw [<- hX']; rfl
  have hK : X'.K = X.K := by rw [<- hX']; rfl
  have hcalm' : X'.calm = true := by rw [<- hX']; exact hcalm
  have hA : X'.A = X.A := by rw [<- hX']; rfl
  have henv : ZDU scope (closFrom X.env.cells scope.names []) (s2.heap.objs.size + 1) X.env = X'.env := by rw [<- hX']; rfl
  have hgX := hg (s2.heap.objs.size + 1) fp s2 H2
  have htX := ht (s2.heap.objs.size + 1) fp s2 H2
  have heX := he (s2.heap.objs.size + 1) fp s2 H2
  rw [hX'] at hgX htX heX
  have hxe : ∀ e s', X'.xe e s' -> False := fun e s' z => by rw [<- hX'] at z; exact z
  have hXA : X'.pn = [] := by rw [<- hX']; rfl
  have hs0 : X'.s₀.heap.objs.size = s2.heap.objs.size := by rw [<- hX']; rfl
  have loop : codeAny (model X.prog X.w) X.A (.compLoop (.ListComp elt [⟨tg, iter, ifs, 0⟩] scope pos) 0 (.ref it) (.ref s2.heap.objs.size) X'.env) (compPost (model X.prog X.w) X.A X.xe use Q' (.ref s2.heap.objs.size) (s2.heap.objs.size + 1)) s4 := by
    refine codeAny_compLoop_any (fun n s' => ∃ i σ' H' its nn ys, Inv X' [(s2.heap.objs.size, { cls := .type "list", data := .seq its.toArray nn })] σ' H' s' /\ tn i s'.heap /\ (∀ b ∈ fp, H' b = none) /\ Vals ys its /\ W i n ys σ' H') ?_ m0
      ⟨0, _, H2, [], 0, [], I4, T.keep _ _ _ st2 (fun b _ o e => keep4 b o e), fun b hb => (f2 b hb).1, .nil, w0⟩
    rintro n s5 ⟨i, σ5, H5, its, nn, ys, I5, st5, fr5, hv, w5⟩
    rcases turn i n ys σ5 H5 w5 with ⟨stop, hz, hq⟩ | ⟨go, hz, step⟩
    . have d := T.done X' hprog hw hK hcalm' i _ s5 σ5 H5 (fun _ _ => False) I5 (stat fr5) st5 stop
      rw [hA] at d
      refine wpAny_mono d (fun r s6 ⟨hr, I6⟩ => ?_) fun _ _ z => z.elim
      subst hr
      exact hfin I6 hv hz hq
    . have d := T.item X' hprog hw hK hcalm' i _ s5 σ5 H5 (fun _ _ => False) I5 (stat fr5) st5 go
      rw [hA] at d
      refine wpAny_mono d (fun r s6 ⟨u, hr, h6⟩ => ?_) fun _ _ z => z.elim
      subst hr
      refine wpAny_mono h6 (fun _ s7 ⟨x, H7, I7, r7, y7, st7, fr7⟩ => ?_) fun _ _ z => z.elim
      have I7' := I7.pinned (stat fr7) (T.obj _ _ st7)
      have a1 := hgX _ s7 σ5 H7 x u _ I7' r7 (step x H7 y7)
      rw [hprog, hw, hA] at a1
      refine wpAny_mono a1 (fun _ s8 ⟨σ8, H8, I8, q8⟩ => ?_) fun _ _ z => (hxe _ _ z).elim
      have a2 := htX _ s8 σ8 H8 _ I8 q8
      rw [hprog, hw, hA] at a2
      refine wpAny_mono a2 (fun ok s9 ⟨H9, I9, q9⟩ => ?_) fun _ _ z => (hxe _ _ z).elim
      have back : ∀ {σ' : St} {H' : Hp} {s' : Shared}, Inv X' ([(s2.heap.objs.size, ({ cls := .type "list", data := .seq its.toArray nn } : Obj))] ++ ZDY fp s7.heap) σ' H' s' -> tn (i + 1) s'.heap /\ (∀ b ∈ fp, H' b = none) := fun {σ' H' s'} J => by
        refine ⟨T.keep _ _ _ st7 fun b hb o e => (J.pin (b, o) (yAY _ (yAY _ (ZB8 hb e)))).1, fun b hb => ?_⟩
        obtain ⟨o, e, d⟩ := T.obj _ _ st7 b hb
        exact (J.pin (b, o) (yAY _ (yAY _ (ZB8 hb e)))).2.1
      cases ok with
      | false =>
        rw [if_neg yAX] at q9 ⊢
        obtain ⟨m', hm, w9⟩ := q9
        obtain ⟨t9, f9⟩ := back I9
        exact ⟨m', hm, i + 1, σ8, H9, its, nn, ys, I9.unpinned, t9, f9, hv, w9⟩
      | true =>
        rw [if_pos rfl] at q9 ⊢
        have a3 := heX _ s9 σ8 H9 _ I9 q9
        rw [hprog, hw, hA] at a3
        refine wpAny_mono a3 (fun uy s10 ⟨y, H10, I10, r10, m', hm, w10⟩ => ?_) fun _ _ z => (hxe _ _ z).elim
        obtain ⟨t10, f10⟩ := back I10
        have I11 := I10.unpinned
        obtain ⟨eD, nD, _, _, _⟩ := I11.pin (s2.heap.objs.size, { cls := .type "list", data := .seq its.toArray nn }) (yAY _ yAI)
        dsimp only at eD nD
        have hsz : its.length < sizeLine := by rw [<- hv.length]; exact hz
        refine wpAny_list_append_plain ⟨nn, eD⟩ (fun h' hpl hsb => ?_) (by rw [yAO]; omega)
        obtain ⟨n', e'⟩ := hpl
        have e'' : h'.get? s2.heap.objs.size = some { cls := .type "list", data := .seq (its ++ [uy]).toArray n' } := by rw [e']; simp
        have I12 : Inv X' [] σ8 H10 s10 := I11.pins_of fun p hp => absurd hp (by simp)
        have I13 := I12.turned (h' := h') (t' := s10.toks) (it := s2.heap.objs.size) (fun b o hb e => (hsb.2 b hb).trans e) nD (by rw [hC']; exact yAL (yCD _)) (.inr (by rw [hs0]; exact yAB _)) cellD (fun p hp => absurd hp (by rw [hXA]; simp))
        refine ⟨m', hm, i + 1, σ8, H10, its ++ [uy], n', ys ++ [y], pinD I13 e'' nD, T.keep _ _ _ t10 fun b hb o e => ?_, f10, hv.append (.cons r10 .nil), w10⟩
        exact (hsb.2 b (ZC3 (hlt b hb) (yAB _))).trans e
  have hst : codeAny (model X.prog X.w) X.A (.compStart (.ListComp elt [⟨tg, iter, ifs, 0⟩] scope pos) 0 (.ref it) (.ref s2.heap.objs.size) X'.env) (compPost (model X.prog X.w) X.A X.xe use Q' (.ref s2.heap.objs.size) (s2.heap.objs.size + 1)) s4 :=
    codeAny_compStart_list loop (T.self X.A 0 s4 _ _ (T.keep _ _ _ st2 (fun b _ o e => keep4 b o e)) loop)
  rw [<- henv] at hst
  exact hst
theorem ZBL (hcalm : X.calm = true) (hc : ZCj X.N X.env.scope k js N' scope = true) (hi : PI X tg iter wi)
    (hg : ∀ C fp s2 H2, PG (ZBj X N' scope C fp s2 H2) tg g) (ht : ∀ C fp s2 H2, PIfs (ZBj X N' scope C fp s2 H2) ifs tt) (he : ∀ C fp s2 H2, PE (ZBj X N' scope C fp s2 H2) elt te)
    (hs : ∀ x, foldedSetIterable iter X.env x = pure x := by intro _; rfl) : PE X (.ListComp elt [⟨tg, iter, ifs, 0⟩] scope pos) (ZDi k js wi g tt te) := by
  intro pins s σ H Q I h
  rw [eval_ListComp]
  refine comp_core (use := none) hcalm (cmpOk hc) hi hg ht he I h (fun C D s' m H' ys hn _ _ _ _ _ _ _ E q => ?_) hs _
  exact ⟨m, hn, fun h' hsb => ⟨.ref D, _, E h' hsb, rfl, q⟩⟩
theorem ZBe {i : Nat} {x : Str} {px spos : Pos} (hN : X.N.Nodup) (hix : X.N[i]? = some x) (hx : Loc X.env.scope x) (hcalm : X.calm = true) (hc : ZCj X.N X.env.scope k js N' scope = true) (hi : PI X tg iter wi)
    (hg : ∀ C fp s2 H2, PG (ZBj X N' scope C fp s2 H2) tg g) (ht : ∀ C fp s2 H2, PIfs (ZBj X N' scope C fp s2 H2) ifs tt) (he : ∀ C fp s2 H2, PE (ZBj X N' scope C fp s2 H2) elt te)
    (hs : ∀ x, foldedSetIterable iter X.env x = pure x := by intro _; rfl) (hsw : swapsWith (.ListComp elt [⟨tg, iter, ifs, 0⟩] scope pos) (some (.Name x px)) spos.line X.env = pure true := by rfl)
    (hf : X.fn x = true ∨ X.env.scope.names.lookup x = some .local := by first | exact .inl rfl | exact .inr rfl | assumption) :
    PS X (.Assign [.Name x px] (.ListComp elt [⟨tg, iter, ifs, 0⟩] scope pos) spos) (tAsg (ZDi k js wi g tt te) (ZDv i)) := by
  intro pins s σ H D I h
  rw [exec_Assign_Name_used _ _ _ _ hsw]
  refine wpAny_bind (wpAny_standAt (wpAny_bind ?_))
  show wpAny _ X.A (do let _ <- comprehension (.ListComp elt [⟨tg, iter, ifs, 0⟩] scope pos) scope X.env _ (newList []) false (eval iter X.env) (some (assign (.Name x px) X.env))) _ _ s
  refine wpAny_bind (wpAny_mono (comp_core (use := some (assign (.Name x px) X.env)) (Q' := fun _ s' => SP X pins D .next s') hcalm (cmpOk hc) hi hg ht he I h (fun C Dd s' m H' ys hn c1 c2 c3 c4 c5 c6 c7 E q => ?_) hs _) (fun _ s' hq => wpAny_pure (wpAny_pure hq)) fun _ _ e => e)
  have J := E s'.heap (.refl ..)
  obtain ⟨oC, es, ep, eC, dC, rC⟩ := id hn
  have J' : Inv X (pins ++ [(C, oC)]) σ (upd H' Dd (.lst ys)) s' := J.pins_of fun p hp => by
    rcases yBB.mp hp with z | z
    . exact J.pin p (yAY _ z)
    . have e' : p = (C, oC) := by simpa using z
      subst e'
      refine ⟨eC, ?_, c1, c2, fun v z => ?_⟩
      . show upd H' Dd _ C = none
        rw [ZAI (Ne.symm c3)]
        exact c4
      . have z' : oC.data = .cell v := z
        rw [dC] at z'
        cases z'
  show wpAny _ X.A (assign (.Name x px) X.env (.ref Dd)) _ _ _
  refine wpAny_assign_Name (ZCf (Q := fun _ s'' => ∃ m, s''.heap.Ns C m /\ ∀ h', Heap.SameBut C s''.heap h' -> SP X pins D .next { s'' with heap := h' }) J' hN hix hx (v := .ref Dd) (u := .ref Dd) rfl (fun s'' K' => ?_) hf)
  obtain ⟨e2, n2, _, _, _⟩ := K'.pin (C, oC) (yAY _ (yAY _ yAI))
  dsimp only at e2 n2
  refine ⟨m, ⟨oC, es, ep, e2, dC, rC⟩, fun h' hsb => ⟨_, _, K'.unpinned.turned (it := C) (t' := s''.toks) (fun b o hb e => (hsb.2 b hb).trans e) n2 c1 (.inr c5) c6 c7, q⟩⟩
end
mutual
def Dp (K : W.Frag) (H : Hp) : PyData -> V -> Prop
  | .none, v => v = .non
  | .bool b, v => v = .bl b
  | .int i, v => v = .int i
  | .str x, v => v = .str x
  | .list ds, v => ∃ a xs, v = .ref a /\ SqL K H a xs /\ DpAll K H ds xs
  | .tuple ds, v => ∃ a xs, v = .ref a /\ SqT K H a xs /\ DpAll K H ds xs
  | .dict _, _ => False
def DpAll (K : W.Frag) (H : Hp) : List PyData -> List V -> Prop
  | [], vs => vs = []
  | d :: ds, vs => ∃ v r, vs = v :: r /\ Dp K H d v /\ DpAll K H ds r
end
theorem DpAll.nil {K : W.Frag} {H : Hp} : DpAll K H [] [] := by unfold DpAll; rfl
theorem DpAll.cons {K : W.Frag} {H : Hp} {d : PyData} {ds : List PyData} {v : V} {vs : List V} (a : Dp K H d v) (t : DpAll K H ds vs) : DpAll K H (d :: ds) (v :: vs) := by unfold DpAll; exact ⟨v, vs, rfl, a, t⟩
theorem DpAll.two {K : W.Frag} {H : Hp} {d e : PyData} {v u : V} (a : Dp K H d v) (b : Dp K H e u) : DpAll K H [d, e] [v, u] := .cons a (.cons b .nil)
theorem DpAll.ints {K : W.Frag} {H : Hp} : ∀ (ns : List Int), DpAll K H (ns.map PyData.int) (ns.map V.int)
  | [] => .nil
  | n :: r => .cons (by unfold Dp; rfl) (DpAll.ints r)
theorem ZD8 {K : W.Frag} {H : Hp} (i : Int) : Dp K H (.int i) (.int i) := by unfold Dp; rfl
theorem dp_lst {K : W.Frag} {H : Hp} {a : Addr} {xs : List V} {ds : List PyData} (h : SqL K H a xs) (t : DpAll K H ds xs) : Dp K H (.list ds) (.ref a) := by unfold Dp; exact ⟨a, xs, rfl, h, t⟩
theorem dp_tup {K : W.Frag} {H : Hp} {a : Addr} {xs : List V} {ds : List PyData} (h : SqT K H a xs) (t : DpAll K H ds xs) : Dp K H (.tuple ds) (.ref a) := by unfold Dp; exact ⟨a, xs, rfl, h, t⟩
section
variable {X : Cx} {pins : List (Addr × Obj)} {σ : St} {H : Hp} {s : Shared}
mutual
theorem Inv.reads (I : Inv X pins σ H s) : ∀ {d : PyData} {v : V} {u : Value}, Dp X.K H d v -> RelV v u -> ∃ as, Reads s.heap u d as
  | .none, _, _, h, r => by unfold Dp at h; subst h; cases (show _ = Value.none from r); exact ⟨_, .none⟩
  | .bool b, _, _, h, r => by unfold Dp at h; subst h; cases (show _ = Value.bool b from r); exact ⟨_, .bool b⟩
  | .int i, _, _, h, r => by unfold Dp at h; subst h; obtain ⟨t, q⟩ := (show ∃ t, _ = Value.int i t from r); subst q; exact ⟨_, .int i t⟩
  | .str x, _, _, h, r => by unfold Dp at h; subst h; obtain ⟨t, q⟩ := (show ∃ t, _ = Value.str x t from r); subst q; exact ⟨_, .str x t⟩
  | .list ds, _, _, h, r => by
    unfold Dp at h
    obtain ⟨a, xs, q, sq, t⟩ := h
    subst q
    cases (show _ = Value.ref a from r)
    obtain ⟨its, rv, pl, _⟩ := I.list sq
    obtain ⟨as, ra⟩ := Inv.readsAll I t rv
    obtain ⟨o, n, e1, e2, _, e3⟩ := pl
    exact ⟨_, .list e1 e2 e3 (by simpa using ra)⟩
  | .tuple ds, _, _, h, r => by
    unfold Dp at h
    obtain ⟨a, xs, q, sq, t⟩ := h
    subst q
    cases (show _ = Value.ref a from r)
    obtain ⟨its, rv, pl, _⟩ := I.tuple sq
    obtain ⟨as, ra⟩ := Inv.readsAll I t rv
    obtain ⟨o, e1, e2, n, e3⟩ := pl
    exact ⟨_, .tuple e1 e2 e3 (by simpa using ra)⟩
  | .dict _, _, _, h, _ => by unfold Dp at h; exact h.elim
theorem Inv.readsAll (I : Inv X pins σ H s) : ∀ {ds : List PyData} {vs : List V} {us : List Value}, DpAll X.K H ds vs -> Vals vs us -> ∃ as, ReadsAll s.heap us ds as
  | [], _, _, h, r => by unfold DpAll at h; subst h; cases r; exact ⟨_, .nil⟩
  | _ :: _, _, _, h, r => by
    unfold DpAll at h
    obtain ⟨v, q, e, a, t⟩ := h
    subst e
    cases r with
    | cons r1 r2 =>
      obtain ⟨as, h1⟩ := Inv.reads I a r1
      obtain ⟨bs, h2⟩ := Inv.readsAll I t r2
      exact ⟨_, .cons h1 h2⟩
end
def rEqD (K : W.Frag) : R2 := fun x y H Q => ∃ d e, Dp K H d x /\ Dp K H e y /\ d.canLay0 = true /\ e.canLay0 = true /\ d.depth <= 64 /\ Q (.bl (PyData.eqv d e)) H
def rNeD (K : W.Frag) : R2 := fun x y H Q => ∃ d e, Dp K H d x /\ Dp K H e y /\ d.canLay0 = true /\ e.canLay0 = true /\ d.depth <= 64 /\ Q (.bl (!PyData.eqv d e)) H
theorem op_eqD (hu : X.A.units + 64 < cLine) : OpR X (compareOp .Eq) (rEqD X.K) := by
  intro pins s σ H x y v u Q I rx ry h
  obtain ⟨d, e, h1, h2, c1, c2, dp, q⟩ := h
  obtain ⟨as, ra⟩ := I.reads h1 rx
  obtain ⟨bs, rb⟩ := I.reads h2 ry
  exact SeqAt.compareEq_reads ra rb c1 c2 (by omega) ⟨.bl _, H, I, rfl, q⟩
theorem ZES (hu : X.A.units + 64 < cLine) : OpR X (compareOp .NotEq) (rNeD X.K) := by
  intro pins s σ H x y v u Q I rx ry h
  obtain ⟨d, e, h1, h2, c1, c2, dp, q⟩ := h
  obtain ⟨as, ra⟩ := I.reads h1 rx
  obtain ⟨bs, rb⟩ := I.reads h2 ry
  exact SeqAt.compareNe_reads ra rb c1 c2 (by omega) ⟨.bl _, H, I, rfl, q⟩
end
section
variable {X : Cx} {x : Str} {pos : Pos}
end
structure Fn (P : Program) (w : World) (K : W.Frag) (mg : Str -> Option Value) (base : Heap) (CX : CXT) (x : Str) (k : Nat) (ps : List Str) (sp : Sp) : Prop where
  ex : ∃ f fd, FnOk P w K mg base CX k f fd ps sp /\ Binds K fd ps [] /\ W.keepIn K (.ref f) = true /\ mg x = some (.ref f)
structure Mt (P : Program) (w : World) (K : W.Frag) (mg : Str -> Option Value) (base : Heap) (CX : CXT) (C : Addr) (m : Str) (k : Nat) (ps : List Str) (sp : Sp) : Prop where
  cl : Cls K C
  ex : ∃ f fd, FnOk P w K mg base CX k f fd ps sp /\ Binds K fd ps [] /\ Meth K C m f
structure Kl (P : Program) (w : World) (K : W.Frag) (mg : Str -> Option Value) (base : Heap) (CX : CXT) (x : Str) (C : Addr) (k : Nat) (ps : List Str) (sp : Sp) : Prop where
  mgC : mg x = some (.ref C)
  ex : ∃ f fd, FnOk P w K mg base CX k f fd ps sp /\ Binds K fd ps [] /\ Mk K C f
section
variable {X : Cx} {CX : CXT} {k : Nat} {ps : List Str} {sp : Sp} {E : XK} {x m : Str} {C : Addr} {p pos apos : Pos} {e o : Expr} {es : List Expr} {ta : TE} {t : TA}
theorem ZAu (F : Fn X.prog X.w X.K X.mg X.base CX x k ps sp) (hr : Room k X.A) (hg : Gl X x) (hx : ZBw CX X E) (ha : PA X (e :: es) t) (hdb : (x == ("__debug__" : Str)) = false := by decide) (he : starEach (e :: es) X.env = (false, eval e X.env) :: starEach es X.env := by rfl) (hpl : (backTo pos (starEach es X.env)).any (·.1) = false := by rfl) :
    PE X (.Call (.Name x p) (e :: es) [] pos) (ZEd sp [] E t) := by
  obtain ⟨f, fd, h1, h2, h3, h4⟩ := F.ex
  exact pe_call h1 hr hg h4 h3 h2 .nil hx ha hdb he hpl
theorem ZDM {pl : Sem Bool} (F : Mt X.prog X.w X.K X.mg X.base CX C m k ps sp) (hr : Room k X.A) (hx : ZBw CX X E) (he : PE X o ta) (ha : PA X (e :: es) t)
    (hst : starEach (e :: es) X.env = (false, eval e X.env) :: starEach es X.env := by rfl) (hpl : (backTo pos (starEach es X.env)).any (·.1) = false := by rfl)
    (ht : eval (.Call (.Attribute o m apos) (e :: es) [] pos) X.env = (do
      let ov <- eval o X.env
      standAt apos.atName
      let (f, first) <- holding [ov] (getMethod ov m pl)
      callWith pos f first (backTo pos (starEach (e :: es) X.env)) (backToKw pos (keywordEach [] X.env))) := by rfl) :
    PE X (.Call (.Attribute o m apos) (e :: es) [] pos) (ZD9 C m sp [] E ta t) := by
  obtain ⟨f, fd, h1, h2, h3⟩ := F.ex
  exact pe_meth he F.cl h3 h1 hr h2 .nil hx ha hst hpl ht
theorem ZCE {pl : Sem Bool} (F : Mt X.prog X.w X.K X.mg X.base CX C m k ps sp) (hr : Room k X.A) (hx : ZBw CX X E) (he : PE X o ta)
    (ht : eval (.Call (.Attribute o m apos) [] [] pos) X.env = (do
      let ov <- eval o X.env
      standAt apos.atName
      let (f, first) <- holding [ov] (getMethod ov m pl)
      callWith pos f first (backTo pos (starEach [] X.env)) (backToKw pos (keywordEach [] X.env))) := by rfl) :
    PE X (.Call (.Attribute o m apos) [] [] pos) (ZD9 C m sp [] E ta tNil) := by
  obtain ⟨f, fd, h1, h2, h3⟩ := F.ex
  exact pe_meth0 he F.cl h3 h1 hr h2 .nil hx ht
theorem ZEz (F : Kl X.prog X.w X.K X.mg X.base CX x C k ps sp) (hr : Room (k + 1) X.A) (hg : Gl X x) (hx : ZBw CX X E) (ha : PA X (e :: es) t) (hdb : (x == ("__debug__" : Str)) = false := by decide) (he : starEach (e :: es) X.env = (false, eval e X.env) :: starEach es X.env := by rfl) (hpl : (backTo pos (starEach es X.env)).any (·.1) = false := by rfl) :
    PE X (.Call (.Name x p) (e :: es) [] pos) (ZEF C sp [] E t) := by
  obtain ⟨f, fd, h1, h2, h3⟩ := F.ex
  exact pe_make h3 h1 hr hg F.mgC h2 .nil hx ha hdb he hpl
end
section
variable {X : Cx}
end
theorem ZAg {v : V} {σ : St} {H : Hp} {Q : VK} : tVar 0 (some v :: σ) H Q = Q v H := by
  apply propext; unfold tVar; simp
theorem ZAj {i : Nat} {a : Option V} {σ : St} {H : Hp} {Q : VK} : tVar (i + 1) (a :: σ) H Q = tVar i σ H Q := by
  apply propext; unfold tVar; simp
theorem rI0_int {g : Int -> Int -> V} {i j : Int} {H : Hp} {Q : VK} : rI0 g (.int i) (.int j) H Q = Q (g i j) H := by
  apply propext; unfold rI0; simp
theorem rI_int {C : Int -> Int -> Prop} {g : Int -> Int -> V} {i j : Int} {H : Hp} {Q : VK} : rI C g (.int i) (.int j) H Q = (C i j /\ Q (g i j) H) := by
  apply propext; unfold rI; simp
theorem rU_int {g : Int -> V} {i : Int} {H : Hp} {Q : VK} : rU g (.int i) H Q = Q (g i) H := by
  apply propext; unfold rU; simp
theorem rEq_int {i j : Int} {H : Hp} {Q : VK} : rEq (.int i) (.int j) H Q = Q (.bl (decide (i = j))) H := by
  apply propext; unfold rEq; simp [scal]
theorem rNe_int {i j : Int} {H : Hp} {Q : VK} : rNe (.int i) (.int j) H Q = Q (.bl (!decide (i = j))) H := by
  apply propext; unfold rNe; simp [scal]
theorem rEq_bl {i j : Bool} {H : Hp} {Q : VK} : rEq (.bl i) (.bl j) H Q = Q (.bl (decide (i = j))) H := by
  apply propext; unfold rEq; simp [scal]
theorem rNe_bl {i j : Bool} {H : Hp} {Q : VK} : rNe (.bl i) (.bl j) H Q = Q (.bl (!decide (i = j))) H := by
  apply propext; unfold rNe; simp [scal]
theorem rEq_str {i j : Str} {H : Hp} {Q : VK} : rEq (.str i) (.str j) H Q = Q (.bl (decide (i = j))) H := by
  apply propext; unfold rEq; simp [scal]
theorem rNe_str {i j : Str} {H : Hp} {Q : VK} : rNe (.str i) (.str j) H Q = Q (.bl (!decide (i = j))) H := by
  apply propext; unfold rNe; simp [scal]
theorem ex_bl {c : Bool} {Q : Bool -> Prop} : (∃ k, V.bl c = V.bl k /\ Q k) = Q c := by
  apply propext; simp
theorem ex_int {c : Int} {Q : Int -> Prop} : (∃ k, V.int c = V.int k /\ Q k) = Q c := by
  apply propext; simp
theorem ZAV {n : Nat} (h : n <= 1000) : n <= sizeLine := yBW (ZAw h)
theorem ZAO {H : Hp} {p : Addr} (h : H p = none) (o : HO) : Same H (upd H p o) := fun b u q => by rw [ZAI (ZAE q h)]; exact q
def getF (K : W.Frag) (f : Str) (x : V) (H : Hp) (Q : VK) : Prop := ∃ a C dx fs v, x = .ref a /\ H a = some (.ins C dx fs) /\ Cls K C /\ NoAttr K C f /\ fs.lookup f = some v /\ Q v H
theorem tFld_eq {K : W.Frag} {ta : TE} {f : Str} {σ : St} {H : Hp} {Q : VK} : tFld K ta f σ H Q = ta σ H (fun x H1 => getF K f x H1 Q) := rfl
theorem getF_of {K : W.Frag} {f : Str} {a C dx : Addr} {fs : List (Str × V)} {v : V} {H : Hp} {Q : VK} (h : H a = some (.ins C dx fs)) (cl : Cls K C) (n : NoAttr K C f) (l : fs.lookup f = some v) (q : Q v H) : getF K f (.ref a) H Q := ⟨a, C, dx, fs, v, rfl, h, cl, n, l, q⟩
def setF (K : W.Frag) (f : Str) (x y : V) (H : Hp) (Q : Hp -> Prop) : Prop := ∃ a C dx fs, x = .ref a /\ H a = some (.ins C dx fs) /\ Cls K C /\ NoAttr K C f /\ fs.length < 1000 /\ Q (upd H a (.ins C dx (putF f y fs)))
theorem sFld_eq {K : W.Frag} {ta tv : TE} {f : Str} {D : Ends} {σ : St} {H : Hp} : sFld K ta tv f D σ H = tv σ H (fun y H1 => ta σ H1 fun x H2 => setF K f x y H2 (D.nx σ)) := rfl
theorem setF_of {K : W.Frag} {f : Str} {a C dx : Addr} {fs : List (Str × V)} {y : V} {H : Hp} {Q : Hp -> Prop} (h : H a = some (.ins C dx fs)) (cl : Cls K C) (n : NoAttr K C f) (l : fs.length < 1000) (q : Q (upd H a (.ins C dx (putF f y fs)))) : setF K f (.ref a) y H Q := ⟨a, C, dx, fs, rfl, h, cl, n, l, q⟩
theorem ZAz {K : W.Frag} {p : Addr} {xs : List V} {i : Int} {v : V} {H : Hp} {Q : VK} (h : SqL K H p xs) (e : atI xs i = some v) (q : Q v H) : rIxL K (.ref p) (.int i) H Q := ⟨p, xs, i, v, rfl, rfl, h, e, q⟩
theorem ZBK {K : W.Frag} {p : Addr} {xs : List V} {i : Int} {v : V} {H : Hp} {Q : VK} (h : SqT K H p xs) (e : atI xs i = some v) (q : Q v H) : rIxT K (.ref p) (.int i) H Q := ⟨p, xs, i, v, rfl, rfl, h, e, q⟩
theorem ZAb {α : Type} {xs : List α} {i : Int} {v : α} (h0 : 0 <= i) (h : xs[i.toNat]? = some v) : atI xs i = some v := by
  have q := atI_nat h
  rwa [Int.toNat_of_nonneg h0] at q
theorem ZCm {xs : List Int} {i : Int} {v : Int} (h0 : 0 <= i) (h : xs[i.toNat]? = some v) : atI (xs.map V.int) i = some (.int v) := ZAb h0 (by rw [yAG, h]; rfl)
def Nxt (P : Nat -> List V -> St -> Hp -> Prop) (n i : Nat) (ys : List V) (σ : St) (H : Hp) : Prop := ∃ m', m' < n - i /\ m' = n - (i + 1) /\ i + 1 <= n /\ P (i + 1) ys σ H
theorem Nxt.of {P : Nat -> List V -> St -> Hp -> Prop} {n i : Nat} {ys : List V} {σ : St} {H : Hp} (h : i < n) (p : P (i + 1) ys σ H) : Nxt P n i ys σ H := ⟨n - (i + 1), by omega, rfl, h, p⟩
theorem comp_list {K : W.Frag} {a : Addr} {xs : List V} {g : TG} {tt : TT} {te : TE} {Q : VK} {σ0 : St} {H : Hp} (P : Nat -> List V -> St -> Hp -> Prop) (h0 : P 0 [] σ0 H) (hl : ∀ i ys σ H, i <= xs.length -> P i ys σ H -> SqL K H a xs /\ ys.length <= i) (hz : xs.length <= sizeLine)
    (hs : ∀ i ys x σ H, i < xs.length -> xs[i]? = some x -> P i ys σ H -> g x σ H fun σ2 H2 => tt σ2 H2 fun b H3 => if b = true then te σ2 H3 fun y H4 => Nxt P xs.length i (ys ++ [y]) σ2 H4 else Nxt P xs.length i ys σ2 H3)
    (hd : ∀ ys σ H, P xs.length ys σ H -> ∀ p, H p = none -> Q (.ref p) (upd H p (.lst ys))) :
    ∃ W : Nat -> Nat -> List V -> St -> Hp -> Prop, (∃ m, W 0 m [] σ0 H) /\ ∀ i m ys σ H, W i m ys σ H ->
      ((Itl K a).stop i H /\ ys.length <= sizeLine /\ ∀ p, H p = none -> Q (.ref p) (upd H p (.lst ys))) ∨
      ((Itl K a).go i H /\ ys.length < sizeLine /\ ∀ x H', (Itl K a).yld i H x H' -> g x σ H' fun σ2 H2 => tt σ2 H2 fun b H3 => if b = true then te σ2 H3 fun y H4 => ∃ m', m' < m /\ W (i + 1) m' (ys ++ [y]) σ2 H4 else ∃ m', m' < m /\ W (i + 1) m' ys σ2 H3) := by
  refine ⟨fun i m ys σ H => m = xs.length - i /\ i <= xs.length /\ P i ys σ H, ⟨xs.length, by simp, yAF _, h0⟩, ?_⟩
  rintro i m ys σ H ⟨rfl, hi, p⟩
  obtain ⟨q, ly⟩ := hl i ys σ H hi p
  by_cases hlt : i < xs.length
  . refine .inr ⟨⟨xs, xs[i], q, by simp [hlt]⟩, by omega, fun x H' y => ?_⟩
    obtain ⟨e, y⟩ := y
    subst e
    exact hs i ys x σ _ hlt (y xs q) p
  . have e : i = xs.length := by omega
    subst e
    exact .inl ⟨⟨xs, q, yAB _⟩, by omega, hd ys σ H p⟩
theorem comp_range {lo : Int} {n : Nat} {g : TG} {tt : TT} {te : TE} {Q : VK} {σ0 : St} {H : Hp} (P : Nat -> List V -> St -> Hp -> Prop) (h0 : P 0 [] σ0 H) (hl : ∀ i ys σ H, P i ys σ H -> ys.length <= i) (hz : n <= sizeLine)
    (hs : ∀ i ys σ H, i < n -> P i ys σ H -> g (.int (lo + i)) σ H fun σ2 H2 => tt σ2 H2 fun b H3 => if b = true then te σ2 H3 fun y H4 => Nxt P n i (ys ++ [y]) σ2 H4 else Nxt P n i ys σ2 H3)
    (hd : ∀ ys σ H, P n ys σ H -> ∀ p, H p = none -> Q (.ref p) (upd H p (.lst ys))) :
    ∃ W : Nat -> Nat -> List V -> St -> Hp -> Prop, (∃ m, W 0 m [] σ0 H) /\ ∀ i m ys σ H, W i m ys σ H ->
      ((Itr lo n).stop i H /\ ys.length <= sizeLine /\ ∀ p, H p = none -> Q (.ref p) (upd H p (.lst ys))) ∨
      ((Itr lo n).go i H /\ ys.length < sizeLine /\ ∀ x H', (Itr lo n).yld i H x H' -> g x σ H' fun σ2 H2 => tt σ2 H2 fun b H3 => if b = true then te σ2 H3 fun y H4 => ∃ m', m' < m /\ W (i + 1) m' (ys ++ [y]) σ2 H4 else ∃ m', m' < m /\ W (i + 1) m' ys σ2 H3) := by
  refine ⟨fun i m ys σ H => m = n - i /\ i <= n /\ P i ys σ H, ⟨n, by simp, yAF _, h0⟩, ?_⟩
  rintro i m ys σ H ⟨rfl, hi, p⟩
  have ly := hl i ys σ H p
  by_cases hlt : i < n
  . refine .inr ⟨hlt, by omega, fun x H' y => ?_⟩
    obtain ⟨e, y⟩ := y
    subst e y
    exact hs i ys σ _ hlt p
  . have e : i = n := by omega
    subst e
    exact .inl ⟨yAB _, by omega, hd ys σ H p⟩
theorem Same.upd {H H' : Hp} {p : Addr} {o : HO} (e : Same H H') (h : H p = none) : Same H (upd H' p o) := fun b u q => by rw [ZAI (ZAE q h)]; exact e b u q
theorem Same.new {H H' : Hp} {p : Addr} {o : HO} (e : Same H H') (h : H' p = none) : Same H (L2.upd H' p o) := e.upd (e.free h)
theorem ZCy (ns : List Int) (lo hi : Option Int) : cutV (ns.map V.int) lo hi = (((ns.drop (HT.sIx ns.length 0 lo)).take (HT.sIx ns.length ns.length hi - HT.sIx ns.length 0 lo)).map V.int) := by
  unfold cutV
  rw [yAA, List.map_take, List.map_drop]
theorem ZB9 {ns : List Int} {i : Nat} {x : V} (h : (ns.map V.int)[i]? = some x) : ∃ n, ns[i]? = some n /\ x = .int n := by
  rw [yAG] at h
  cases e : ns[i]? with
  | none => rw [e] at h; cases h
  | some n => rw [e] at h; exact ⟨n, rfl, (Option.some.inj h).symm⟩
theorem ixN_of {n : Nat} {i : Int} (h0 : 0 <= i) (h : i < n) : ixN n i = some i.toNat := by unfold ixN; rw [if_pos h0, if_pos h]
theorem ZD0 {K : W.Frag} {a : Addr} {xs : List V} {lo hi : Option Int} {H : Hp} {Q : VK} (h : SqL K H a xs) (q : ∀ p, H p = none -> Q (.ref p) (upd H p (.lst (cutV xs lo hi)))) : rSlL K (.ref a) lo hi H Q := ⟨a, xs, rfl, h, q⟩
def forL (K : W.Frag) (g : TG) (tb : TS) (D : Ends) (σ : St) (x : V) (H1 : Hp) : Prop := ∃ a, x = .ref a /\ (∃ xs, SqL K H1 a xs) /\ ∃ W : Nat -> Nat -> St -> Hp -> Prop, (∃ m, W 0 m σ H1) /\ ∀ i m σ H, W i m σ H ->
  ((Itl K a).stop i H /\ D.nx σ H) ∨ ((Itl K a).go i H /\ ∃ N : St -> Hp -> Prop, (∀ σ' H', N σ' H' -> ∃ m', m' < m /\ W (i + 1) m' σ' H') /\ ∀ x H', (Itl K a).yld i H x H' -> g x σ H' fun σ2 H2 => tb { D with nx := N, ct := N, bk := D.nx } σ2 H2)
theorem tForL_eq {K : W.Frag} {tl : TE} {g : TG} {tb : TS} {D : Ends} {σ : St} {H : Hp} : tFor (ZE5 K tl) g tb D σ H = tl σ H (fun x H1 => forL K g tb D σ x H1) := rfl
theorem ZCZ {K : W.Frag} {g : TG} {tb : TS} {D : Ends} {σ : St} {H : Hp} {a : Addr} {xs : List V} (h : SqL K H a xs) (Pv : Nat -> St -> Hp -> Prop) (h0 : Pv 0 σ H) (hl : ∀ i σ H, i <= xs.length -> Pv i σ H -> SqL K H a xs)
    (hs : ∀ i x σ H, xs[i]? = some x -> Pv i σ H -> g x σ H fun σ2 H2 => tb { D with nx := Pv (i + 1), ct := Pv (i + 1), bk := D.nx } σ2 H2) (hd : ∀ σ H, Pv xs.length σ H -> D.nx σ H) : forL K g tb D σ (.ref a) H :=
  ⟨a, rfl, ⟨xs, h⟩, for_list Pv h0 hl hs hd⟩
def forR (lo : Int) (g : TG) (tb : TS) (D : Ends) (σ : St) (n : Nat) (H1 : Hp) : Prop := ∃ W : Nat -> Nat -> St -> Hp -> Prop, (∃ m, W 0 m σ H1) /\ ∀ i m σ H, W i m σ H ->
  ((Itr lo n).stop i H /\ D.nx σ H) ∨ ((Itr lo n).go i H /\ ∃ N : St -> Hp -> Prop, (∀ σ' H', N σ' H' -> ∃ m', m' < m /\ W (i + 1) m' σ' H') /\ ∀ x H', (Itr lo n).yld i H x H' -> g x σ H' fun σ2 H2 => tb { D with nx := N, ct := N, bk := D.nx } σ2 H2)
def forR1 (g : TG) (tb : TS) (D : Ends) (σ : St) (x : V) (H1 : Hp) : Prop := ∃ j : Int, [x] = [.int j] /\ -(2 ^ 62) <= j /\ j < 2 ^ 62 /\ forR 0 g tb D σ j.toNat H1
def forR2 (g : TG) (tb : TS) (D : Ends) (σ : St) (x y : V) (H1 : Hp) : Prop := ∃ i j : Int, [x, y] = [.int i, .int j] /\ (-(2 ^ 62) <= i /\ i < 2 ^ 62 /\ -(2 ^ 62) <= j /\ j < 2 ^ 62) /\ forR i g tb D σ (j - i).toNat H1
theorem tForR1_eq {t : TE} {g : TG} {tb : TS} {D : Ends} {σ : St} {H : Hp} : tFor (ZE4 (ZCT t tNil)) g tb D σ H = t σ H (fun x H1 => forR1 g tb D σ x H1) := rfl
theorem tForR2_eq {t u : TE} {g : TG} {tb : TS} {D : Ends} {σ : St} {H : Hp} : tFor (iRng2 (ZCT t (ZCT u tNil))) g tb D σ H = t σ H (fun x H1 => u σ H1 fun y H2 => forR2 g tb D σ x y H2) := rfl
theorem ZDR {lo : Int} {n : Nat} {g : TG} {tb : TS} {D : Ends} {σ : St} {H : Hp} (Pv : Nat -> St -> Hp -> Prop) (h0 : Pv 0 σ H)
    (hs : ∀ i σ H, i < n -> Pv i σ H -> g (.int (lo + i)) σ H fun σ2 H2 => tb { D with nx := Pv (i + 1), ct := Pv (i + 1), bk := D.nx } σ2 H2) (hd : ∀ σ H, Pv n σ H -> D.nx σ H) : forR lo g tb D σ n H := for_range Pv h0 hs hd
theorem ZCi {j : Int} {g : TG} {tb : TS} {D : Ends} {σ : St} {H : Hp} (h : -1000 <= j /\ j <= 1000) (q : forR 0 g tb D σ j.toNat H) : forR1 g tb D σ (.int j) H := ⟨j, rfl, by omega, by omega, q⟩
def ZEk (K : W.Frag) (g : TG) (tt : TT) (te : TE) (σ0 : St) (Q : VK) (x : V) (H1 : Hp) : Prop := ∃ a, x = .ref a /\ (∃ xs, SqL K H1 a xs) /\ ∃ W : Nat -> Nat -> List V -> St -> Hp -> Prop, (∃ m, W 0 m [] σ0 H1) /\ ∀ i m ys σ H, W i m ys σ H ->
  ((Itl K a).stop i H /\ ys.length <= sizeLine /\ ∀ p, H p = none -> Q (.ref p) (upd H p (.lst ys))) ∨
  ((Itl K a).go i H /\ ys.length < sizeLine /\ ∀ x H', (Itl K a).yld i H x H' -> g x σ H' fun σ2 H2 => tt σ2 H2 fun b H3 => if b = true then te σ2 H3 fun y H4 => ∃ m', m' < m /\ W (i + 1) m' (ys ++ [y]) σ2 H4 else ∃ m', m' < m /\ W (i + 1) m' ys σ2 H3)
theorem tCompL_eq {k : Nat} {js : List Nat} {K : W.Frag} {tl : TE} {g : TG} {tt : TT} {te : TE} {σ : St} {H : Hp} {Q : VK} : ZDi k js (ZE5 K tl) g tt te σ H Q = tl σ H (fun x H1 => ZEk K g tt te (up k js σ) Q x H1) := rfl
theorem ZA5 {K : W.Frag} {a : Addr} {xs : List V} {g : TG} {tt : TT} {te : TE} {Q : VK} {σ0 : St} {H : Hp} (h : SqL K H a xs) (hz : xs.length <= 1000) (P : Nat -> List V -> St -> Hp -> Prop) (h0 : P 0 [] σ0 H) (hl : ∀ i ys σ H, i <= xs.length -> P i ys σ H -> SqL K H a xs /\ ys.length <= i)
    (hs : ∀ i ys x σ H, i < xs.length -> xs[i]? = some x -> P i ys σ H -> g x σ H fun σ2 H2 => tt σ2 H2 fun b H3 => if b = true then te σ2 H3 fun y H4 => Nxt P xs.length i (ys ++ [y]) σ2 H4 else Nxt P xs.length i ys σ2 H3)
    (hd : ∀ ys σ H, P xs.length ys σ H -> ∀ p, H p = none -> Q (.ref p) (upd H p (.lst ys))) : ZEk K g tt te σ0 Q (.ref a) H := ⟨a, rfl, ⟨xs, h⟩, comp_list P h0 hl (ZAV hz) hs hd⟩
def compR (lo : Int) (g : TG) (tt : TT) (te : TE) (σ0 : St) (Q : VK) (n : Nat) (H1 : Hp) : Prop := ∃ W : Nat -> Nat -> List V -> St -> Hp -> Prop, (∃ m, W 0 m [] σ0 H1) /\ ∀ i m ys σ H, W i m ys σ H ->
  ((Itr lo n).stop i H /\ ys.length <= sizeLine /\ ∀ p, H p = none -> Q (.ref p) (upd H p (.lst ys))) ∨
  ((Itr lo n).go i H /\ ys.length < sizeLine /\ ∀ x H', (Itr lo n).yld i H x H' -> g x σ H' fun σ2 H2 => tt σ2 H2 fun b H3 => if b = true then te σ2 H3 fun y H4 => ∃ m', m' < m /\ W (i + 1) m' (ys ++ [y]) σ2 H4 else ∃ m', m' < m /\ W (i + 1) m' ys σ2 H3)
def compR1 (g : TG) (tt : TT) (te : TE) (σ0 : St) (Q : VK) (x : V) (H1 : Hp) : Prop := ∃ j : Int, [x] = [.int j] /\ -(2 ^ 62) <= j /\ j < 2 ^ 62 /\ compR 0 g tt te σ0 Q j.toNat H1
theorem tCompR1_eq {k : Nat} {js : List Nat} {t : TE} {g : TG} {tt : TT} {te : TE} {σ : St} {H : Hp} {Q : VK} : ZDi k js (ZE4 (ZCT t tNil)) g tt te σ H Q = t σ H (fun x H1 => compR1 g tt te (up k js σ) Q x H1) := rfl
theorem ZCz {j : Int} {g : TG} {tt : TT} {te : TE} {Q : VK} {σ0 : St} {H : Hp} (h : -1000 <= j /\ j <= 1000) (P : Nat -> List V -> St -> Hp -> Prop) (h0 : P 0 [] σ0 H) (hl : ∀ i ys σ H, P i ys σ H -> ys.length <= i)
    (hs : ∀ i ys σ H, i < j.toNat -> P i ys σ H -> g (.int (0 + i)) σ H fun σ2 H2 => tt σ2 H2 fun b H3 => if b = true then te σ2 H3 fun y H4 => Nxt P j.toNat i (ys ++ [y]) σ2 H4 else Nxt P j.toNat i ys σ2 H3)
    (hd : ∀ ys σ H, P j.toNat ys σ H -> ∀ p, H p = none -> Q (.ref p) (upd H p (.lst ys))) : compR1 g tt te σ0 Q (.int j) H := ⟨j, rfl, by omega, by omega, comp_range P h0 hl (ZAV (by omega)) hs hd⟩
section
variable {X : Cx}
end
theorem gCons_eq {t : TG} {u : TGs} {v : V} {r : List V} {σ : St} {H : Hp} {Q : St -> Hp -> Prop} : ZE7 t u (v :: r) σ H Q = t v σ H (fun σ' H' => u r σ' H' Q) := by
  apply propext; unfold ZE7; constructor
  . rintro ⟨v', r', e, q⟩; cases e; exact q
  . exact fun q => ⟨v, r, rfl, q⟩
theorem gNil_eq {σ : St} {H : Hp} {Q : St -> Hp -> Prop} : gNil [] σ H Q = Q σ H := by
  apply propext; unfold gNil; simp
theorem ZDu {K : W.Frag} {n : Nat} {t : TGs} {a : Addr} {xs : List V} {σ : St} {H : Hp} {Q : St -> Hp -> Prop} (h : SqT K H a xs) (l : xs.length = n) (q : t xs σ H Q) : gTup K n t (.ref a) σ H Q := ⟨a, xs, rfl, h, l, q⟩
section
variable {X : Cx} {tg l e o : Expr} {es : List Expr} {tl te to : TE} {t : TA} {pos apos cpos : Pos} {f : Str}
theorem ix_listK (K : W.Frag) (h : X.K = K := by rfl) : IxR X (rIxL K) := h ▸ ZAi
theorem ZCx (K : W.Frag) (h : X.K = K := by rfl) : IxR X (rIxT K) := h ▸ ZB0
theorem call_len_seqK (K : W.Frag) (h : X.K = K := by rfl) : ZCb X (.builtin "len") (fun xs H Q => ∃ p ys, xs = [.ref p] /\ (SqL K H p ys ∨ SqT K H p ys) /\ Q (.int ys.length) H) := h ▸ ZAJ
theorem ZBu (K : W.Frag) (h : X.K = K := by rfl) : ZCb X (.type "list") (fun xs H Q => ∃ p ys, xs = [.ref p] /\ (SqL K H p ys ∨ SqT K H p ys) /\ ∀ l, H l = none -> Q (.ref l) (upd H l (.lst ys))) := h ▸ call_list_of
theorem pg_tupK (K : W.Frag) {k : Nat} {tgs : TGs} {n : Nat} (hc : X.calm = true) (hg : PGs X es tgs)
    (hn : (assignEach es X.env).length = n := by rfl) (hst : (assignEach es X.env).findIdx? (·.1) = none := by rfl) (h : X.K = K := by rfl) : PG X (.Tuple es k pos) (gTup K n tgs) := h ▸ ZER hc hg hn hst
end
section
variable {X : Cx}
theorem tAug_eq {i : Nat} {te : TE} {ti : TIp} {D : Ends} {σ : St} {H : Hp} : tAug i te ti D σ H = tVar i σ H (fun x H0 => te σ H0 fun y H1 => ti x y H1 fun z H2 => D.nx (σ.set i (some z)) H2) := rfl
theorem ipI_int {f : Int -> Int -> Int} {i j : Int} {H : Hp} {Q : VK} : ipI f (.int i) (.int j) H Q = Q (.int (f i j)) H := by
  refine propext ⟨?_, fun q => ⟨i, j, rfl, rfl, q⟩⟩
  rintro ⟨a, b, e1, e2, q⟩
  cases e1; cases e2; exact q
theorem cx_K {CX : CXT} {P : Program} {w : World} {K : W.Frag} {mg : Str -> Option Value} {base : Heap} {N : List Str} {qual : Str} {scope : Scope} {f : Addr} {cd : Value} {A : Around} {outer : List Env} {s : Shared} {H : Hp} {E : XK} : (cxOf CX P w K mg base N qual scope f cd A outer s H E).K = K := rfl
def insV (xs : List V) (i : Int) (y : V) : List V := let k := if i < 0 then (i + (xs.length : Int)).toNat else min i.toNat xs.length; xs.take k ++ y :: xs.drop k
def rInsert : V -> List V -> Hp -> VK -> Prop := fun x vs H Q => ∃ l xs i y, x = .ref l /\ vs = [.int i, y] /\ H l = some (.lst xs) /\ xs.length < sizeLine /\ (-(2 ^ 62) <= i /\ i < 2 ^ 62) /\ Q .non (upd H l (.lst (insV xs i y)))
theorem ins_arr (its : List Value) (k : Nat) (u : Value) (hk : k <= its.length) : (its.toArray.extract 0 k).push u ++ its.toArray.extract k = (its.take k ++ u :: its.drop k).toArray := by
  apply Array.ext'
  simp
  exact yBI (by rw [yBH]; exact yAB _)
theorem insV_length (xs : List V) (i : Int) (y : V) : (insV xs i y).length = xs.length + 1 := by
  unfold insV
  dsimp only
  rw [yAD, yAR, yAT, yBH]
  omega
theorem Vals.ins {xs : List V} {us : List Value} {y : V} {u : Value} (r : Vals xs us) (q : RelV y u) (k : Nat) : Vals (xs.take k ++ y :: xs.drop k) (us.take k ++ u :: us.drop k) := (r.take k).append (.cons q (r.drop k))
theorem mt_insert : MtM X "list.insert" rInsert := by
  intro pins s σ H x vs v us Q I rx rv h
  obtain ⟨l, xs, i, y, rfl, rfl, hH, hz, hi, q⟩ := h
  cases rx
  obtain ⟨u, u2, rfl, ru, ru2⟩ := rv.two
  obtain ⟨t, rfl⟩ := ru
  obtain ⟨z, its, n, r, hl, e⟩ := I.lstM hH
  have hc0 : ¬(!Builtin.List.listFitsIndex i) = true := by
    unfold Builtin.List.listFitsIndex
    have : (decide (-(2 ^ 63 : Int) <= i) && decide (i < 2 ^ 63)) = true := by
      rw [yBQ]; exact ⟨decide_eq_true (by omega), decide_eq_true (by omega)⟩
    simpa using this
  refine call_meets F.slot_list_insert ⟨_, e, rfl⟩ F.entry_list_insert (F.args_list_insert_3 _ _ _) (PySem.AutoListH.list_insert_list_int_val_1 l its.toArray n i t u2 hc0 (by rw [yAO]; omega)) ⟨e, ?_⟩
  have hk : (if i < 0 then (i + (its.length : Int)).toNat else min i.toNat its.length) <= its.length := by split <;> omega
  refine ⟨.non, _, I.lset (its' := its.take (if i < 0 then (i + (its.length : Int)).toNat else min i.toNat its.length) ++ u2 :: its.drop (if i < 0 then (i + (its.length : Int)).toNat else min i.toNat its.length)) hH e ?_ (ys := insV xs i y) ?_ ?_, rfl, q⟩
  . show (its.toArray.extract 0 _).push u2 ++ its.toArray.extract _ = _
    rw [yAO]
    exact ins_arr its _ u2 hk
  . unfold insV
    rw [hl]
    exact r.ins ru2 _
  . rw [insV_length]; omega
end
structure Enc {α : Type} [DecidableEq α] (e : α -> PyData) (n : Nat) : Prop where
  eq : ∀ a b, PyData.eqv (e a) (e b) = decide (a = b)
  lay : ∀ a, (e a).canLay0 = true
  dep : ∀ a, (e a).depth <= n
theorem Enc.int : Enc PyData.int 0 := ⟨fun a b => by unfold PyData.eqv; rw [Bool.eq_iff_iff]; simp, fun a => by unfold PyData.canLay0; rfl, fun a => by unfold PyData.depth; exact yAB _⟩
section
variable {α β γ : Type} [DecidableEq α] [DecidableEq β] [DecidableEq γ] {e : α -> PyData} {f : β -> PyData} {g : γ -> PyData} {n m k : Nat}
theorem Enc.all (h : Enc e n) : ∀ xs ys : List α, PyData.eqvAll (xs.map e) (ys.map e) = decide (xs = ys)
  | [], [] => by simp [PyData.eqvAll]
  | x :: xs, [] => by simp [PyData.eqvAll]
  | [], y :: ys => by simp [PyData.eqvAll]
  | x :: xs, y :: ys => by
    rw [yAP, yAP]
    unfold PyData.eqvAll
    rw [h.eq, h.all xs ys, <- Bool.decide_and]
    exact decide_eq_decide.mpr (by rw [List.cons.injEq])
theorem Enc.layAll (h : Enc e n) : ∀ xs : List α, PyData.canLayAll0 (xs.map e) = true
  | [] => by simp [PyData.canLayAll0]
  | x :: xs => by rw [yAP]; unfold PyData.canLayAll0; rw [h.lay, h.layAll xs]; rfl
theorem Enc.depAll (h : Enc e n) : ∀ xs : List α, PyData.depthAll (xs.map e) <= n
  | [] => by simp [PyData.depthAll]
  | x :: xs => by
    rw [yAP]; unfold PyData.depthAll
    have a := h.dep x
    have b := h.depAll xs
    omega
theorem Enc.list (h : Enc e n) : Enc (fun xs : List α => PyData.list (xs.map e)) (n + 1) :=
  ⟨fun a b => by unfold PyData.eqv; exact h.all a b, fun a => by unfold PyData.canLay0; exact h.layAll a, fun a => by unfold PyData.depth; have := h.depAll a; omega⟩
theorem eqD_of {K : W.Frag} {H : Hp} {x y : V} {a b : α} {Q : VK} (h : Enc e n) (hn : n <= 64) (dx : Dp K H (e a) x) (dy : Dp K H (e b) y) (q : Q (.bl (decide (a = b))) H) : rEqD K x y H Q :=
  ⟨_, _, dx, dy, h.lay a, h.lay b, yAE (h.dep a) hn, by rw [h.eq]; exact q⟩
theorem neD_of {K : W.Frag} {H : Hp} {x y : V} {a b : α} {Q : VK} (h : Enc e n) (hn : n <= 64) (dx : Dp K H (e a) x) (dy : Dp K H (e b) y) (q : Q (.bl (!decide (a = b))) H) : rNeD K x y H Q :=
  ⟨_, _, dx, dy, h.lay a, h.lay b, yAE (h.dep a) hn, by rw [h.eq]; exact q⟩
end
theorem ZCa {K : W.Frag} {H : Hp} {a : Addr} {xs : List Int} (h : SqL K H a (xs.map V.int)) : Dp K H (.list (xs.map PyData.int)) (.ref a) := dp_lst h (DpAll.ints xs)
section
variable {K : W.Frag} {H : Hp} {R : Bool -> Prop}
end
structure FunD (K : W.Frag) (x qual : Str) (st : Stmt) (f : Addr) (fd : FuncData) (dv : List Value) : Prop where
  ex : ∃ (oc : Value) (od : Option Addr) (T : Addr) (kV doc pm : Value) (an : Option Addr) (cdv ct : Value) (osl : Array (Option Value)),
    fd = W.fnOf x qual (ZAQ st) (ZAL st) (ZAC st) (.ref T) kV doc pm an cdv ct /\ K.lookup f = some ⟨oc, od, .func fd, osl⟩ /\ W.codeIn K cdv qual = true /\ ∃ o n, K.lookup T = some o /\ o.data = .seq dv.toArray n
  kp : W.keepIn K (.ref f) = true
section
variable {P : Program} {w : World} {K : W.Frag} {mg : Str -> Option Value} {base : Heap}
theorem FunD.ok {x qual : Str} {st : Stmt} {f : Addr} {fd : FuncData} {dv : List Value} {N ps : List Str} {k : Nat} {sp : Sp} (F : FunD K x qual st f fd dv) (S : FnScope N ps (ZAC st)) (len : ∀ vs H Q E, sp vs H Q E -> vs.length = ps.length)
    (hbody : ∀ (cdv : Value) (A : Around) (outer : List Env) (s : Shared) (H : Hp) (vs : List V) (Q : VK) (E : XK), Room k (A.deeper (envOfC qual (ZAC st) s.heap.objs.size f cdv)) -> sp vs H Q E ->
      ∃ t, PSs (cxOf CX0 P w K mg base N qual (ZAC st) f cdv A outer s H E).nox (ZAL st) t /\ t { nx := fun _ H' => Q .non H', rt := Q } (start N vs) H) : FnOk P w K mg base CX0 (k + 1) f fd ps sp := by
  obtain ⟨oc, od, T, kV, doc, pm, an, cdv, ct, osl, rfl, lk, hcd, _⟩ := F.ex
  refine fn_of lk hcd S len fun A outer s H vs Q E hr hsp => ?_
  obtain ⟨t, h, q⟩ := hbody cdv A outer s H vs Q E hr hsp
  exact ⟨t, h.nox, q⟩
theorem FunD.binds {x qual : Str} {st : Stmt} {f : Addr} {fd : FuncData} {dv ds : List Value} {ps : List Str} (F : FunD K x qual st f fd dv)
    (h : ∀ (T : Addr) (kV doc pm : Value) (an : Option Addr) (cdv ct : Value) (us : List Value), (us ++ ds).length = ps.length -> ∃ k, bindArgs (W.fnOf x qual (ZAQ st) (ZAL st) (ZAC st) (.ref T) kV doc pm an cdv ct) ⟨us, []⟩ = seqItems? (.ref T) >>= k /\ k (some dv.toArray) = pure (ps.zip (us ++ ds))) : Binds K fd ps ds := by
  obtain ⟨oc, od, T, kV, doc, pm, an, cdv, ct, osl, rfl, lk, hcd, o, n, hT, ho⟩ := F.ex
  intro s us KX hl
  obtain ⟨k, h1, h2⟩ := h T kV doc pm an cdv ct us hl
  exact PySem.W.binds_K KX rfl hT ho h1 h2
theorem funD_mk {x qual : Str} {st : Stmt} {f T : Addr} {oc : Value} {od an : Option Addr} {osl : Array (Option Value)} {kV doc pm cdv ct : Value} {dv : List Value} {ocT : Value} {odT : Option Addr} {nT : Nat} {slT : Array (Option Value)} (l : K.lookup f = some ⟨oc, od, .func (W.fnOf x qual (ZAQ st) (ZAL st) (ZAC st) (.ref T) kV doc pm an cdv ct), osl⟩)
    (c : W.codeIn K cdv qual = true) (k : W.keepIn K (.ref f) = true) (t : K.lookup T = some ⟨ocT, odT, .seq dv.toArray nT, slT⟩) : FunD K x qual st f (W.fnOf x qual (ZAQ st) (ZAL st) (ZAC st) (.ref T) kV doc pm an cdv ct) dv := ⟨⟨oc, od, T, kV, doc, pm, an, cdv, ct, osl, rfl, l, c, _, nT, t, rfl⟩, k⟩
end
structure KlD (P : Program) (w : World) (K : W.Frag) (mg : Str -> Option Value) (base : Heap) (CX : CXT) (x : Str) (C : Addr) (k : Nat) (ps : List Str) (sp : Sp) (dvs : List V) : Prop where
  mgC : mg x = some (.ref C)
  ex : ∃ f fd ds, FnOk P w K mg base CX k f fd ps sp /\ Binds K fd ps ds /\ Vals dvs ds /\ Mk K C f
section
variable {X : Cx} {CX : CXT} {k : Nat} {ps : List Str} {sp : Sp} {dvs : List V} {E : XK} {x m : Str} {C : Addr} {p pos apos : Pos} {e o : Expr} {es : List Expr} {ta : TE} {t : TA}
theorem pe_mkD (F : KlD X.prog X.w X.K X.mg X.base CX x C k ps sp dvs) (hr : Room (k + 1) X.A) (hg : Gl X x) (hx : ZBw CX X E) (ha : PA X (e :: es) t) (hdb : (x == ("__debug__" : Str)) = false := by decide) (he : starEach (e :: es) X.env = (false, eval e X.env) :: starEach es X.env := by rfl) (hpl : (backTo pos (starEach es X.env)).any (·.1) = false := by rfl) :
    PE X (.Call (.Name x p) (e :: es) [] pos) (ZEF C sp dvs E t) := by
  obtain ⟨f, fd, ds, h1, h2, hv, h3⟩ := F.ex
  exact pe_make h3 h1 hr hg F.mgC h2 hv hx ha hdb he hpl
end
section
variable {X : Cx}
theorem ZCO (ns : List Int) : ∀ n, n <= ns.length -> preSum (fun i => ns.getD i 0) n = (ns.take n).sum
  | 0, _ => by simp [preSum]
  | n + 1, h => by
    show preSum (fun i => ns.getD i 0) n + ns.getD n 0 = _
    rw [ZCO ns n (by omega), List.take_succ]
    rw [yBL, yAC (show n < ns.length by omega), List.sum_append]
    simp
def SumOk (ns : List Int) : Prop := ns.length <= 1000 /\ ∀ x ∈ ns, -1000000000 <= x /\ x <= 1000000000
theorem sum_bound : ∀ (ns : List Int), (∀ x ∈ ns, -1000000000 <= x /\ x <= 1000000000) -> -(ns.length * 1000000000 : Int) <= ns.sum /\ ns.sum <= ns.length * 1000000000
  | [], _ => by simp
  | x :: r, h => by
    have a := h x yAI
    have b := sum_bound r fun y hy => h y (yAS _ hy)
    rw [yBR, yAR]
    omega
theorem ZDV (hc : X.calm = true) : ZCb X (.builtin "sum") (fun xs H Q => ∃ (p : Addr) (ns : List Int), xs = [.ref p] /\ SqL X.K H p (ns.map V.int) /\ SumOk ns /\ Q (.int ns.sum) H) := by
  intro pins s σ H xs us Q I r h
  obtain ⟨p, ns, rfl, hq, hs, q⟩ := h
  obtain ⟨u, rfl, rx⟩ := ZDF r
  cases rx
  obtain ⟨its, r', pl, hz⟩ := I.list hq
  have hlen := r'.length
  rw [yAA] at hlen
  have hh : X.A.handled = none := I.ok.hd hc
  have hl := pl.isList
  have hlt : p < s.heap.objs.size := by obtain ⟨_, e, _⟩ := hl; exact Heap.lt_size e
  refine call_sum_walk (wpAny_pyIter_list hl ⟨s.heap.objs.size, _, _, _, _, _, fun i => ns.getD i 0, rfl, Walks.list (A := X.A.in1) hh s.heap.objs.size p (yAL hlt) its.toArray, ⟨⟨_, Heap.get?_push_size _ rfl, rfl, rfl⟩, hl.push _⟩, fun b hb => ?_, fun i v hP => ?_, fun j hj => ?_, fun h' tk t' hk => ?_⟩)
  . have hb' : b = s.heap.objs.size ∨ b = p := by simpa using hb
    show b < (s.heap.push _).objs.size
    rw [Heap.size_push]
    rcases hb' with rfl | rfl
    . exact yCD _
    . exact Nat.lt_succ_of_lt hlt
  . have hP' : its[i]? = some v := by simpa using hP
    have hi : i < its.length := (yAJ.mp hP').1
    obtain ⟨b, hb⟩ : ∃ b, ns[i]? = some b := ⟨_, yAC (by omega)⟩
    obtain ⟨u, hu, ru⟩ := r'.get (i := i) (x := .int b) (by rw [yAG, hb]; rfl)
    rw [hP'] at hu
    cases hu
    obtain ⟨t, rfl⟩ := ru
    refine ⟨t, ?_⟩
    show _ = Value.int (ns.getD i 0) t
    rw [yBL, hb]
    rfl
  . have hj' : j < ns.length := by simp at hj; omega
    have hjm : ns.getD j 0 ∈ ns := by
      rw [yBL, yAC hj']
      exact yCT hj'
    have b1 := hs.2 _ hjm
    have b2 := sum_bound (ns.take (j + 1)) fun y hy => hs.2 y (List.mem_of_mem_take hy)
    have b3 : (ns.take (j + 1)).length <= 1000 := by rw [yAT]; have := hs.1; omega
    rw [ZCO ns (j + 1) hj']
    show (-(2 ^ 63) <= ns.getD j 0 /\ ns.getD j 0 < 2 ^ 63) /\ (-(2 ^ 63) <= (ns.take (j + 1)).sum /\ (ns.take (j + 1)).sum < 2 ^ 63)
    refine ⟨⟨by omega, by omega⟩, ?_⟩
    omega
  . refine ⟨.int ns.sum, H, I.kept (t' := tk) (fun b o e => hk b o ?_ (Heap.get?_push_of_some _ e)), ⟨t', ?_⟩, q⟩
    . intro z
      have : b = s.heap.objs.size := by simpa using z
      exact absurd (Heap.lt_size e) (by rw [this]; exact yBG _)
    . have : its.toArray.size = ns.length := by simp [hlen]
      rw [this, ZCO ns ns.length (yAB _), List.take_length]
theorem ZBt : ZCb X (.builtin "sorted") (fun xs H Q => ∃ (p : Addr) (ns : List Int), xs = [.ref p] /\ SqL X.K H p (ns.map V.int) /\ ns.length < 64 /\ ∀ (l : Addr) (ms : List Int), H l = none -> ms.Perm ns -> ms.Pairwise (· <= ·) -> Q (.ref l) (upd H l (.lst (ms.map V.int)))) := by
  intro pins s σ H xs us Q I r h
  obtain ⟨p, ns, rfl, hq, hn, q⟩ := h
  obtain ⟨u, rfl, rx⟩ := ZDF r
  cases rx
  obtain ⟨its, r', pl, hz⟩ := I.list hq
  have hlen := r'.length
  rw [yAA] at hlen
  refine sorted_ints pl.isList (intsAre_of r') (by omega) fun out ns' a1 a2 a3 => ?_
  obtain ⟨e, he⟩ := sortedAll_at s.heap its out
  have hl' : ns'.length = ns.length := a2.length_eq
  refine ⟨.ref (s.heap.objs.size + 1), _, I.laid (t' := s.toks) (fun b o e => sortedAll_old e) (yBC _) (o := .lst (ns'.map V.int)) ⟨?_, out.toList, e, ZCn a1, by simpa using he⟩, rfl, q _ ns' (I.hok.fresh (yBC _)) a2 a3⟩
  rw [yAA]
  exact yAE (show ns'.length <= 1000 by omega) (by decide)
end
theorem Same.get {H H' : Hp} {b : Addr} {o : HO} (s : Same H H') (h : H b = some o) : H' b = some o := s b o h
theorem newH {H : Hp} {p : Addr} (h : H p = none) (o : HO) : ∃ H', upd H p o = H' /\ Same H H' /\ H' p = some o := ⟨_, rfl, ZAO h o, ZAG⟩
section
variable {K : W.Frag} {a : Addr} {xs : List V} {te : TE} {Q : VK} {σ0 rest : St} {H : Hp}
theorem compL_gen (h : SqL K H a xs) (hz : xs.length <= 1000) (e0 : σ0 = none :: rest) (R : V -> V -> Hp -> Prop) (mono : ∀ x y H1 H2, Same H1 H2 -> R x y H1 -> R x y H2)
    (hs : ∀ (i : Nat) x H', xs[i]? = some x -> Same H H' -> ∀ Q' : VK, (∀ y H4, Same H' H4 -> R x y H4 -> Q' y H4) -> te (some x :: rest) H' Q')
    (hd : ∀ ys H' p, ys.length = xs.length -> (∀ (j : Nat) x y, xs[j]? = some x -> ys[j]? = some y -> R x y H') -> Same H H' -> H' p = none -> Q (.ref p) (upd H' p (.lst ys))) : ZEk K (ZDv 0) tYes te σ0 Q (.ref a) H := by
  subst e0
  refine ZA5 h hz (fun i ys σ H' => ∃ v, σ = v :: rest /\ Same H H' /\ ys.length = i /\ ∀ (j : Nat) x y, xs[j]? = some x -> ys[j]? = some y -> R x y H') ⟨_, rfl, .refl _, rfl, fun j x y _ q => by cases q⟩ ?_ ?_ ?_
  . rintro i ys σ H' _ ⟨v, rfl, e, hl, _⟩
    exact ⟨e.seq h, Nat.le_of_eq hl⟩
  . rintro i ys x σ H' hi hx ⟨v, rfl, e, hl, hR⟩
    show te (some x :: rest) H' _
    refine hs i x H' hx e _ fun y H4 q1 q2 => ?_
    refine Nxt.of hi ⟨_, rfl, e.trans q1, by rw [yAD, hl]; rfl, fun j x' y' hx' hy' => ?_⟩
    by_cases hj : j < ys.length
    . rw [yAV hj] at hy'
      exact mono _ _ _ _ q1 (hR j x' y' hx' hy')
    . rw [yAU (by omega)] at hy'
      have : j - ys.length = 0 := by
        rcases Nat.eq_zero_or_pos (j - ys.length) with z | z
        . exact z
        . rw [yBE (show [y].length <= j - ys.length from z)] at hy'
          cases hy'
      rw [this] at hy'
      cases hy'
      rw [show j = i by omega, hx] at hx'
      cases hx'
      exact q2
  . rintro ys σ H' ⟨v, rfl, e, hl, hR⟩ p hp
    exact hd ys H' p hl hR e hp
theorem compI_gen {ms : List Int} (h : SqL K H a (ms.map V.int)) (hz : ms.length <= 1000) (e0 : σ0 = none :: rest) (R : Int -> Int -> Prop)
    (hs : ∀ c H', c ∈ ms -> Same H H' -> ∀ Q' : VK, (∀ r H4, Same H' H4 -> R c r -> Q' (.int r) H4) -> te (some (.int c) :: rest) H' Q')
    (hd : ∀ (rs : List Int) (H' : Hp) (p : Addr), rs.length = ms.length -> (∀ (j : Nat) c r, ms[j]? = some c -> rs[j]? = some r -> R c r) -> Same H H' -> H' p = none -> Q (.ref p) (upd H' p (.lst (rs.map V.int)))) : ZEk K (ZDv 0) tYes te σ0 Q (.ref a) H := by
  refine compL_gen h (by rw [yAA]; exact hz) e0 (fun x y _ => ∃ c r, x = .int c /\ y = .int r /\ R c r) (fun _ _ _ _ _ q => q) (fun i x H' hx e Q' k => ?_) fun ys H' p hl hR e hp => ?_
  . obtain ⟨c, hc, rfl⟩ := ZB9 hx
    exact hs c H' (yAM hc) e Q' fun r H4 q1 q2 => k _ _ q1 ⟨c, r, rfl, rfl, q2⟩
  . have hy : ∀ y ∈ ys, ∃ r, y = .int r := fun y hy => by
      obtain ⟨j, hj⟩ := yCG hy
      have hlt : j < ys.length := (yAJ.mp hj).1
      obtain ⟨c, r, _, e, _⟩ := hR j _ y (yAC (by omega)) hj
      exact ⟨r, e⟩
    have : ∃ rs : List Int, ys = rs.map V.int := by
      clear hl hR hp
      induction ys with
      | nil => exact ⟨[], rfl⟩
      | cons y t ih =>
        obtain ⟨r, rfl⟩ := hy y yAI
        obtain ⟨rs, rfl⟩ := ih fun z hz => hy z (yAS _ hz)
        exact ⟨r :: rs, rfl⟩
    obtain ⟨rs, rfl⟩ := this
    rw [yAA, yAA] at hl
    refine hd rs H' p hl (fun j c r hc hr => ?_) e hp
    obtain ⟨c', r', e1, e2, q⟩ := hR j (.int c) (.int r) (by rw [yAG, hc]; rfl) (by rw [yAG, hr]; rfl)
    cases e1
    cases e2
    exact q
end
section
variable {X : Cx} {pins : List (Addr × Obj)} {σ : St} {H : Hp} {s : Shared}
theorem Inv.turn2 (I : Inv X pins σ H s) {ch : List Addr} {h' : Heap} {p : Addr} {o : HO} {t' : Nat} (hf : ∀ b ∈ ch, FpOk X pins H b) (k : ∀ b ob, b ∉ ch -> s.heap.get? b = some ob -> h'.get? b = some ob)
    (hp : s.heap.objs.size <= p) (new : ObjOk X.prog X.w (upd H p o) h' p o) : Inv X pins σ (upd H p o) { s with heap := h', toks := t' } := by
  have hn : H p = none := I.hok.fresh hp
  have tr : ∀ b u, H b = some u -> b ∉ ch := fun b u e z => by rw [(hf b z).1] at e; cases e
  refine I.call (g' := s.gens) (t' := t') (d' := s.drawn) (ch := ch) ⟨fun b ob e n _ hx => k b ob hx e, fun b ob e n _ hx => ⟨ob.slots, k b ob hx e⟩, fun b ob e n _ => ?_, fun b ob e hx => ⟨ob, k b ob hx e⟩, fun b xs e => ?_, fun b ob u e => ?_, fun b qs e => ⟨#[], ?_⟩⟩ (fun b u e => ?_) I.bare fun b hb => ?_
  . rw [ZAI (yAL (yAW (Heap.lt_size e) hp))]; exact n
  . rw [ZAI (ZAE e hn)]; exact e
  . rw [ZAI (ZAE e hn)]; exact e
  . rw [ZAI (ZAE e hn), e]; simp
  . by_cases hb : b = p
    . subst hb; rw [ZAG] at e; cases e; exact new
    . rw [ZAI hb] at e
      refine (I.hok b u e).stay (fun c v hc q => k c v ?_ q) (fun c q => by rw [ZAI (ZAE q hn)]; exact q) fun c xs q => by rw [ZAI (ZAE q hn)]; exact q
      rcases hc with z | z
      . rw [z]; exact tr b u e
      . exact tr c _ z
  . obtain ⟨a1, a2, a3, a4, a5, a6⟩ := hf b hb
    exact ⟨a4, a2, a5, a6⟩
end
def Ite (K : W.Frag) (a : Addr) : It :=
  ⟨fun i H => ∃ xs x, SqL K H a xs /\ xs[i]? = some x, fun i H v H' => ∃ p x, H p = none /\ (∀ xs, SqL K H a xs -> xs[i]? = some x) /\ H' = upd H p (.tup [.int i, x]) /\ v = .ref p, fun i H => ∃ xs, SqL K H a xs /\ xs.length <= i⟩
theorem turn_enum {P : Program} {w : World} {K : W.Frag} {elts : List Expr} {x1} {tpos : Pos} (a e it : Addr) (hne : e ≠ it) : Turn P w K (.Tuple elts x1 tpos) (Ite K a) [e, it] e (fun i h => (∃ old, IsEnum h e it ((i : Nat) : Int) old) /\ h.IsListIter it a i) where
  mem := by simp
  obj := fun i h st b hb => by
    obtain ⟨⟨old, he⟩, o, e2, c, d⟩ := st
    have hb' : b = e ∨ b = it := by simpa using hb
    rcases hb' with rfl | rfl
    . exact ⟨_, he, fun v z => by cases z⟩
    . exact ⟨o, e2, fun v z => by rw [d] at z; cases z⟩
  keep := fun i h h' st k => ⟨let ⟨old, he⟩ := st.1; ⟨old, k e (by simp) _ he⟩, st.2.at fun o q => k it (by simp) o q⟩
  item := by
    intro X hP hw hK hc i pins s σ H E I hf st hg
    subst hP hw hK
    obtain ⟨xs, x, hq, hx⟩ := hg
    obtain ⟨its, rv, p, hz⟩ := I.list hq
    obtain ⟨u, hu, ru⟩ := rv.get hx
    obtain ⟨⟨old, he⟩, hit⟩ := st
    refine wpAny_pyNext_enum_item he hit p.isList (x := u) (by simpa using hu) hne fun h1 heo hit1 ht1 hz1 hk1 => ⟨_, rfl, ?_⟩
    refine wpAny_letOwnedTupleGo_enum heo fun h2 he2 hs2 => ?_
    replace hs2 : Heap.SameBut e h1 h2 := hs2
    have hel : e < s.heap.objs.size := Heap.lt_size he
    have ht2 : h2.get? s.heap.objs.size = some { cls := .type "tuple", data := .seq #[.int i s.toks, u] } := (hs2.2 _ (Nat.ne_of_gt hel)).trans ht1
    have hnew : H s.heap.objs.size = none := I.hok.fresh (yAB _)
    refine ⟨.ref s.heap.objs.size, upd H s.heap.objs.size (.tup [.int i, x]), I.turn2 (ch := [e, it]) (t' := s.toks + 1) hf (fun b ob hb q => ?_) (yAB _) ?_, rfl, ⟨_, x, hnew, fun ys hy => by rw [I.list_inj hy hq]; exact hx, rfl, rfl⟩, ⟨⟨u, ?_⟩, ?_⟩, fun b hb => ?_⟩
    . have hbe : b ≠ e := fun z => hb (by simp [z])
      have hbi : b ≠ it := fun z => hb (by simp [z])
      exact (hs2.2 b hbe).trans (hk1 b ob hbe hbi q)
    . exact ⟨ZAV (show 2 <= 1000 by decide), [.int i s.toks, u], .cons ⟨_, rfl⟩ (.cons ru .nil), _, ht2, rfl, 0, rfl⟩
    . have : ((i + 1 : Nat) : Int) = (i : Int) + 1 := by push_cast; rfl
      rw [this]; exact he2
    . exact hit1.at fun o q => (hs2.2 it (Ne.symm hne)).trans q
    . have hn := (hf b hb).1
      have hb' : b = e ∨ b = it := by simpa using hb
      obtain ⟨oi, hoi, _⟩ := hit
      have hlt : b < s.heap.objs.size := by
        rcases hb' with rfl | rfl
        . exact hel
        . exact Heap.lt_size hoi
      rw [ZAI (yAL hlt)]; exact hn
  done := by
    intro X hP hw hK hc i pins s σ H E I hf st hg
    subst hP hw hK
    obtain ⟨xs, hq, hx⟩ := hg
    obtain ⟨its, rv, p, hz⟩ := I.list hq
    obtain ⟨⟨old, he⟩, hit⟩ := st
    obtain ⟨f0, f1, f2, f3, f4, f5⟩ := hf it (by simp)
    have hl := rv.length
    exact wpAny_pyNext_enum_end (I.ok.hd hc) he hit p.isList (by rw [List.getElem?_toArray]; exact yBE (by omega)) fun h' eb => ⟨rfl, I.turned (t' := s.toks) (fun b o hb e => eb b o hb e) f0 f1 f3 f4 f5⟩
  self := fun _ _ _ _ _ st h => let ⟨_, he⟩ := st.1; wpAny_pyIter_enum he h
section
variable {X : Cx}
def ZE6 (K : W.Frag) (ta : TA) : TI := fun σ H R => ta σ H fun vs H1 => ∃ a, vs = [.ref a] /\ (∃ xs, SqL K H1 a xs) /\ R (Ite K a) H1
theorem pi_enum {elts : List Expr} {x1} {tpos : Pos} {l : Expr} {ta : TA} {p pos : Pos} (hg : Gl X "enumerate") (hm : X.mg "enumerate" = none) (ha : PA X [l] ta) (hs : starEach [l] X.env = [(false, eval l X.env)] := by rfl) :
    PI X (.Tuple elts x1 tpos) (.Call (.Name "enumerate" p) [l] [] pos) (ZE6 X.K ta) := by
  intro pins s σ H R I h
  refine Call_ (ZDC I hg hm boot_enumerate (PyProof.Rows.callWith_type1 (thn (ha pos pins s σ H _ I h) fun us s1 ⟨vs, H1, I1, r1, q1⟩ => ?_) hs rfl))
  obtain ⟨a, e, ⟨xs, hq⟩, q⟩ := q1
  subst e
  obtain ⟨u, rfl, ru⟩ := ZDF r1
  cases ru
  obtain ⟨its, rv, pl, hz⟩ := I1.list hq
  refine call_enumerate_list pl.isList fun h' he hit hsz hk => wpAny_pyIter_enum he ?_
  have I2 : Inv X pins σ H1 { s1 with heap := h' } := I1.kept (t' := s1.toks) hk
  refine ⟨s1.heap.objs.size + 1, [s1.heap.objs.size + 1, s1.heap.objs.size], _, Ite X.K a, H1, rfl, I2, turn_enum a _ _ (Nat.succ_ne_self _), ⟨⟨_, he⟩, hit⟩, fun b hb => ?_, q⟩
  have hb' : b = s1.heap.objs.size + 1 ∨ b = s1.heap.objs.size := by simpa using hb
  have hle : s1.heap.objs.size <= b := by
    rcases hb' with rfl | rfl
    . exact yBC _
    . exact yAB _
  exact I1.fpOk hle (I1.hok.fresh hle)
end
section
variable {K : W.Frag} {a : Addr} {xs : List V} {g : TG} {tb : TS} {D : Ends} {σ : St} {H : Hp}
def forE (K : W.Frag) (g : TG) (tb : TS) (D : Ends) (σ : St) (x : V) (H1 : Hp) : Prop := ∃ a, [x] = [.ref a] /\ (∃ xs, SqL K H1 a xs) /\ ∃ W : Nat -> Nat -> St -> Hp -> Prop, (∃ m, W 0 m σ H1) /\ ∀ i m σ H, W i m σ H ->
  ((Ite K a).stop i H /\ D.nx σ H) ∨ ((Ite K a).go i H /\ ∃ N : St -> Hp -> Prop, (∀ σ' H', N σ' H' -> ∃ m', m' < m /\ W (i + 1) m' σ' H') /\ ∀ x H', (Ite K a).yld i H x H' -> g x σ H' fun σ2 H2 => tb { D with nx := N, ct := N, bk := D.nx } σ2 H2)
theorem tForE_eq {t : TE} : tFor (ZE6 K (ZCT t tNil)) g tb D σ H = t σ H (fun x H1 => forE K g tb D σ x H1) := rfl
variable {tt : TT} {te : TE} {Q : VK} {σ0 : St}
def compE (K : W.Frag) (g : TG) (tt : TT) (te : TE) (σ0 : St) (Q : VK) (x : V) (H1 : Hp) : Prop := ∃ a, [x] = [.ref a] /\ (∃ xs, SqL K H1 a xs) /\ ∃ W : Nat -> Nat -> List V -> St -> Hp -> Prop, (∃ m, W 0 m [] σ0 H1) /\ ∀ i m ys σ H, W i m ys σ H ->
  ((Ite K a).stop i H /\ ys.length <= sizeLine /\ ∀ p, H p = none -> Q (.ref p) (upd H p (.lst ys))) ∨
  ((Ite K a).go i H /\ ys.length < sizeLine /\ ∀ x H', (Ite K a).yld i H x H' -> g x σ H' fun σ2 H2 => tt σ2 H2 fun b H3 => if b = true then te σ2 H3 fun y H4 => ∃ m', m' < m /\ W (i + 1) m' (ys ++ [y]) σ2 H4 else ∃ m', m' < m /\ W (i + 1) m' ys σ2 H3)
theorem tCompE_eq {k : Nat} {js : List Nat} {t : TE} : ZDi k js (ZE6 K (ZCT t tNil)) g tt te σ H Q = t σ H (fun x H1 => compE K g tt te (up k js σ) Q x H1) := rfl
theorem compE_of (h : SqL K H a xs) (hz : xs.length <= 1000) (P : Nat -> List V -> St -> Hp -> Prop) (h0 : P 0 [] σ0 H) (hl : ∀ i ys σ H, i <= xs.length -> P i ys σ H -> SqL K H a xs /\ ys.length <= i)
    (hs : ∀ (i : Nat) ys x σ H p, i < xs.length -> xs[i]? = some x -> P i ys σ H -> H p = none -> g (.ref p) σ (upd H p (.tup [.int i, x])) fun σ2 H2 => tt σ2 H2 fun b H3 => if b = true then te σ2 H3 fun y H4 => Nxt P xs.length i (ys ++ [y]) σ2 H4 else Nxt P xs.length i ys σ2 H3)
    (hd : ∀ ys σ H, P xs.length ys σ H -> ∀ p, H p = none -> Q (.ref p) (upd H p (.lst ys))) : compE K g tt te σ0 Q (.ref a) H := by
  have hz' := ZAV hz
  refine ⟨a, rfl, ⟨xs, h⟩, fun i m ys σ H => m = xs.length - i /\ i <= xs.length /\ P i ys σ H, ⟨xs.length, by simp, yAF _, h0⟩, ?_⟩
  rintro i m ys σ H ⟨rfl, hi, p⟩
  obtain ⟨q, ly⟩ := hl i ys σ H hi p
  by_cases hlt : i < xs.length
  . refine .inr ⟨⟨xs, xs[i], q, by simp [hlt]⟩, by omega, fun x H' y => ?_⟩
    obtain ⟨pp, x', hn, y, rfl, rfl⟩ := y
    exact hs i ys x' σ _ pp hlt (y xs q) p hn
  . have e : i = xs.length := by omega
    subst e
    exact .inl ⟨⟨xs, q, yAB _⟩, by omega, hd ys σ H p⟩
end
abbrev FZ (o : Obj) : HO := .frz o (.ext fun _ => True)
theorem ZEV {P : Program} {w : World} {H : Hp} {h : Heap} {a : Addr} {o : Obj} (e : h.get? a = some o) : ObjOk P w H h a (FZ o) := ⟨e, trivial, ⟨o, e⟩, fun _ _ _ _ => trivial⟩
theorem ZDD {P : Program} {w : World} {H : Hp} {h : Heap} {a : Addr} {o : Obj} (x : HOk P w H h) (e : H a = some (FZ o)) : h.get? a = some o := (x a _ e).1
def CodeAt (H : Hp) (c : Addr) (qual : Str) : Prop := ∃ oc vs t, H c = some (FZ oc) /\ oc.data = .fields vs /\ vs[1]? = some (.str qual t)
theorem CodeAt.rec {P : Program} {w : World} {H : Hp} {h : Heap} {c : Addr} {qual : Str} (x : HOk P w H h) (k : CodeAt H c qual) : h.CodeRec (.ref c) qual :=
  let ⟨oc, vs, t, e, d, v⟩ := k; ⟨c, oc, vs, t, rfl, ZDD x e, d, v⟩
structure CloL (H : Hp) (g : Addr) (iname iq : Str) (ip : Arguments) (ib : List Stmt) (isc : Scope) (fr : List Str) (cs : List V) (cl : List (Str × Addr)) : Prop where
  obj : ∃ (doc pm ctv : Value) (c' : Addr), H g = some (FZ (PySem.W.fnMade iname iq ip ib isc cl doc pm c' ctv)) /\ CodeAt H c' iq
  keys : ∀ x c, cl.lookup x = some c -> x ∈ fr
  inj : ∀ x y c, cl.lookup x = some c -> cl.lookup y = some c -> x = y
  cell : ∀ (i : Nat) (x : Str), fr[i]? = some x -> ∃ v c u o, cs[i]? = some v /\ cl.lookup x = some c /\ RelV v u /\ H c = some (FZ o) /\ o.data = .cell (some u)
  len : cs.length = fr.length
def Clo (H : Hp) (g : Addr) (iname iq : Str) (ip : Arguments) (ib : List Stmt) (isc : Scope) (fr : List Str) (cs : List V) : Prop := ∃ cl, CloL H g iname iq ip ib isc fr cs cl
def ZDc (H H' : Hp) : Prop := ∀ b o, H b = some (FZ o) -> H' b = some (FZ o)
theorem CodeAt.mono {H H' : Hp} {c : Addr} {q : Str} (e : ZDc H H') (k : CodeAt H c q) : CodeAt H' c q := let ⟨oc, vs, t, a, d, v⟩ := k; ⟨oc, vs, t, e _ _ a, d, v⟩
theorem CloL.mono {H H' : Hp} {g : Addr} {iname iq : Str} {ip : Arguments} {ib : List Stmt} {isc : Scope} {fr : List Str} {cs : List V} {cl : List (Str × Addr)} (e : ZDc H H') (k : CloL H g iname iq ip ib isc fr cs cl) : CloL H' g iname iq ip ib isc fr cs cl where
  obj := let ⟨doc, pm, ctv, c', a, b⟩ := k.obj; ⟨doc, pm, ctv, c', e _ _ a, b.mono e⟩
  keys := k.keys
  inj := k.inj
  cell := fun i x h => let ⟨v, c, u, o, a1, a2, a3, a4, a5⟩ := k.cell i x h; ⟨v, c, u, o, a1, a2, a3, e _ _ a4, a5⟩
  len := k.len
theorem Clo.mono {H H' : Hp} {g : Addr} {iname iq : Str} {ip : Arguments} {ib : List Stmt} {isc : Scope} {fr : List Str} {cs : List V} (e : ZDc H H') (k : Clo H g iname iq ip ib isc fr cs) : Clo H' g iname iq ip ib isc fr cs := let ⟨cl, x⟩ := k; ⟨cl, x.mono e⟩
theorem CloL.inj' {H : Hp} {g : Addr} {iname iq : Str} {ip : Arguments} {ib : List Stmt} {isc : Scope} {fr : List Str} {cs cs' : List V} {cl cl' : List (Str × Addr)} (k : CloL H g iname iq ip ib isc fr cs cl) (k' : CloL H g iname iq ip ib isc fr cs' cl') : cs = cs' := by
  obtain ⟨d1, p1, t1, c1, e1, _⟩ := k.obj
  obtain ⟨d2, p2, t2, c2, e2, _⟩ := k'.obj
  rw [e1] at e2
  have ecl : cl = cl' := by
    have := Option.some.inj e2
    injection this with h1 h2
    injection h1 with h3 h4 h5
    injection h5 with h6
    injection h6
  subst ecl
  refine List.ext_getElem? fun i => ?_
  by_cases hi : i < fr.length
  . obtain ⟨v, c, u, o, a1, a2, a3, a4, a5⟩ := k.cell i _ (yAC hi)
    obtain ⟨v', c', u', o', b1, b2, b3, b4, b5⟩ := k'.cell i _ (yAC hi)
    rw [a2] at b2
    cases b2
    rw [a4] at b4
    have eo : o = o' := by
      have := Option.some.inj b4
      injection this
    subst eo
    rw [a5] at b5
    have eu : u = u' := by injection b5 with h; injection h
    subst eu
    rw [a1, b1, a3.inj b3]
  . rw [yBE (by rw [k.len]; omega), yBE (by rw [k'.len]; omega)]
open Classical in
noncomputable def hid (cl : List (Str × Addr)) (H : Hp) : Hp := fun b => if ∃ x, cl.lookup x = some b then none else H b
open Classical in
noncomputable def back (cl : List (Str × Addr)) (H H1 : Hp) : Hp := fun b => if ∃ x, cl.lookup x = some b then H b else H1 b
theorem ZDs {cl : List (Str × Addr)} {H : Hp} {x : Str} {b : Addr} (h : cl.lookup x = some b) : hid cl H b = none := by unfold hid; rw [if_pos ⟨x, h⟩]
theorem ZC6 {cl : List (Str × Addr)} {H : Hp} {b : Addr} (h : ¬ ∃ x, cl.lookup x = some b) : hid cl H b = H b := by unfold hid; rw [if_neg h]
theorem ZDE {cl : List (Str × Addr)} {H H1 : Hp} {x : Str} {b : Addr} (h : cl.lookup x = some b) : back cl H H1 b = H b := by unfold back; rw [if_pos ⟨x, h⟩]
theorem ZBv {cl : List (Str × Addr)} {H H1 : Hp} {b : Addr} (h : ¬ ∃ x, cl.lookup x = some b) : back cl H H1 b = H1 b := by unfold back; rw [if_neg h]
theorem hid_le {cl : List (Str × Addr)} {H : Hp} {b : Addr} {o : HO} (h : hid cl H b = some o) : H b = some o := by
  by_cases q : ∃ x, cl.lookup x = some b
  . obtain ⟨x, q⟩ := q; rw [ZDs q] at h; cases h
  . rw [ZC6 q] at h; exact h
def Cells (cl : List (Str × Addr)) (H : Hp) : Prop := ∀ x c, cl.lookup x = some c -> ∃ u o, H c = some (FZ o) /\ o.data = .cell u
theorem CloL.cells {H : Hp} {g : Addr} {iname iq : Str} {ip : Arguments} {ib : List Stmt} {isc : Scope} {fr : List Str} {cs : List V} {cl : List (Str × Addr)} (k : CloL H g iname iq ip ib isc fr cs cl) : Cells cl H := fun x c h => by
  obtain ⟨i, hi⟩ := yCG (k.keys x c h)
  obtain ⟨v, c2, u, o, _, h2, _, h4, h5⟩ := k.cell i x hi
  rw [h] at h2
  cases h2
  exact ⟨_, o, h4, h5⟩
theorem ZBV {cl : List (Str × Addr)} {H : Hp} {b : Addr} {o : HO} (C : Cells cl H) (h : H b = some o) (n : ∀ ob, o ≠ FZ ob) : hid cl H b = some o := by
  rw [ZC6, h]
  rintro ⟨x, q⟩
  obtain ⟨u, ob, e, _⟩ := C x b q
  rw [h] at e
  exact n ob (Option.some.inj e)
theorem ZCl {cl : List (Str × Addr)} {H H1 : Hp} {l : Addr} {o : HO} (n : ¬ ∃ x, cl.lookup x = some l) : back cl H (upd H1 l o) = upd (back cl H H1) l o := by
  funext b
  by_cases q : ∃ x, cl.lookup x = some b
  . have : b ≠ l := fun e => n (e ▸ q)
    obtain ⟨x, q⟩ := q
    rw [ZDE q, ZAI this, ZDE q]
  . rw [ZBv q]
    by_cases e : b = l
    . subst e; rw [ZAG, ZAG]
    . rw [ZAI e, ZAI e, ZBv q]
def NoC (cl : List (Str × Addr)) (H : Hp) : Prop := ∀ x c, cl.lookup x = some c -> H c = none
structure CloScope (N ps fr : List Str) (sc : Scope) : Prop where
  kind : sc.kind = .function
  co : sc.isCoroutine = false
  gen : sc.isGenerator = false
  nd : N.Nodup
  pre : N.take ps.length = ps
  suf : N.drop (N.length - fr.length) = fr
  two : ps.length + fr.length <= N.length
  par : ∀ x ∈ ps, sc.names.lookup x = some .local
  nocell : ∀ y ∈ sc.names, y.2 ≠ .cell
  free : ∀ x ∈ fr, sc.names.lookup x = some .free
  only : ∀ x, sc.names.lookup x = some .free -> x ∈ fr
def ZCL (N : List Str) (vs cs : List V) : St := vs.map some ++ (List.replicate (N.length - vs.length - cs.length) none ++ cs.map some)
def ZEB (P : Program) (w : World) (K : W.Frag) (mg : Str -> Option Value) (base : Heap) (N : List Str) (qual : Str) (scope : Scope) (f : Addr) (cd : Value) (cl : List (Str × Addr)) (A : Around) (outer : List Env) (s : Shared) (H : Hp) : Cx where
  prog := P
  w := w
  K := K
  mg := mg
  base := base
  A := A.deeper (PySem.W.envX qual scope s.heap.objs.size f cd cl)
  N := N
  s₀ := s
  H₀ := H
  env := PySem.W.envX qual scope s.heap.objs.size f cd cl
  outer := outer
  stack := PySem.W.envX qual scope s.heap.objs.size f cd cl :: outer
  ex := []
  calm := true
  fn := fun _ => false
  pn := []
  xe := fun _ _ => False
theorem startC_get {N : List Str} {vs cs : List V} {i : Nat} {v : V} (hl : vs.length + cs.length <= N.length) (h : (ZCL N vs cs)[i]? = some (some v)) :
    vs[i]? = some v ∨ (N.length - cs.length <= i /\ cs[i - (N.length - cs.length)]? = some v) := by
  unfold ZCL at h
  by_cases h1 : i < vs.length
  . rw [yAV (by simpa using h1), yAG] at h
    cases e : vs[i]? with
    | none => rw [e] at h; cases h
    | some a => rw [e] at h; cases h; exact .inl rfl
  . rw [yAU (by simpa using Nat.le_of_not_lt h1), yAA] at h
    by_cases h2 : i - vs.length < N.length - vs.length - cs.length
    . rw [yAV (by simpa using h2), yCM, if_pos h2] at h
      cases h
    . rw [yAU (by simpa using Nat.le_of_not_lt h2), yBY, yAG] at h
      right
      refine ⟨by omega, ?_⟩
      rw [show i - (N.length - cs.length) = i - vs.length - (N.length - vs.length - cs.length) by omega]
      cases e : cs[i - vs.length - (N.length - vs.length - cs.length)]? with
      | none => rw [e] at h; cases h
      | some a => rw [e] at h; cases h; rfl
theorem zip_fst_sub : ∀ (ps : List Str) (us : List Value), ((ps.zip us).map (·.1)).Sublist ps
  | [], _ => by simp
  | p :: ps, [] => by simp
  | p :: ps, u :: us => by rw [List.zip_cons_cons, yAP]; exact (zip_fst_sub ps us).cons₂ p
theorem lookup_nodup {α : Type} : ∀ {cs : List (Str × α)} {n : Str} {c : α}, (cs.map (·.1)).Nodup -> (n, c) ∈ cs -> cs.lookup n = some c
  | (m, d) :: r, n, c, hn, h => by
    rw [yAP] at hn
    have hn' := yCL.mp hn
    rw [yCE]
    rcases yAH.mp h with e | h
    . cases e; simp
    . have : n ≠ m := fun z => hn'.1 (z ▸ List.mem_map_of_mem (f := (·.1)) h)
      have : (n == m) = false := by simpa using this
      rw [this]
      exact lookup_nodup hn'.2 h
theorem zip_lookup {ps : List Str} {us : List Value} (nd : ps.Nodup) {i : Nat} {x : Str} {u : Value} (h1 : ps[i]? = some x) (h2 : us[i]? = some u) : ((ps.zip us).reverse).lookup x = some u := by
  have hm : (x, u) ∈ (ps.zip us).reverse := by
    rw [List.mem_reverse]
    refine yAM (i := i) ?_
    rw [List.getElem?_zip_eq_some]
    exact ⟨h1, h2⟩
  have hnd : ((ps.zip us).reverse.map (·.1)).Nodup := by
    rw [List.map_reverse]
    exact List.pairwise_reverse.mpr (List.Pairwise.imp (fun h => Ne.symm h) (nd.sublist (zip_fst_sub ps us)))
  exact lookup_nodup hnd hm
section
variable {P : Program} {w : World} {K : W.Frag} {mg : Str -> Option Value} {base : Heap} {A : Around} {outer : List Env} {s : Shared} {H : Hp} {g : Addr} {iname iq : Str} {ip : Arguments} {ib : List Stmt} {isc : Scope} {N ps fr : List Str} {cs vs : List V} {us : List Value} {cl : List (Str × Addr)} {k : Nat}
theorem clo_call {Q : VK} (C : CloL H g iname iq ip ib isc fr cs cl) (S : CloScope N ps fr isc) (hr : Room (k + 1) A) (e0 : Env0 P w K mg base A outer s H) (hl : vs.length = ps.length) (r : Vals vs us)
    (hbind : ∀ (doc pm ctv : Value) (c' : Addr), bindArgs (PySem.W.fnX iname iq ip ib isc cl .none .none doc pm none (.ref c') ctv) ⟨us, []⟩ = pure (ps.zip us))
    (hbody : ∀ (cd : Value) (A' : Around), Room k A' -> ∃ t, PSs (ZEB P w K mg base N iq isc g cd cl A outer s (hid cl H)) ib t /\ t { nx := fun _ H' => NoC cl H' -> Q .non (back cl H H'), rt := fun v H' => NoC cl H' -> Q v (back cl H H') } (ZCL N vs cs) (hid cl H)) :
    codeAny (model P w) A (.call (.ref g) ⟨us, []⟩) (fun r s' => match r with | .ok (.ret u) => CE outer P w H s Q u s' | _ => False) s := by
  obtain ⟨doc, pm, ctv, c', hg, hc⟩ := C.obj
  have hget := ZDD e0.hok hg
  have lim : s.heap.NoLimit := e0.mod.nolimit.keeps fun b o e => (e0.bs b o e).1
  have hnd : ps.Nodup := by rw [<- S.pre]; exact S.nd.sublist (List.take_sublist _ _)
  refine codeAny_call_def (o := PySem.W.fnMade iname iq ip ib isc cl doc pm c' ctv) (fd := PySem.W.fnX iname iq ip ib isc cl .none .none doc pm none (.ref c') ctv) (body := ib) (binds := ps.zip us) hr.depth hget rfl lim (hc.rec e0.hok) rfl (.of_eq (hbind doc pm ctv c')) S.nocell (fun y hy => S.par _ (List.of_mem_zip hy).1) (fun h₁ hns hk₁ => ?_) S.co S.gen S.kind
  obtain ⟨t, ht, hq⟩ := hbody (.ref c') _ (hr.deeper (PySem.W.envX iq isc s.heap.objs.size g (.ref c') cl))
  have cellAt : ∀ x c, cl.lookup x = some c -> ∃ o u, H c = some (FZ o) /\ s.heap.get? c = some o /\ o.data = .cell u := fun x c h => by
    obtain ⟨u, o, e, d⟩ := C.cells x c h
    exact ⟨o, u, e, ZDD e0.hok e, d⟩
  have cfs : ∀ x c, cl.lookup x = some c -> c ∉ frs outer := fun x c h hb => by
    obtain ⟨o, u, e, _⟩ := cellAt x c h
    rw [e0.frf c hb] at e; cases e
  have hpl : ps.length <= N.length := by have := S.two; omega
  have I : Inv (ZEB P w K mg base N iq isc g (.ref c') cl A outer s (hid cl H)) [] (ZCL N vs cs) (hid cl H) { s with heap := h₁, toks := s.toks + (ps.zip us).length } := by
    refine ⟨⟨e0.mod, S.kind, rfl, rfl, yAB _, C.inj, fun x hx => ?_, fun y c h => absurd h (by simp [ZEB]), fun _ => hr.hd, Around.frames_deeper e0.frames, .inr ⟨rfl, rfl⟩, fun b z => absurd (show b ∈ ([] : List Addr) from z) (by simp), fun b o e => ?_, e0.bsz, fun b _ _ z => absurd (show b ∈ ([] : List Addr) from z) (by simp), fun b z => absurd (show b ∈ ([] : List Addr) from z) (by simp), e0.funs, fun b hb => ?_⟩,
      rfl, e0.bare, Un.kept hk₁, ⟨_, hns, fun i x v h1 h2 h3 => ?_⟩, fun x c h => ?_, ?_, fun x c h => ZDs h, fun p hp => absurd (show p ∈ ([] : List (Addr × Obj)) from hp) (by simp), ?_, ?_⟩
    . have hx : isc.names.lookup x = some .cell ∨ isc.names.lookup x = some .free := hx
      rcases hx with hx | hx
      . exact absurd rfl (S.nocell _ (PySem.mem_of_lookup hx))
      . obtain ⟨i, hi⟩ := yCG (S.only x hx)
        obtain ⟨v, c, u, o, _, h2, _⟩ := C.cell i x hi
        exact ⟨c, h2⟩
    . refine ⟨(e0.bs b o e).1, ?_⟩
      show hid cl H b = none
      by_cases q : ∃ x, cl.lookup x = some b
      . obtain ⟨x, q⟩ := q; exact ZDs q
      . rw [ZC6 q]; exact (e0.bs b o e).2
    . show hid cl H b = none
      rw [ZC6]
      . exact e0.frf b hb
      . rintro ⟨x, q⟩; exact cfs x b q hb
    . have h1 : N[i]? = some x := h1
      have hcl := C.len
      rcases startC_get (by rw [hl, hcl]; exact S.two) h2 with h4 | ⟨h4, h5⟩
      . obtain ⟨u, hu, rv⟩ := r.get h4
        have hi : i < vs.length := (yAJ.mp h4).1
        have hp : ps[i]? = some x := by rw [<- S.pre, List.getElem?_take_of_lt (by omega)]; exact h1
        exact ⟨u, rv, .inl ⟨S.par x (yAM hp), zip_lookup hnd hp hu⟩⟩
      . have hf : fr[i - (N.length - cs.length)]? = some x := by
          rw [<- S.suf, List.getElem?_drop, <- hcl, show N.length - cs.length + (i - (N.length - cs.length)) = i by omega]
          exact h1
        obtain ⟨v', c, u, o, a1, a2, a3, a4, a5⟩ := C.cell _ x hf
        rw [h5] at a1
        cases a1
        refine ⟨u, a3, .inr ⟨.inr (S.free x (yAM hf)), c, a2, o, hk₁ _ _ (ZDD e0.hok a4), a5⟩⟩
    . obtain ⟨o, u, e, e2, d⟩ := cellAt x c h
      exact ⟨u, o, hk₁ _ _ e2, d⟩
    . show hid cl H s.heap.objs.size = none
      have hn := e0.hok.fresh (yAB _)
      rw [ZC6]
      . exact hn
      . rintro ⟨x, q⟩
        obtain ⟨o, u, e, _⟩ := cellAt x _ q
        rw [hn] at e; cases e
    . intro b o e
      have e' := hid_le e
      refine (e0.hok b o e').stay (fun c v _ q => hk₁ c v q) (fun c q => ?_) fun c xs q => ?_
      . exact ZBV C.cells q (fun ob z => by cases z)
      . exact ZBV C.cells q (fun ob z => by cases z)
    . unfold ZCL
      show _ = N.length
      have := S.two
      have := C.len
      simp only [yAD, yAA, yBY]
      omega
  refine wpAny_mono (ht [] _ (ZCL N vs cs) (hid cl H) _ I hq) (fun fl s' hs => ?_) fun e s' hs => False.elim hs
  have fin : ∀ {σ' : St} {H' : Hp} {v : V} {u : Value}, Inv (ZEB P w K mg base N iq isc g (.ref c') cl A outer s (hid cl H)) [] σ' H' s' -> RelV v u -> (NoC cl H' -> Q v (back cl H H')) -> CE outer P w H s Q u s' :=
    fun {σ' H' v u} J rv q => by
      have un : Un (frs outer) [] (hid cl H) H' s.heap s'.heap := J.base
      have nex : ∀ b : Addr, b ∉ ([] : List Addr) := fun b => by simp
      have keepC : ∀ x c o, cl.lookup x = some c -> s.heap.get? c = some o -> s'.heap.get? c = some o := fun x c o h e => un.keep c o e (ZDs h) (cfs x c h) (nex c)
      have freeC : ∀ x c, cl.lookup x = some c -> H' c = none := fun x c h => by
        obtain ⟨o, u, e, e2, d⟩ := cellAt x c h
        exact un.free c o e2 (ZDs h) (nex c)
      refine ⟨v, back cl H H', J.os, J.bare, ⟨fun b o e n hb hx => ?_, fun b o e n hb hx => ?_, fun b o e n hx => ?_, un.there, fun b xs e => ?_, fun b o u' e => ?_, fun b ps' e => ?_⟩, fun b o e => ?_, rv, q freeC⟩
      . refine un.keep b o e ?_ hb hx
        by_cases q : ∃ x, cl.lookup x = some b
        . obtain ⟨x, q⟩ := q; exact ZDs q
        . rw [ZC6 q]; exact n
      . refine un.slot b o e ?_ hb hx
        by_cases q : ∃ x, cl.lookup x = some b
        . obtain ⟨x, q⟩ := q; exact ZDs q
        . rw [ZC6 q]; exact n
      . have nc : ¬ ∃ x, cl.lookup x = some b := by
          rintro ⟨x, q⟩
          obtain ⟨o, u, e, _⟩ := cellAt x b q
          rw [n] at e; cases e
        rw [ZBv nc]
        exact un.free b o e (by rw [ZC6 nc]; exact n) hx
      . have e2 := un.tups b xs (ZBV C.cells e (fun ob z => by cases z))
        rw [ZBv]
        . exact e2
        . rintro ⟨x, q⟩; rw [freeC x b q] at e2; cases e2
      . by_cases q : ∃ x, cl.lookup x = some b
        . obtain ⟨x, q⟩ := q; rw [ZDE q]; exact e
        . rw [ZBv q]; exact un.frzs b o u' (by rw [ZC6 q]; exact e)
      . obtain ⟨more, e2⟩ := un.tbls b ps' (ZBV C.cells e (fun ob z => by cases z))
        refine ⟨more, ?_⟩
        rw [ZBv]
        . exact e2
        . rintro ⟨x, q⟩; rw [freeC x b q] at e2; cases e2
      . have up : ∀ c oc, H' c = some oc -> back cl H H' c = some oc := fun c oc q => by
          rw [ZBv]
          . exact q
          . rintro ⟨x, z⟩; rw [freeC x c z] at q; cases q
        by_cases q : ∃ x, cl.lookup x = some b
        . obtain ⟨x, q⟩ := q
          rw [ZDE q] at e
          obtain ⟨o2, u2, e2, e3, d⟩ := cellAt x b q
          rw [e] at e2
          cases e2
          exact ZEV (keepC x b _ q e3)
        . rw [ZBv q] at e
          exact (J.hok b o e).stay (fun c v _ q => q) (fun c q => up c _ q) fun c xs q => up c _ q
  cases fl with
  | ret u =>
    obtain ⟨v, σ', H', J, rv, q⟩ := hs
    exact fin J rv q
  | next =>
    obtain ⟨σ', H', J, q⟩ := hs
    exact fin (v := V.non) (u := Value.none) J rfl q
  | brk =>
    obtain ⟨_, _, _, q⟩ := hs
    exact False.elim q
  | cont =>
    obtain ⟨_, _, _, q⟩ := hs
    exact False.elim q
end
def ZEH (r : V -> List V -> Hp -> VK -> Prop) (ta : TE) (t : TA) : TE := fun σ H Q => ta σ H fun f H1 => (∃ g o, f = .ref g /\ H1 g = some (FZ o) /\ ∃ fd, o.data = .func fd) /\ t σ H1 fun vs H2 => r f vs H2 Q
def CloR (X : Cx) (r : V -> List V -> Hp -> VK -> Prop) : Prop :=
  ∀ (pins : List (Addr × Obj)) (s : Shared) (σ : St) (H : Hp) (f : Addr) (vs : List V) (us : List Value) (Q : VK), Inv X pins σ H s -> Vals vs us -> r (.ref f) vs H Q ->
    PySem.W.FnAt f s.heap /\ wpAny (model X.prog X.w) X.A (call (.ref f) us) (EP X pins σ Q) X.xe s
theorem fnAt_of {h : Heap} {g : Addr} {o : Obj} {fd : FuncData} (e : h.get? g = some o) (d : o.data = .func fd) : PySem.W.FnAt g h := by
  obtain ⟨oc, od, dt, sl⟩ := o
  have d' : dt = .func fd := d
  subst d'
  exact ⟨oc, od, fd, sl, e⟩
theorem pe_callV {X : Cx} {x : Str} {p pos : Pos} {e : Expr} {es : List Expr} {ta : TE} {t : TA} {r : V -> List V -> Hp -> VK -> Prop} (hc : CloR X r) (hx : PE X (.Name x p) ta) (ha : PA X (e :: es) t)
    (he : starEach (e :: es) X.env = (false, eval e X.env) :: starEach es X.env := by rfl) (hpl : (backTo pos (starEach es X.env)).any (·.1) = false := by rfl) : PE X (.Call (.Name x p) (e :: es) [] pos) (ZEH r ta t) := by
  intro pins s σ H Q I h
  refine wpAny_Call_Name_kw (thn (hx pins s σ H _ I h) fun v s1 ⟨f, H1, I1, rf, ⟨g, o, eg, hg, fd, hd⟩, q⟩ => ?_)
  subst eg
  cases rf
  refine PySem.W.callWith_F (fnAt_of (ZDD I1.hok hg) hd) (thn (ha pos pins s1 σ H1 _ I1 q) fun us s2 ⟨vs, H2, I2, r2, q2⟩ => ?_) he hpl
  exact hc pins s2 σ H2 g vs us Q I2 r2 q2
structure CloOk (P : Program) (w : World) (K : W.Frag) (mg : Str -> Option Value) (base : Heap) (k : Nat) (r : V -> List V -> Hp -> VK -> Prop) : Prop where
  run : ∀ (A : Around) (outer : List Env) (s : Shared) (H : Hp) (f : Addr) (vs : List V) (us : List Value) (Q : VK), Room k A -> Env0 P w K mg base A outer s H -> Vals vs us -> r (.ref f) vs H Q ->
    PySem.W.FnAt f s.heap /\ codeAny (model P w) A (.call (.ref f) ⟨us, []⟩) (fun r s' => match r with | .ok (.ret u) => CE outer P w H s Q u s' | _ => False) s
theorem CloOk.at {X : Cx} {k : Nat} {r : V -> List V -> Hp -> VK -> Prop} (C : CloOk X.prog X.w X.K X.mg X.base k r) (hr : Room k X.A) : CloR X r := by
  intro pins s σ H f vs us Q I rv h
  obtain ⟨h1, h2⟩ := C.run X.A X.stack s H f vs us Q hr I.env0 rv h
  refine ⟨h1, wpAny_call (codeAny_mono h2 fun r s' hq => ?_)⟩
  cases r with
  | error e => exact False.elim hq
  | ok fl =>
    cases fl with
    | ret u => exact I.after hq
    | next => exact False.elim hq
    | brk => exact False.elim hq
    | cont => exact False.elim hq
theorem Clo.fnAt {P : Program} {w : World} {H : Hp} {h : Heap} {g : Addr} {iname iq : Str} {ip : Arguments} {ib : List Stmt} {isc : Scope} {fr : List Str} {cs : List V} {cl : List (Str × Addr)} (x : HOk P w H h) (C : CloL H g iname iq ip ib isc fr cs cl) : PySem.W.FnAt g h := by
  obtain ⟨doc, pm, ctv, c', e, _⟩ := C.obj
  exact fnAt_of (ZDD x e) rfl
theorem clo_of {P : Program} {w : World} {K : W.Frag} {mg : Str -> Option Value} {base : Heap} {iname iq : Str} {ip : Arguments} {ib : List Stmt} {isc : Scope} {N ps fr : List Str} {k : Nat} {r : V -> List V -> Hp -> VK -> Prop} (S : CloScope N ps fr isc)
    (hcl : ∀ f vs H Q, r f vs H Q -> ∃ g cs, f = .ref g /\ Clo H g iname iq ip ib isc fr cs) (len : ∀ f vs H Q, r f vs H Q -> vs.length = ps.length)
    (hbind : ∀ (cl : List (Str × Addr)) (doc pm ctv : Value) (c' : Addr) (us : List Value), us.length = ps.length -> bindArgs (PySem.W.fnX iname iq ip ib isc cl .none .none doc pm none (.ref c') ctv) ⟨us, []⟩ = pure (ps.zip us))
    (hbody : ∀ (g : Addr) (cs : List V) (cl : List (Str × Addr)) (cd : Value) (A : Around) (outer : List Env) (s : Shared) (H : Hp) (vs : List V) (Q : VK), Room k (A.deeper (PySem.W.envX iq isc s.heap.objs.size g cd cl)) -> CloL H g iname iq ip ib isc fr cs cl -> r (.ref g) vs H Q ->
      ∃ t, PSs (ZEB P w K mg base N iq isc g cd cl A outer s (hid cl H)) ib t /\ t { nx := fun _ H' => NoC cl H' -> Q .non (back cl H H'), rt := fun v H' => NoC cl H' -> Q v (back cl H H') } (ZCL N vs cs) (hid cl H)) : CloOk P w K mg base (k + 1) r := by
  refine ⟨fun A outer s H f vs us Q hr e0 rv h => ?_⟩
  obtain ⟨g, cs, eg, cl, C⟩ := hcl _ _ _ _ h
  cases eg
  have hl := len _ _ _ _ h
  refine ⟨Clo.fnAt e0.hok C, clo_call (k := k) C S hr e0 hl rv (fun doc pm ctv c' => hbind cl doc pm ctv c' us (by rw [<- rv.length]; exact hl)) fun cd A' hr' => ?_⟩
  exact hbody f cs cl cd A outer s H vs Q (hr.deeper _) C h
theorem NoC.ne {cl : List (Str × Addr)} {H : Hp} {b : Addr} {o : HO} (n : NoC cl H) (h : H b = some o) : ¬ ∃ x, cl.lookup x = some b := fun ⟨x, e⟩ => by rw [n x b e] at h; cases h
def TabSt (H : Hp) (Pt : Addr) (pos : Pos) (iq : Str) : Prop := H Pt = some (.tbl #[]) ∨ ∃ c', H Pt = some (.tbl #[rawInt pos.line, rawInt pos.col, .ref c']) /\ CodeAt H c' iq
theorem TabSt.mono {H H' : Hp} {Pt : Addr} {pos : Pos} {iq : Str} (e : H' Pt = H Pt) (f : ZDc H H') (k : TabSt H Pt pos iq) : TabSt H' Pt pos iq := by
  rcases k with k | ⟨c', k, q⟩
  . exact .inl (e.trans k)
  . exact .inr ⟨c', e.trans k, q.mono f⟩
def ZDd (mg : Str -> Option Value) (h : Heap) : Prop := ∃ bm ob, mg "__builtins__" = some (.ref bm) /\ bm ≠ builtinsNs /\ h.get? bm = some ob /\ ob.cls = .type "module" /\ ob.dict = some builtinsNs /\ ob.data = .plain
structure MadeDef (H H' : Hp) (Pt : Addr) (pos : Pos) (g : Addr) (iname iq : Str) (ip : Arguments) (ib : List Stmt) (isc : Scope) (fr : List Str) (cs : List V) : Prop where
  same : ∀ b o, b ≠ Pt -> H b = some o -> H' b = some o
  tab : TabSt H' Pt pos iq
  clo : Clo H' g iname iq ip ib isc fr cs
  fresh : H g = none
section
variable {X : Cx} {pins : List (Addr × Obj)} {σ : St} {H : Hp} {s : Shared}
structure MadeMid (H H' : Hp) (Pt : Addr) (pos : Pos) (g : Addr) (iname iq : Str) (ip : Arguments) (ib : List Stmt) (isc : Scope) (cl : List (Str × Addr)) : Prop where
  same : ∀ b o, b ≠ Pt -> H b = some o -> H' b = some o
  tab : TabSt H' Pt pos iq
  obj : ∃ (doc pm ctv : Value) (c' : Addr), H' g = some (FZ (PySem.W.fnMade iname iq ip ib isc cl doc pm c' ctv)) /\ CodeAt H' c' iq
  fresh : H g = none
theorem Inv.made3 (I : Inv X pins σ H s) {Pt c' : Addr} {ps more : Array Value} {h' : Heap} {oc fo : Obj} {tk : Nat} (hP : H Pt = some (.tbl ps)) (hx : Heap.ExtBut Pt s.heap h') (hge : s.heap.objs.size <= c') (hlt : c' < h'.objs.size) (hoc : h'.get? c' = some oc)
    (hPt : h'.get? Pt = some (PySem.W.tabObj (ps ++ more))) (hfo : fo.isFreed = false) : Inv X pins σ (upd (upd (upd H Pt (.tbl (ps ++ more))) c' (FZ oc)) h'.objs.size (FZ fo)) { s with heap := h'.push fo, toks := tk } := by
  have gn : ∀ b o, s.heap.get? b = some o -> b ≠ h'.objs.size /\ b ≠ c' := fun b o e => by
    have l := Heap.lt_size e
    exact ⟨yAL (Nat.lt_trans (yAW l hge) hlt), yAL (yAW l hge)⟩
  have gt : ∀ b o, H b = some o -> b ≠ h'.objs.size /\ b ≠ c' := fun b o e => by
    have l := I.hok.lt e
    exact ⟨yAL (Nat.lt_trans (yAW l hge) hlt), yAL (yAW l hge)⟩
  have np : ∀ b, H b = none -> b ≠ Pt := fun b n z => by rw [z, hP] at n; cases n
  have cg : c' ≠ h'.objs.size := yAL hlt
  have old : ∀ b o, b ≠ Pt -> H b = some o -> upd (upd (upd H Pt (.tbl (ps ++ more))) c' (FZ oc)) h'.objs.size (FZ fo) b = some o := fun b o n e => by
    rw [ZAI (gt b o e).1, ZAI (gt b o e).2, ZAI n]; exact e
  have atP : upd (upd (upd H Pt (.tbl (ps ++ more))) c' (FZ oc)) h'.objs.size (FZ fo) Pt = some (.tbl (ps ++ more)) := by
    rw [ZAI (gt Pt _ hP).1, ZAI (gt Pt _ hP).2, ZAG]
  refine I.un (h' := h'.push fo) (t' := tk) ⟨fun b o e n _ _ => ?_, fun b o e n _ _ => ?_, fun b o e n _ => ?_, fun b o e _ => ?_, fun b xs e => ?_, fun b o u e => ?_, fun b qs e => ?_⟩ fun b o e => ?_
  . exact Heap.get?_push_of_some _ (hx b o (np b n) e)
  . exact ⟨o.slots, Heap.get?_push_of_some _ (hx b o (np b n) e)⟩
  . rw [ZAI (gn b o e).1, ZAI (gn b o e).2, ZAI (np b n)]; exact n
  . by_cases q : b = Pt
    . subst q; exact ⟨_, Heap.get?_push_of_some _ hPt⟩
    . exact ⟨o, Heap.get?_push_of_some _ (hx b o q e)⟩
  . exact old b _ (fun z => by rw [z, hP] at e; cases e) e
  . exact old b _ (fun z => by rw [z, hP] at e; cases e) e
  . by_cases q : b = Pt
    . subst q
      rw [hP] at e
      cases e
      exact ⟨more, atP⟩
    . exact ⟨#[], by rw [old b _ q e]; simp⟩
  . by_cases q1 : b = h'.objs.size
    . subst q1; rw [ZAG] at e; cases e; exact ZEV (Heap.get?_push_size _ hfo)
    . rw [ZAI q1] at e
      by_cases q2 : b = c'
      . subst q2; rw [ZAG] at e; cases e; exact ZEV (Heap.get?_push_of_some _ hoc)
      . rw [ZAI q2] at e
        by_cases q3 : b = Pt
        . subst q3; rw [ZAG] at e; cases e; exact Heap.get?_push_of_some _ hPt
        . rw [ZAI q3] at e
          refine (I.hok b o e).stay (fun c u hc q => ?_) (fun c q => ?_) fun c xs q => ?_
          . refine Heap.get?_push_of_some _ (hx c u ?_ q)
            rcases hc with z | z
            . rw [z]; exact q3
            . intro z2; rw [z2, hP] at z; cases z
          . exact old c _ (fun z => by rw [z, hP] at q; cases q) q
          . exact old c _ (fun z => by rw [z, hP] at q; cases q) q
theorem Inv.made1 (I : Inv X pins σ H s) {h' : Heap} {fo : Obj} {tk : Nat} (hk : ∀ b o, s.heap.get? b = some o -> h'.get? b = some o) (hsz : s.heap.objs.size <= h'.objs.size) (hfo : fo.isFreed = false) : Inv X pins σ (upd H h'.objs.size (FZ fo)) { s with heap := h'.push fo, toks := tk } :=
  I.laid (fun b u q => Heap.get?_push_of_some _ (hk b u q)) hsz (ZEV (Heap.get?_push_size _ hfo))
def tDef (i : Nat) (Pt : Addr) (pos : Pos) (iname iq : Str) (ip : Arguments) (ib : List Stmt) (isc : Scope) (cl : List (Str × Addr)) : TS := fun D σ H => TabSt H Pt pos iq /\ ∀ g H', MadeMid H H' Pt pos g iname iq ip ib isc cl -> D.nx (σ.set i (some (.ref g))) H'
theorem ps_def {i : Nat} {Pt c : Addr} {pos : Pos} {iname iq : Str} {ip : Arguments} {ib : List Stmt} {isc : Scope} (hN : X.N.Nodup) (hi : X.N[i]? = some iname) (hx : Loc X.env.scope iname) (hf : X.fn iname = true ∨ X.env.scope.names.lookup iname = some .local)
    (hcode : X.env.code = .ref c) (C : PySem.W.CodeHd X.base c Pt) (B : ZDd X.mg X.base) (hq : qualnameIn X.env iname iname = iq) (hd0 : ip.defaults = []) (hk0 : ip.kw_defaults = []) (ha : annTrees ip none X.env = [])
    (hfr : ∀ x, (x, NameKind.free) ∈ isc.names -> ∃ c, X.env.cells.lookup x = some c) :
    PS X (.FunctionDef iname ip ib [] none [] isc none iname pos) (tDef i Pt pos iname iq ip ib isc (closFrom X.env.cells isc.names [])) := by
  intro pins s σ H D I h
  obtain ⟨ht, h⟩ := h
  refine PySem.W.nestDef_K hd0 hk0 ha ?_
  rw [hq]
  have hgs := I.ok.mod.glob.keeps I.bk
  have hC := C.keeps I.bk
  have hcl := closureFor_eq (scope := isc) (env := X.env) hfr
  obtain ⟨bm, ob, b1, b2, b3, b4, b5, b6⟩ := B
  have hbG : bm ≠ mainGlobals := fun q => by
    obtain ⟨o, es, ep, e, hd, _⟩ := I.ok.mod.glob
    rw [q, e] at b3; cases b3; rw [hd] at b6; cases b6
  have apart : ∀ {qs : Array Value}, s.heap.get? Pt = some (PySem.W.tabObj qs) -> mainGlobals ≠ Pt /\ s.heap.BuiltinsAt X.mg Pt := fun {qs} hm => by
    refine ⟨fun q => ?_, bm, ob, b1, b2, hbG, fun q => ?_, I.bk _ _ b3, b4, b5, b6⟩
    . obtain ⟨o, es, ep, e, hd, _⟩ := hgs
      rw [q, hm] at e; cases e; cases hd
    . have e := I.bk _ _ b3
      rw [q, hm] at e; cases e; cases b4
  have fin : ∀ {g : Addr} {H' : Hp} {s' : Shared}, Inv X pins σ H' s' -> MadeMid H H' Pt pos g iname iq ip ib isc (closFrom X.env.cells isc.names []) ->
      wpAny (model X.prog X.w) X.A (storeName X.env iname (.ref g)) (fun _ s'' => SP X pins D .next s'') X.xe s' := fun {g H' s'} J M =>
    ZCf J hN hi hx (v := .ref g) rfl (fun s'' J' => ⟨_, H', J', h g H' M⟩) hf
  rcases ht with ht | ⟨c1, ht, hc1⟩
  . have hP : s.heap.get? Pt = some (PySem.W.tabObj #[]) := I.hok Pt _ ht
    obtain ⟨a1, a2⟩ := apart hP
    refine PySem.W.makeFunction_K hcl I.ok.glob hgs hcode hC hP trivial rfl a1 a2 fun c' ctv doc h' tk hx2 hge hlt hrec htb => ?_
    obtain ⟨c2, oc, vs, t, e2, hoc, hd, hv⟩ := hrec
    cases e2
    have J := I.made3 (tk := tk) (fo := PySem.W.fnMade iname iq ip ib isc (closFrom X.env.cells isc.names []) doc ((X.mg "__name__").getD .none) c' ctv) ht hx2 hge hlt hoc htb rfl
    have gt : ∀ b o, H b = some o -> b ≠ h'.objs.size /\ b ≠ c' := fun b o e => by
      have l := I.hok.lt e
      exact ⟨yAL (Nat.lt_trans (yAW l hge) hlt), yAL (yAW l hge)⟩
    have hcc : CodeAt (upd (upd (upd H Pt (.tbl (#[] ++ #[rawInt pos.line, rawInt pos.col, .ref c']))) c' (FZ oc)) h'.objs.size (FZ (PySem.W.fnMade iname iq ip ib isc (closFrom X.env.cells isc.names []) doc ((X.mg "__name__").getD .none) c' ctv))) c' iq :=
      ⟨oc, vs, t, by rw [ZAI (yAL hlt), ZAG], hd, hv⟩
    refine fin J ⟨fun b o n e => ?_, .inr ⟨c', ?_, hcc⟩, ⟨doc, _, ctv, c', ZAG, hcc⟩, ?_⟩
    . rw [ZAI (gt b o e).1, ZAI (gt b o e).2, ZAI n]; exact e
    . rw [ZAI (gt Pt _ ht).1, ZAI (gt Pt _ ht).2, ZAG]; rfl
    . exact I.hok.fresh (yAE hge (yBW hlt))
  . have hP : s.heap.get? Pt = some (PySem.W.tabObj #[rawInt pos.line, rawInt pos.col, .ref c1]) := I.hok Pt _ ht
    obtain ⟨a1, a2⟩ := apart hP
    refine PySem.W.makeFunction_hit (cv := .ref c1) hcl I.ok.glob hgs hcode hC hP trivial ?_ a2 fun ctv doc h' tk hk hsz => ?_
    . simp [codeAmong, rawInt]
    have J := I.made1 (tk := tk) (fo := PySem.W.fnMade iname iq ip ib isc (closFrom X.env.cells isc.names []) doc ((X.mg "__name__").getD .none) c1 ctv) hk hsz rfl
    have gt : ∀ b o, H b = some o -> b ≠ h'.objs.size := fun b o e => yAL (yAW (I.hok.lt e) hsz)
    have old : ∀ b o, H b = some o -> upd H h'.objs.size (FZ (PySem.W.fnMade iname iq ip ib isc (closFrom X.env.cells isc.names []) doc ((X.mg "__name__").getD .none) c1 ctv)) b = some o := fun b o e => by rw [ZAI (gt b o e)]; exact e
    have hcc := hc1.mono (H' := upd H h'.objs.size (FZ (PySem.W.fnMade iname iq ip ib isc (closFrom X.env.cells isc.names []) doc ((X.mg "__name__").getD .none) c1 ctv))) fun b o e => old b _ e
    exact fin J ⟨fun b o _ e => old b o e, .inr ⟨c1, old _ _ ht, hcc⟩, ⟨doc, _, ctv, c1, ZAG, hcc⟩, I.hok.fresh hsz⟩
end
def ZDy (Pt : Addr) (pos : Pos) (iname iq : Str) (ip : Arguments) (ib : List Stmt) (isc : Scope) (fr : List Str) (ix : List Nat) (n : Nat) : Sp := fun vs H Q _ =>
  vs.length = n /\ TabSt H Pt pos iq /\ ∀ g H', MadeDef H H' Pt pos g iname iq ip ib isc fr (ix.map fun i => vs.getD i .non) -> Q (.ref g) H'
theorem teller_ok {P : Program} {w : World} {K : W.Frag} {mg : Str -> Option Value} {base : Heap} {x qual : Str} {st : Stmt} {f c Pt : Addr} {fd : FuncData} {ps : List Str} {iname iq : Str} {ip : Arguments} {ib : List Stmt} {isc : Scope} {pos rp rpos : Pos} {fr : List Str} {ix : List Nat}
    (F : Fun K x qual st f fd) (S : FnScope (ps ++ [iname]) ps (ZAC st)) (hcd : fd.code = .ref c) (C : PySem.W.CodeHd base c Pt) (B : ZDd mg base)
    (hb : ZAL st = [.FunctionDef iname ip ib [] none [] isc none iname pos, .Return (some (.Name iname rp)) rpos]) (hiq : ∀ L cd, qualnameIn (envOfC qual (ZAC st) L f cd) iname iname = iq) (hd0 : ip.defaults = []) (hk0 : ip.kw_defaults = []) (ha : ∀ L cd, annTrees ip none (envOfC qual (ZAC st) L f cd) = [])
    (hloc : (ZAC st).names.lookup iname = some .local) (hdb : (iname == ("__debug__" : Str)) = false) (hcdn : (iname == ("__classdict__" : Str)) = false)
    (hfree : ∀ y ∈ isc.names, y.2 = .free -> y.1 ∈ fr) (hhas : ∀ y ∈ fr, (y, NameKind.free) ∈ isc.names) (hfc : ∀ y ∈ fr, (ZAC st).names.lookup y = some .cell) (hix : ∀ (j : Nat) (y : Str), fr[j]? = some y -> ∃ i, ix[j]? = some i /\ ps[i]? = some y) (hixl : ix.length = fr.length) :
    FnOk P w K mg base CX0 1 f fd ps (ZDy Pt pos iname iq ip ib isc fr ix ps.length) := by
  obtain ⟨oc, od, kV, doc, pm, an, cdv, ct, osl, rfl, lk, hcd2⟩ := F.ex
  have hcd' : cdv = .ref c := hcd
  refine ⟨fun vs H Q E h => h.1, fun A outer s H args us vs Q E hr e0 hbn r hsp => ?_⟩
  obtain ⟨hl, hT, hQ⟩ := hsp
  have KX : K.In s.heap := e0.mod.kin.keeps fun b o e => (e0.bs b o e).1
  have lim : s.heap.NoLimit := e0.mod.nolimit.keeps fun b o e => (e0.bs b o e).1
  have hkind : ∀ y ∈ ps.zip us, (ZAC st).names.lookup y.1 = some .local ∨ ((ZAC st).names.lookup y.1 = some .cell /\ ((cellsFrom (s.heap.objs.size + 1) (ZAC st).names []).lookup y.1).isSome = true) := fun ⟨n, v⟩ hy => by
    rcases S.par n (List.of_mem_zip hy).1 with q | q
    . exact .inl q
    . exact .inr ⟨q, PySem.W.cellsFrom_some _ _ _ (.inl q)⟩
  refine codeAny_call_function hr.depth (KX _ _ lk) rfl S.co S.gen rfl (PySem.W.codeRec_of KX hcd2) (hbn _ _ _ _ ?_)
  refine wpAny_newFunctionEnv_cells S.kind hkind fun env he s1 xx => ?_
  subst he
  refine ⟨lim.keeps xx.toInCall.keep, codeAny_func ?_⟩
  have I : Inv (cxOf CX0 P w K mg base (ps ++ [iname]) qual (ZAC st) f cdv A outer s H E).nox [] (start (ps ++ [iname]) vs) H s1 := (inv_start S hr.hd e0 hl r xx).wish _
  have cellHas : ∀ y ∈ fr, ∃ cc, (cellsFrom (s.heap.objs.size + 1) (ZAC st).names []).lookup y = some cc := fun y hy => ZCk (hfc y hy)
  rw [hb]
  have hiN : (ps ++ [iname])[ps.length]? = some iname := by simp
  have d1 := ps_def (X := (cxOf CX0 P w K mg base (ps ++ [iname]) qual (ZAC st) f cdv A outer s H E).nox) (i := ps.length) (pos := pos) (Pt := Pt) (c := c) (iq := iq) (ip := ip) (ib := ib) (isc := isc) S.nd hiN (.inl hloc) (.inr hloc) hcd' C B (hiq _ _) hd0 hk0 (ha _ _) fun y hy => cellHas y (hfree _ hy rfl)
  have hlen : (start (ps ++ [iname]) vs).length = ps.length + 1 := by
    unfold start
    simp only [yAD, yAA, yBY, yAR, yCH]
    omega
  have run := d1 [] s1 (start (ps ++ [iname]) vs) H { nx := fun σ' H' => ∃ g, σ' = (start (ps ++ [iname]) vs).set ps.length (some (.ref g)) /\ MadeMid H H' Pt pos g iname iq ip ib isc (closFrom (cellsFrom (s.heap.objs.size + 1) (ZAC st).names []) isc.names []), rt := fun _ _ => False } I ⟨hT, fun g H' M => ⟨g, rfl, M⟩⟩
  refine wpAny_execs_cons (wpAny_mono run (fun fl s2 q => ?_) fun e s' z => z.elim)
  cases fl with
  | ret v => obtain ⟨_, _, _, _, _, q⟩ := q; exact q.elim
  | brk => obtain ⟨_, _, _, q⟩ := q; exact q.elim
  | cont => obtain ⟨_, _, _, q⟩ := q; exact q.elim
  | next =>
    obtain ⟨σ', H', J, g, rfl, M⟩ := q
    have v1 := pe_var (pos := rp) (X := (cxOf CX0 P w K mg base (ps ++ [iname]) qual (ZAC st) f cdv A outer s H E).nox) hiN (.inl hloc) hdb hcdn [] s2 _ H' (fun v H2 => v = .ref g /\ H2 = H') J ⟨.ref g, by rw [List.getElem?_set_self (by rw [hlen]; omega)], rfl, rfl⟩
    refine wpAny_execs_cons (wpAny_Return_some (wpAny_mono v1 (fun u s3 q => ?_) fun e s' z => z.elim))
    obtain ⟨v, H2, J2, rv, rfl, rfl⟩ := q
    cases rv
    -- the cells are tracked
    have un : Un (frs outer) [] H H2 s.heap s3.heap := J2.base
    have nex : ∀ b : Addr, b ∉ ([] : List Addr) := fun b => by simp
    have inj := J2.ok.inj
    have cAt : ∀ (j : Nat) (y : Str), fr[j]? = some y -> ∃ v cc uu, (ix.map fun i => vs.getD i .non)[j]? = some v /\ (cellsFrom (s.heap.objs.size + 1) (ZAC st).names []).lookup y = some cc /\ RelV v uu /\ s3.heap.IsCell cc (some uu) := fun j y hj => by
      obtain ⟨i, h1, h2⟩ := hix j y hj
      have hi : i < ps.length := (yAJ.mp h2).1
      obtain ⟨v, hv⟩ : ∃ v, vs[i]? = some v := ⟨_, yAC (by omega)⟩
      obtain ⟨m, _, hm⟩ := J2.loc
      have hs : ((start (ps ++ [iname]) vs).set ps.length (some (.ref g)))[i]? = some (some v) := by
        rw [List.getElem?_set_ne (by omega)]
        unfold start
        rw [yAV (by rw [yAA]; omega), yAG, hv]
        rfl
      have hN : (ps ++ [iname])[i]? = some y := by rw [yAV hi]; exact h2
      obtain ⟨uu, ru, lk2⟩ := hm i y v hN hs (.inr (.inl (hfc y (yAM hj))))
      refine ⟨v, ?_⟩
      rcases lk2 with ⟨k1, _⟩ | ⟨_, cc, e1, e2⟩
      . have k2 : (ZAC st).names.lookup y = some .local := k1
        rw [hfc y (yAM hj)] at k2
        cases k2
      . refine ⟨cc, uu, ?_, e1, ru, e2⟩
        rw [yAG, h1]
        show some (vs.getD i .non) = some v
        rw [yBL, hv]
        rfl
    have clk : ∀ y cc, (closFrom (cellsFrom (s.heap.objs.size + 1) (ZAC st).names []) isc.names []).lookup y = some cc -> y ∈ fr /\ (cellsFrom (s.heap.objs.size + 1) (ZAC st).names []).lookup y = some cc := fun y cc h => by
      rcases ZBW _ _ y cc (PySem.mem_of_lookup h) with z | ⟨z1, z2⟩
      . cases z
      . have hy := hfree _ z1 rfl
        obtain ⟨c3, h3⟩ := cellHas y hy
        rw [h3] at z2
        exact ⟨hy, by rw [h3]; exact congrArg some z2.symm⟩
    have clh : ∀ y cc, y ∈ fr -> (cellsFrom (s.heap.objs.size + 1) (ZAC st).names []).lookup y = some cc -> (closFrom (cellsFrom (s.heap.objs.size + 1) (ZAC st).names []) isc.names []).lookup y = some cc := fun y cc hy h => by
      obtain ⟨c3, h3⟩ := ZBN (ZBX (cells := cellsFrom (s.heap.objs.size + 1) (ZAC st).names []) isc.names [] y (hhas y hy))
      have := (clk y c3 h3).2
      rw [h] at this
      rw [h3, Option.some.inj this]
    have cnew : ∀ y cc, (closFrom (cellsFrom (s.heap.objs.size + 1) (ZAC st).names []) isc.names []).lookup y = some cc -> s.heap.objs.size <= cc /\ H2 cc = none /\ ∃ o u, s3.heap.get? cc = some o /\ o.data = .cell u := fun y cc h => by
      obtain ⟨hy, h2⟩ := clk y cc h
      obtain ⟨u, o, e1, e2⟩ := J2.cell y cc h2
      exact ⟨yBW (xx.above y cc (PySem.mem_of_lookup h2)), J2.freeC y cc h2, o, u, e1, e2⟩
    generalize closFrom (cellsFrom (s.heap.objs.size + 1) (ZAC st).names []) isc.names [] = cl at M clk clh cnew
    have tr : ∀ b, ¬ (∃ y, cl.lookup y = some b) -> back cl (fun b => (s3.heap.get? b).map FZ) H2 b = H2 b := fun b n => ZBv n
    have tc : ∀ y b o, cl.lookup y = some b -> s3.heap.get? b = some o -> back cl (fun b => (s3.heap.get? b).map FZ) H2 b = some (FZ o) := fun y b o h e => by rw [ZDE h, e]; rfl
    have oldn : ∀ b, b < s.heap.objs.size -> ¬ ∃ y, cl.lookup y = some b := fun b hb ⟨y, z⟩ => absurd (cnew y b z).1 (Nat.not_le.mpr hb)
    have up : ∀ b o, H2 b = some o -> back cl (fun b => (s3.heap.get? b).map FZ) H2 b = some o := fun b o e => by
      rw [tr b fun ⟨y, z⟩ => by rw [(cnew y b z).2.1] at e; cases e]; exact e
    refine ⟨.ref g, back cl (fun b => (s3.heap.get? b).map FZ) H2, J2.os, J2.bare, ⟨un.keep, un.slot, fun b o e n hx => ?_, un.there, fun b xs e => up _ _ (un.tups b xs e), fun b o u e => up _ _ (un.frzs b o u e), fun b qs e => ?_⟩, fun b o e => ?_, rfl, hQ g _ ⟨fun b o n e => up _ _ (M.same b o n e), ?_, ⟨cl, ?_, fun y cc h => (clk y cc h).1, fun y z cc h1 h2 => inj y z cc (clk y cc h1).2 (clk z cc h2).2, fun j y hj => ?_, ?_⟩, M.fresh⟩⟩
    . rw [tr b (oldn b (Heap.lt_size e))]; exact un.free b o e n hx
    . obtain ⟨more, e2⟩ := un.tbls b qs e
      exact ⟨more, up _ _ e2⟩
    . by_cases q : ∃ y, cl.lookup y = some b
      . obtain ⟨y, q⟩ := q
        obtain ⟨_, _, o2, u2, e2, _⟩ := cnew y b q
        rw [tc y b o2 q e2] at e
        cases e
        exact ZEV e2
      . rw [tr b q] at e
        exact (J2.hok b o e).stay (fun c v _ q => q) (fun c q => up c _ q) fun c xs q => up c _ q
    . exact M.tab.mono (by
        rcases M.tab with z | ⟨_, z, _⟩
        . rw [z]; exact up _ _ z
        . rw [z]; exact up _ _ z) fun b o e => up b _ e
    . obtain ⟨d1, d2, d3, c3, e1, e2⟩ := M.obj
      exact ⟨d1, d2, d3, c3, up _ _ e1, e2.mono fun b o e => up b _ e⟩
    . obtain ⟨v, cc, uu, a1, a2, a3, o, a4, a5⟩ := cAt j y hj
      have hl2 := clh y cc (yAM hj) a2
      exact ⟨v, cc, uu, o, a1, hl2, a3, tc y cc o hl2 a4, a5⟩
    . rw [yAA]; exact hixl
def ZE8 (tabs : List (Addr × Addr)) (H : Hp) : Prop := ∀ q ∈ tabs, H q.2 = some (.tbl #[])
theorem law_callT {P : Program} {w : World} {K : W.Frag} {mg mb : Str -> Option Value} {CX : CXT} {k : Nat} {fa a : Addr} {fd : FuncData} {x : Str} {sp : Sp} {s₁ : Shared} {vs : List Value} {ns : List Int} {tabs : List (Addr × Addr)}
    (KX : K.In s₁.heap) (hns : s₁.heap.Ns mainGlobals mg) (hb : s₁.heap.Ns builtinsNs mb) (hbb : ∀ x : Str, x ≠ "__name__" -> mb x = bootBuiltins x) (hlim : s₁.heap.NoLimit) (hg : s₁.gens = #[])
    (ha : s₁.heap.get? a = some { cls := .type "list", data := .seq vs.toArray }) (hi : IntsAre vs ns) (hl : ns.length <= sizeLine) (hr : Room k callerA)
    (hT : ∀ q ∈ tabs, PySem.W.CodeHd s₁.heap q.1 q.2 /\ s₁.heap.get? q.2 = some (PySem.W.tabObj #[])) (nt : PySem.W.noTabs K = true) (hbm : ZDd mg s₁.heap)
    (F : ∀ base : Heap, K.In base -> base.Ns mainGlobals mg -> (∀ q ∈ tabs, PySem.W.CodeHd base q.1 q.2) -> ZDd mg base -> FnOk P w K mg base CX k fa fd [x] sp) (hbind : ∀ (s : Shared) (u : Value), BindsTo s fd ⟨[u], []⟩ [(x, u)])
    (hsp : ∀ H : Hp, ZE8 tabs H -> SqL K H a (ns.map V.int) -> sp [.ref a] H (fun v _ => v = .bl true) fun _ _ _ => False)
    (hCX : ∀ H e s', CX [] H s₁ (fun _ _ _ => False) e s' -> False) :
    codeAny (model P w) callerA (.call (.ref fa) ⟨[.ref a], []⟩) (fun r s' => r = .ok (.ret (.bool true)) /\ OldK s₁.heap s'.heap /\ s'.os = s₁.os /\ AllBare s'.gens) s₁ := by
  have rv := ZCn hi
  have lenV := hi.length
  have core : ∀ H : Hp, SqL K H a (ns.map V.int) -> HOk P w H s₁.heap -> (∀ b o, H b = some o -> (b = a /\ K.lookup a = none /\ ∃ ob xs, o = .frz ob (.lst xs)) ∨ (o = .tbl #[] /\ ∃ q ∈ tabs, q.2 = b)) -> ZE8 tabs H ->
      codeAny (model P w) callerA (.call (.ref fa) ⟨[.ref a], []⟩) (fun r s' => r = .ok (.ret (.bool true)) /\ OldK s₁.heap s'.heap /\ s'.os = s₁.os /\ AllBare s'.gens) s₁ := by
    intro H hS hok hA hO
    have base_of : ∀ {b : Addr} {o : Obj}, s₁.heap.get? b = some o -> H b = none -> (hidT s₁.heap H).get? b = some o := fun e n => hidT_get e n
    have noObj : ∀ {b : Addr} {o : Obj}, s₁.heap.get? b = some o -> (∀ vs' n', o.data ≠ .seq vs' n') -> (o.cls = .none -> ∀ vs', o.data ≠ .fields vs') -> H b = none := fun {b o} e d1 d2 => by
      cases q : H b with
      | none => rfl
      | some u =>
        rcases hA b u q with ⟨e', _⟩ | ⟨_, q', hq, e'⟩
        . subst e'
          rw [ha] at e; cases e
          exact absurd rfl (d1 _ _)
        . subst e'
          rw [(hT q' hq).2] at e; cases e
          exact absurd rfl (d2 rfl _)
    have nsK : ∀ {b : Addr} {m : Str -> Option Value}, s₁.heap.Ns b m -> (hidT s₁.heap H).Ns b m := fun {b m} ⟨o, es, ep, e, d, r⟩ => ⟨o, es, ep, base_of e (noObj e (by rw [d]; intro _ _ z; cases z) (fun _ => by rw [d]; intro _ z; cases z)), d, r⟩
    have hKb : K.In (hidT s₁.heap H) := fun b o e => base_of (KX b o e) (by
      cases q : H b with
      | none => rfl
      | some u =>
        rcases hA b u q with ⟨e', n, _⟩ | ⟨_, q', hq, e'⟩
        . subst e'; rw [n] at e; cases e
        . subst e'
          have e2 := KX _ _ e
          rw [(hT q' hq).2] at e2
          cases e2
          have h2 := List.all_eq_true.mp nt _ (PySem.W.mem_of_lookupK e)
          exact absurd (show false = true from h2) yAX)
    have hM : Mod K mg (hidT s₁.heap H) := ⟨hKb, nsK hns, ⟨mb, nsK hb, hbb⟩, let ⟨mc, h1, h2⟩ := hlim; ⟨mc, nsK h1, h2⟩⟩
    have e0 : Env0 P w K mg (hidT s₁.heap H) callerA [] s₁ H := ⟨rfl, hM, fun b o e => of_hidT e, Nat.le_of_eq (hidT_size _ _), trivial, fun b hb => absurd (show b ∈ ([] : List Addr) from hb) (by simp), hok, .of_eq hg⟩
    have hC : ∀ q ∈ tabs, PySem.W.CodeHd (hidT s₁.heap H) q.1 q.2 := fun q hq => by
      obtain ⟨o, vs, file, tf, flags, tg, inF, text, tt, e1, e2, e3, r⟩ := (hT q hq).1
      exact ⟨o, vs, file, tf, flags, tg, inF, text, tt, base_of e1 (noObj e1 (by rw [e3]; intro _ _ z; cases z) (fun z => by rw [e2] at z; cases z)), e2, e3, r⟩
    have hB : ZDd mg (hidT s₁.heap H) := by
      obtain ⟨bm, ob, b1, b2, b3, b4, b5, b6⟩ := hbm
      exact ⟨bm, ob, b1, b2, base_of b3 (noObj b3 (by rw [b6]; intro _ _ z; cases z) (fun z => by rw [b4] at z; cases z)), b4, b5, b6⟩
    refine codeAny_mono ((F _ hKb (nsK hns) hC hB).run callerA [] s₁ H ⟨[.ref a], []⟩ [.ref a] [.ref a] _ _ hr e0 (hbind s₁ (.ref a)) (.cons rfl .nil) (hsp H hO hS)) fun r s' h => ?_
    cases r with
    | error e => exact (hCX H e s' h).elim
    | ok fl =>
      cases fl with
      | next => exact False.elim h
      | brk => exact False.elim h
      | cont => exact False.elim h
      | ret u =>
        obtain ⟨v, H', os, bare, un, hok', r', q⟩ := h
        have q' : v = .bl true := q
        subst q'
        obtain rfl : u = Value.bool true := r'
        have nfs : ∀ b : Addr, b ∉ frs ([] : List Env) := fun b z => absurd (show b ∈ ([] : List Addr) from z) (by simp)
        refine ⟨rfl, ⟨fun b o e => ?_, fun b o e => un.there b o e (by simp)⟩, os, bare⟩
        cases q : H b with
        | none => exact .inl (un.keep b o e q (nfs b) (by simp))
        | some u =>
          rcases hA b u q with ⟨_, _, ob, xs, z⟩ | ⟨z, q', hq, e'⟩
          . subst z
            have z2 := un.frzs b ob _ q
            obtain ⟨e1, _⟩ := hok b _ q
            obtain ⟨e2, _⟩ := hok' b _ z2
            rw [e] at e1; cases e1
            exact .inl e2
          . subst z
            subst e'
            obtain ⟨more, z2⟩ := un.tbls _ _ q
            have e2 : s'.heap.get? q'.2 = some (PySem.W.tabObj (#[] ++ more)) := hok' _ _ z2
            have e3 := (hT q' hq).2
            rw [e] at e3
            have e4 : o = PySem.W.tabObj #[] := Option.some.inj e3
            subst e4
            exact .inr (.inl ⟨((hT q' hq).1.tab (hT q' hq).2).isCodeTable, rfl, #[], more, rfl, e2⟩)
  have tabA : ∀ q ∈ tabs, q.2 ≠ a := fun q hq z => by
    have e := (hT q hq).2
    rw [z, ha] at e; cases e
  cases hk : K.lookup a with
  | some o =>
    have e := KX a o hk
    rw [ha] at e
    cases e
    refine core (fun b => if b ∈ tabs.map (·.2) then some (.tbl #[]) else none) (.inr ⟨_, vs.toArray, _, hk, rfl, rfl, rfl, by rw [yAO, lenV]; exact hl, by simpa using rv⟩) (fun b u z => ?_) (fun b u z => ?_) fun q hq => if_pos (List.mem_map_of_mem hq)
    . by_cases hb : b ∈ tabs.map (·.2)
      . have z' := (if_pos hb).symm.trans z
        cases z'
        obtain ⟨q, hq, rfl⟩ := yBF.mp hb
        exact (hT q hq).2
      . have z' := (if_neg hb).symm.trans z
        cases z'
    . by_cases hb : b ∈ tabs.map (·.2)
      . have z' := (if_pos hb).symm.trans z
        cases z'
        obtain ⟨q, hq, e⟩ := yBF.mp hb
        exact .inr ⟨rfl, q, hq, e⟩
      . have z' := (if_neg hb).symm.trans z
        cases z'
  | none =>
    refine core (fun b => if b ∈ tabs.map (·.2) then some (.tbl #[]) else if b = a then some (.frz { cls := .type "list", data := .seq vs.toArray } (.lst (ns.map V.int))) else none) (.inl (.inr ⟨{ cls := .type "list", data := .seq vs.toArray }, ?_⟩)) (fun b u z => ?_) (fun b u z => ?_) fun q hq => if_pos (List.mem_map_of_mem hq)
    . dsimp only
      rw [if_neg, if_pos rfl]
      intro z
      obtain ⟨q, hq, e⟩ := yBF.mp z
      exact tabA q hq e
    . by_cases hb : b ∈ tabs.map (·.2)
      . have z' := (if_pos hb).symm.trans z
        cases z'
        obtain ⟨q, hq, rfl⟩ := yBF.mp hb
        exact (hT q hq).2
      . have z' := (if_neg hb).symm.trans z
        by_cases hba : b = a
        . have z' := (if_pos hba).symm.trans z'
          cases z'
          subst hba
          exact ⟨ha, by rw [yAA]; exact hl, vs, _, rv, ha⟩
        . have z' := (if_neg hba).symm.trans z'
          cases z'
    . by_cases hb : b ∈ tabs.map (·.2)
      . have z' := (if_pos hb).symm.trans z
        cases z'
        obtain ⟨q, hq, e⟩ := yBF.mp hb
        exact .inr ⟨rfl, q, hq, e⟩
      . have z' := (if_neg hb).symm.trans z
        by_cases hba : b = a
        . have z' := (if_pos hba).symm.trans z'
          cases z'
          exact .inl ⟨hba, hk, _, _, rfl⟩
        . have z' := (if_neg hba).symm.trans z'
          cases z'
def ZEJ (K : W.Frag) (tabs : List (Addr × Addr)) : Sp := fun vs H Q _ => ∃ (a : Addr) (ns : List Int), vs = [.ref a] /\ SqL K H a (ns.map V.int) /\ ns.length <= 63 /\ ZE8 tabs H /\ ∀ H', Q (.bl true) H'
theorem tabIn_of {K : W.Frag} {x : Str} {f c Pt : Addr} {oc oc2 : Value} {od od2 : Option Addr} {fd : FuncData} {sl sl2 : Array (Option Value)} {vs : Array Value} (a : W.nsIn K mainGlobals x = some (some (.ref f))) (l : K.lookup f = some ⟨oc, od, .func fd, sl⟩) (hc : fd.code = .ref c)
    (lc : K.lookup c = some ⟨oc2, od2, .fields vs, sl2⟩) (tp : vs[11]? = some (.ref Pt)) : PySem.W.tabIn K x = some (c, Pt) := by
  unfold PySem.W.tabIn
  rw [a]
  dsimp only
  rw [l]
  dsimp only
  rw [hc]
  dsimp only
  rw [lc]
  dsimp only
  rw [tp]
theorem walk_ofT2 {l : PySem.W.OpenLaw} {k : Nat} {q : Program} {loose : List Str} {XP : (Str -> Option Value) -> Heap -> Prop} {YP : World -> Heap -> Prop} {d : DefRec} {K : Params -> W.Frag} {x : Str} {names : List Str}
    (hn : l.most = some 63) (hdf : d.params.defaults = []) (hr : Room k callerA)
    (hY : ∀ (w : World) (h : Heap), YP w h -> (K w.params).In h) (hrec : ∀ y ∈ names, ∃ dr, (recsOf q).find? (fun e => e.name == y) = some dr)
    (F : ∀ (w : World) (mg : Str -> Option Value) (fa : Addr) (h : Heap), (K w.params).In h -> h.Ns mainGlobals mg -> mg d.name = some (.ref fa) ->
      ∃ (tabs : List (Addr × Addr)) (fd : FuncData), PySem.W.noTabs (K w.params) = true /\ (∀ t ∈ tabs, ∃ y ∈ names, PySem.W.tabIn (K w.params) y = some t) /\ (∀ (s : Shared) (u : Value), BindsTo s fd ⟨[u], []⟩ [(x, u)]) /\
        ∀ base : Heap, (K w.params).In base -> base.Ns mainGlobals mg -> (∀ t ∈ tabs, PySem.W.CodeHd base t.1 t.2) -> ZDd mg base -> FnOk l.prog w (K w.params) mg base CX0 k fa fd [x] (ZEJ (K w.params) tabs)) :
    PySem.W.WalkO q loose XP YP l.row.toRowW d [] (fun f vs => PySem.call f vs) := by
  refine Att.attach_call hn hdf fun w s₀ s₁ mg mb fa o pm cd doc a vs ns G Y ho hd hcd hmg hobj hints hlen hg => ?_
  have KX := hY w _ Y
  obtain ⟨tabs, fd, nt, ht, hb, hF⟩ := F w mg fa _ KX G.T.g hmg
  refine law_callT (tabs := tabs) KX G.T.g G.T.b G.T.builtins G.T.nolimit hg hobj hints (yAE hlen (by decide)) hr (fun t h2 => ?_) nt G.T.bmain hF hb (fun H hO hS => ⟨a, ns, rfl, hS, hlen, hO, fun _ => rfl⟩) fun H e s' z => z
  obtain ⟨y, hy, e2⟩ := ht t h2
  obtain ⟨dr, e1⟩ := hrec y hy
  exact PySem.W.tab_of G.T KX e1 e2
theorem hix_of {ix : List Nat} {ps fr : List Str} (h : ix.map (fun i => ps[i]?) = fr.map some) : ∀ (j : Nat) (y : Str), fr[j]? = some y -> ∃ i, ix[j]? = some i /\ ps[i]? = some y := fun j y e => by
  have := congrArg (fun l => l[j]?) h
  simp only [yAG, e, yCF] at this
  cases q : ix[j]? with
  | none => rw [q] at this; cases this
  | some i => rw [q] at this; exact ⟨i, rfl, by simpa using this⟩
def inBody (s : Stmt) (j : Nat) : Stmt := (ZAL s).getD j (.Pass ⟨0, 0, 0, 0⟩)
def ZEX (s : Stmt) : Pos := match s with
  | .FunctionDef _ _ _ _ _ _ _ _ _ pos => pos
  | _ => ⟨0, 0, 0, 0⟩
theorem cx_cloK {P : Program} {w : World} {K : W.Frag} {mg : Str -> Option Value} {base : Heap} {N : List Str} {qual : Str} {scope : Scope} {f : Addr} {cd : Value} {cl : List (Str × Addr)} {A : Around} {outer : List Env} {s : Shared} {H : Hp} : (ZEB P w K mg base N qual scope f cd cl A outer s H).K = K := rfl
section
variable {prog : Program} {w : World} {A : Around} {R : Result -> Shared -> Prop} {I : Addr} {fp wr : List Addr} {n : Nat} {P : Nat -> Value -> Prop} {St : Nat -> Heap -> Prop}
end
section
variable {prog : Program} {w : World} {A : Around} {E : Value -> Shared -> Prop} {s : Shared} {l : Addr}
end
def maxD (d : Int) : List Int -> Int
  | [] => d
  | x :: r => r.foldl (fun m y => if m < y then y else m) x
section
variable {X : Cx} {e d : Expr} {te td : TE} {p pos : Pos} {kpos : Pos}
def tMaxD (K : W.Frag) (te td : TE) : TE := fun σ H Q => te σ H fun x H1 => td σ H1 fun y H2 => ∃ a ns dd, x = .ref a /\ y = .int dd /\ SqL K H2 a (ns.map V.int) /\ Q (.int (maxD dd ns)) H2
end
theorem lkc {k k' : Str} {v : V} {r : List (Str × V)} : List.lookup k ((k', v) :: r) = if k = k' then some v else List.lookup k r := by
  rw [yCE]
  by_cases h : k = k'
  . subst h; simp
  . have : (k == k') = false := by simpa using h
    rw [this, if_neg h]
theorem ZBZ {f : Str} {v u : V} : ∀ {fs : List (Str × V)}, fs.lookup f = some u -> (putF f v fs).length = fs.length
  | [], h => by cases h
  | (g, w) :: r, h => by
    unfold putF
    by_cases e : g = f
    . rw [if_pos e]; rfl
    . rw [if_neg e, yAR, yAR]
      rw [lkc, if_neg (fun z => e z.symm)] at h
      rw [ZBZ h]
structure Ins (H : Hp) (a C : Addr) (fl : List (Str × V)) : Prop where
  ex : ∃ dx fs, H a = some (.ins C dx fs) /\ fs.length <= 50 /\ ∀ f, fs.lookup f = fl.lookup f
theorem Ins.of {H : Hp} {a C dx : Addr} {fl : List (Str × V)} (h : H a = some (.ins C dx fl)) (hl : fl.length <= 50) : Ins H a C fl := ⟨dx, fl, h, hl, fun _ => rfl⟩
theorem Ins.congr {H : Hp} {a C : Addr} {fl fl' : List (Str × V)} (h : Ins H a C fl) (e : ∀ f, fl.lookup f = fl'.lookup f) : Ins H a C fl' := let ⟨dx, fs, h1, h2, h3⟩ := h.ex; ⟨dx, fs, h1, h2, fun f => (h3 f).trans (e f)⟩
theorem Ins.mono {H H' : Hp} {a C : Addr} {fl : List (Str × V)} (h : Ins H a C fl) (s : Same H H') : Ins H' a C fl := let ⟨dx, fs, h1, h2, h3⟩ := h.ex; ⟨dx, fs, s _ _ h1, h2, h3⟩
theorem Ins.keep {H H' : Hp} {a C : Addr} {fl : List (Str × V)} (h : Ins H a C fl) (s : H' a = H a) : Ins H' a C fl := let ⟨dx, fs, h1, h2, h3⟩ := h.ex; ⟨dx, fs, s.trans h1, h2, h3⟩
theorem Ins.ne {H : Hp} {a b C : Addr} {fl : List (Str × V)} {o : HO} (h : Ins H a C fl) (hb : H b = some o) (n : ∀ C dx fs, o ≠ .ins C dx fs) : b ≠ a := fun z => by
  obtain ⟨dx, fs, h1, _⟩ := h.ex
  rw [z, h1] at hb
  exact n _ _ _ (Option.some.inj hb).symm
theorem Ins.neN {H : Hp} {a b C : Addr} {fl : List (Str × V)} (h : Ins H a C fl) (hb : H b = none) : b ≠ a := fun z => by
  obtain ⟨dx, fs, h1, _⟩ := h.ex
  rw [z, h1] at hb; cases hb
section
variable {K : W.Frag} {f : Str} {a C : Addr} {fl : List (Str × V)} {v : V} {H : Hp}
theorem Ins.get {Q : VK} (h : Ins H a C fl) (cl : Cls K C) (n : NoAttr K C f) (l : fl.lookup f = some v) (q : Q v H) : getF K f (.ref a) H Q := by
  obtain ⟨dx, fs, h1, h2, h3⟩ := h.ex
  exact getF_of h1 cl n ((h3 f).trans l) q
theorem Ins.set {Q : Hp -> Prop} (h : Ins H a C fl) (cl : Cls K C) (n : NoAttr K C f) (q : ∀ H', Ins H' a C (putF f v fl) -> (∀ b, b ≠ a -> H' b = H b) -> Q H') (hl : ∃ u, fl.lookup f = some u) : setF K f (.ref a) v H Q := by
  obtain ⟨dx, fs, h1, h2, h3⟩ := h.ex
  obtain ⟨u, hu⟩ := hl
  refine setF_of h1 cl n (by omega) (q _ ⟨dx, _, ZAG, ?_, fun g => ?_⟩ fun b hb => ZAI hb)
  . rw [ZBZ ((h3 f).trans hu)]; exact h2
  . rw [ZAa, ZAa, h3]
theorem Ins.meth {m : Str} {R : Prop} (h : Ins H a C fl) (l : fl.lookup m = none) (q : R) : ∃ b dx fs, V.ref a = .ref b /\ H b = some (.ins C dx fs) /\ fs.lookup m = none /\ R := by
  obtain ⟨dx, fs, h1, h2, h3⟩ := h.ex
  exact ⟨a, dx, fs, rfl, h1, (h3 m).trans l, q⟩
end
def augA (K : W.Frag) (tv : TE) (rd : V -> V -> Hp -> VK -> Prop) (f : Str) (D : Ends) (σ : St) (x : V) (H1 : Hp) : Prop := ∃ a C dx fs v, x = .ref a /\ H1 a = some (.ins C dx fs) /\ Cls K C /\ NoAttr K C f /\ fs.lookup f = some v /\
  tv σ H1 fun y H2 => rd v y H2 fun z H3 => ∃ dx' fs', H3 a = some (.ins C dx' fs') /\ fs'.length < 1000 /\ D.nx σ (upd H3 a (.ins C dx' (putF f z fs')))
theorem sFldAug_eq {K : W.Frag} {ta tv : TE} {rd : V -> V -> Hp -> VK -> Prop} {f : Str} {D : Ends} {σ : St} {H : Hp} : sFldAug K ta tv rd f D σ H = ta σ H (fun x H1 => augA K tv rd f D σ x H1) := rfl
theorem Ins.aug {K : W.Frag} {f : Str} {a C : Addr} {fl : List (Str × V)} {i j : Int} {H : Hp} {D : Ends} {σ : St} (h : Ins H a C fl) (cl : Cls K C) (n : NoAttr K C f) (l : fl.lookup f = some (.int i))
    (q : ∀ H', Ins H' a C (putF f (.int (i + j)) fl) -> (∀ b, b ≠ a -> H' b = H b) -> D.nx σ H') : augA K (tC (.int j)) rAdd f D σ (.ref a) H := by
  obtain ⟨dx, fs, h1, h2, h3⟩ := h.ex
  refine ⟨a, C, dx, fs, _, rfl, h1, cl, n, (h3 f).trans l, i, j, rfl, rfl, dx, fs, h1, by omega, q _ ⟨dx, _, ZAG, ?_, fun g => ?_⟩ fun b hb => ZAI hb⟩
  . rw [ZBZ ((h3 f).trans l)]; exact h2
  . rw [ZAa, ZAa, h3]
theorem setX {K : W.Frag} {f : Str} {a C dx : Addr} {fs : List (Str × V)} {v : V} {H : Hp} {Q : Hp -> Prop} (h : H a = some (.ins C dx fs)) (cl : Cls K C) (n : NoAttr K C f) (hl : fs.length <= 20) (q : ∀ H', H' a = some (.ins C dx (putF f v fs)) -> (∀ b, b ≠ a -> H' b = H b) -> Q H') : setF K f (.ref a) v H Q :=
  setF_of h cl n (by omega) (q _ ZAG fun b hb => ZAI hb)
theorem ZAr {f : Str} {v : V} {fs : List (Str × V)} {n : Nat} (h : fs.length <= n) : (putF f v fs).length <= n + 1 := yAE (ZCI f v fs) (Nat.succ_le_succ h)
theorem ZEy {f0 : Str} {v0 : V} : (putF f0 v0 []).length <= 20 := yAE (ZAr (yAB 0)) (by decide)
theorem ZEx {f0 f1 : Str} {v0 v1 : V} : (putF f1 v1 (putF f0 v0 [])).length <= 20 := yAE (ZAr (ZAr (yAB 0))) (by decide)
theorem ZEw {f0 f1 f2 : Str} {v0 v1 v2 : V} : (putF f2 v2 (putF f1 v1 (putF f0 v0 []))).length <= 20 := yAE (ZAr (ZAr (ZAr (yAB 0)))) (by decide)
theorem putL4 {f0 f1 f2 f3 : Str} {v0 v1 v2 v3 : V} : (putF f3 v3 (putF f2 v2 (putF f1 v1 (putF f0 v0 [])))).length <= 20 := yAE (ZAr (ZAr (ZAr (ZAr (yAB 0))))) (by decide)
theorem putL5 {f0 f1 f2 f3 f4 : Str} {v0 v1 v2 v3 v4 : V} : (putF f4 v4 (putF f3 v3 (putF f2 v2 (putF f1 v1 (putF f0 v0 []))))).length <= 20 := yAE (ZAr (ZAr (ZAr (ZAr (ZAr (yAB 0)))))) (by decide)
theorem ZE2 (p q : Int) : (if q > p then q else p) = max p q := by split <;> omega
theorem mn_eq (p q : Int) : (if q < p then q else p) = min p q := by split <;> omega
section
variable {X : Cx}
end
theorem us_len {us ds : List Value} {ps : List Str} {n : Nat} (h : (us ++ ds).length = ps.length) (e : n + ds.length = ps.length) : us.length = n := by
  rw [yAD] at h; omega
def Fr (S : List Addr) (H H' : Hp) : Prop := ∀ b o, b ∉ S -> H b = some o -> H' b = some o
theorem Fr.refl {S : List Addr} {H : Hp} : Fr S H H := fun _ _ _ h => h
theorem Fr.trans {S : List Addr} {H H' H'' : Hp} (e : Fr S H H') (f : Fr S H' H'') : Fr S H H'' := fun b o n h => f b o n (e b o n h)
theorem Same.fr {S : List Addr} {H H' : Hp} (e : Same H H') : Fr S H H' := fun b o _ h => e b o h
theorem Fr.upd {S : List Addr} {H : Hp} {l : Addr} {o : HO} (h : l ∈ S) : Fr S H (upd H l o) := fun b o' n e => by
  have z : b ≠ l := fun z => n (by rw [z]; exact h)
  rw [ZAI z]; exact e
end L2
namespace PySem
namespace F
theorem nolen_lri : typeLookup (.type "list_reverseiterator") "__len__" = pure none := by rw [typeLookup_type, builtinLookup_eq_fast]; kernel_rfl
theorem hint_lri : typeLookup (.type "list_reverseiterator") "__length_hint__" = pure (some (.builtin "list_reverseiterator.__length_hint__")) := by rw [typeLookup_type, builtinLookup_eq_fast]; kernel_rfl
end F
section
variable {prog : Program} {w : World} {A : Around} {s : Shared} {R : Result -> Shared -> Prop}
variable {I : Addr} {fp wr : List Addr} {G : Array GenState -> Array GenState -> Prop} {n : Nat} {P : Nat -> Value -> Prop} {St : Nat -> Shared -> Prop}
theorem wpAny_extend_rev (W : WalksS prog w A.in1 I fp wr G n P St) (hT : ∀ i s, St i s -> s.TypeIs (.ref I) "list_reverseiterator") (S : Addr) (res : Value) (c₀ : Nat) (hst : St 0 s) (hSf : S ∉ fp) (hI : I ∈ fp)
    (hS : s.heap.get? S = some { cls := .type "list", data := .seq #[] c₀ })
    (hR : ∀ s' acc' c', Moved (S :: wr) G s s' -> s'.heap.get? S = some { cls := .type "list", dict := none, data := .seq acc' c', slots := #[] } -> ItemsOf P acc' n -> R (.ok (.ret res)) s') (hn : n <= sizeLine) :
    wpAny (model prog w) A.in1 (Builtin.List.listExtendWith (.ref S) (.ref I) res)
      (fun fin s' => match fin with | .done f => R (.ok f) s' | .again c' => c'.quiet = true /\ codeAny (model prog w) A c' R s') (fun e s' => R (.error e) s') s := by
  have hSI : S ≠ I := fun e => hSf (e ▸ hI)
  unfold Builtin.List.listExtendWith
  refine wpAny_bind (wpAny_typeOf (hT 0 _ hst) ?_)
  have h1 : Builtin.List.listSameRef (.ref S) (.ref I) = false := by simp [Builtin.List.listSameRef, hSI]
  rw [if_neg (by rw [h1]; decide)]
  refine wpAny_bind (W.self 0 _ _ _ hst ?_)
  refine wpAny_bind (wpAny_holding ?_)
  unfold Builtin.List.listLengthHint
  refine wpAny_bind (wpAny_specialOf (hT 0 _ hst) F.nolen_lri ?_)
  show wpAny _ A.in1 (specialOf (Value.ref I) (Str.ofString "__length_hint__") >>= _) _ _ _
  refine wpAny_bind (wpAny_specialOf (hT 0 _ hst) F.hint_lri ?_)
  (generalize hid : ("list_reverseiterator.__length_hint__" : String) = id0; (fail_if_success (clear hid id0)); wp_delta; rw [show splitId id0 = some ("list_reverseiterator", "__length_hint__") from by subst hid; decide +kernel]; subst hid)
  refine wpAny_bind (wpAny_isInstance (b := true) (hT 0 _ hst) (by rw [isSubtype_type]; kernel_rfl) ?_)
  refine wpAny_pure ?_
  rw [if_neg (by decide)]
  refine wpAny_pure ⟨plainId_quiet F.plain_extend_loop _, codeAny_extend_loopS W hn _ hSf _ n 0 _ _ _ rfl (yAF _) hst hS (ItemsOf.nil P) fun s' acc' c' hm hS' hacc => ?_⟩
  exact hR s' acc' c' hm hS' hacc
theorem wpAny_list_init_rev (W : WalksS prog w A.in1 I fp wr G n P St) (hT : ∀ i s, St i s -> s.TypeIs (.ref I) "list_reverseiterator") (S : Addr) (hst : St 0 s) (hSf : S ∉ fp) (hI : I ∈ fp)
    (hS : s.heap.get? S = some { cls := .type "list", data := .seq #[] })
    (hR : ∀ s' acc' c', Moved (S :: wr) G s s' -> s'.heap.get? S = some { cls := .type "list", dict := none, data := .seq acc' c', slots := #[] } -> ItemsOf P acc' n -> R (.ok (.ret .none)) s') (hn : n <= sizeLine) :
    wpAny (model prog w) A.in1 (Builtin.«list.__init__» ⟨[.ref S, .ref I], []⟩)
      (fun fin s' => match fin with | .done f => R (.ok f) s' | .again c' => c'.quiet = true /\ codeAny (model prog w) A c' R s') (fun e s' => R (.error e) s') s := by
  show wpAny _ A.in1 (do let old <- Builtin.List.listItems (.ref S); Builtin.List.listUpdate (.ref S) (fun _ => #[]); letGo old.toList.reverse; Builtin.List.listExtendWith (.ref S) (.ref I) .none) _ _ s
  refine wpAny_bind ?_
  unfold Builtin.List.listItems
  refine wpAny_bind (wpAny_seqItems hS rfl (wpAny_pure ?_))
  show wpAny _ A.in1 (updateSeq S (fun _ => #[]) >>= fun _ => letGo (#[] : Array Value).toList.reverse >>= fun _ => Builtin.List.listExtendWith (.ref S) (.ref I) .none) _ _ s
  refine wpAny_bind (wpAny_updateSeq hS rfl ?_)
  have hS₂ := Heap.get?_update_self (Obj.mapSeq (fun _ => (#[] : Array Value))) hS rfl
  have oth : ∀ b o, b ≠ S -> s.heap.get? b = some o -> (s.heap.update S (Obj.mapSeq (fun _ => (#[] : Array Value)))).get? b = some o :=
    fun b o hb e => (Heap.get?_update_other _ _ (Ne.symm hb)).trans e
  refine wpAny_bind (wpAny_letGo ?_)
  refine wpAny_extend_rev (hn := hn) W hT S .none _ (W.frame 0 s _ s.toks hst (yAB _) fun b hb o e => oth b o (fun h => hSf (h ▸ hb)) e) hSf hI hS₂ fun s' acc' c' hm hS' hacc => ?_
  exact hR s' acc' c' (Moved.trans W.gtrans ((Moved.refl W.grefl).then_heap (yAB _) fun b o hb e => oth b o (fun h => hb (h ▸ yAI)) e) hm) hS' hacc
end
section
variable {prog : Program} {w : World} {A : Around} {E : Value -> Shared -> Prop} {s : Shared}
variable {I : Addr} {fp wr : List Addr} {G : Array GenState -> Array GenState -> Prop} {n : Nat} {P : Nat -> Value -> Prop} {St : Nat -> Shared -> Prop}
theorem call_list_revW {Q : Value -> Shared -> Prop} (W : WalksS prog w A.in1.in1 I fp wr G n P St) (hT : ∀ i s, St i s -> s.TypeIs (.ref I) "list_reverseiterator") (hst : St 0 s) (hfp : ∀ b ∈ fp, b < s.heap.objs.size) (hI : I ∈ fp)
    (hQ : ∀ s' acc' c', Moved (s.heap.objs.size :: wr) G { s with heap := s.heap.push { cls := .type "list", data := .seq #[] } } s' ->
      s'.heap.get? s.heap.objs.size = some { cls := .type "list", dict := none, data := .seq acc' c', slots := #[] } -> ItemsOf P acc' n -> Q (.ref s.heap.objs.size) s') (hn : n <= sizeLine) :
    wpAny (model prog w) A (call (.type "list") [.ref I]) Q E s := by
  have hSf : s.heap.objs.size ∉ fp := fun hm => yBG _ (hfp _ hm)
  refine callType_codes (Q₁ := fun obj s₁ => obj = .ref s.heap.objs.size /\ s₁ = { s with heap := s.heap.push { cls := .type "list", data := .seq #[] } }) F.called_list (F.typeCall_list_1 _) F.entry_list_init
    (code_list_new _ ⟨rfl, rfl⟩) fun obj s₁ h₁ => ?_
  obtain ⟨rfl, rfl⟩ := h₁
  have hS : (s.heap.push { cls := .type "list", data := .seq #[] }).get? s.heap.objs.size = some { cls := .type "list", data := .seq #[] } := Heap.get?_push_size _ rfl
  refine ⟨⟨_, hS, rfl⟩, F.args_list_init_2 _ _, wpAny_list_init_rev (hn := hn) W hT _ (W.frame 0 s _ s.toks hst (yAB _) fun b _ o e => Heap.get?_push_of_some _ e) hSf hI hS fun s' acc' c' hm hS' hacc => ?_⟩
  exact ⟨rfl, hQ s' acc' c' hm hS' hacc⟩
end
end PySem
namespace L2
open PySem PySem.Spec PyProof.Rows
def ZEn (K : W.Frag) (t : TA) : TE := fun σ H Q => t σ H fun vs H1 => ∃ (l : Addr) (ys : List V), vs = [.ref l] /\ SqL K H1 l ys /\ ∀ r, H1 r = none -> Q (.ref r) (upd H1 r (.lst ys.reverse))
section
variable {X : Cx} {e : Expr} {ta : TA} {p p2 pos pos2 : Pos}
theorem pe_list_rev (hc : X.calm = true) (hg : Gl X "list") (hm : X.mg "list" = none) (hg2 : Gl X "reversed") (hm2 : X.mg "reversed" = none) (ha : PA X [e] ta)
    (he : starEach [.Call (.Name "reversed" p2) [e] [] pos2] X.env = (false, eval (.Call (.Name "reversed" p2) [e] [] pos2) X.env) :: starEach [] X.env := by rfl) (hpl : (backTo pos (starEach [] X.env)).any (·.1) = false := by rfl)
    (he2 : starEach [e] X.env = (false, eval e X.env) :: starEach [] X.env := by rfl) (hpl2 : (backTo pos2 (starEach [] X.env)).any (·.1) = false := by rfl) :
    PE X (.Call (.Name "list" p) [.Call (.Name "reversed" p2) [e] [] pos2] [] pos) (ZEn X.K ta) := by
  intro pins s σ H Q I h
  refine wpAny_Call_Name_kw (ZDC I hg hm PyProof.Rows.boot_list ?_ (by decide) (by decide))
  refine PyProof.Rows.callWith_type1 ?_ he hpl
  rw [he]
  show wpAny _ _ (spliced ((false, eval (.Call (.Name "reversed" p2) [e] [] pos2) X.env) :: backTo pos (starEach [] X.env))) _ _ s
  refine Calls.spliced_cons ?_
  refine wpAny_Call_Name_kw (ZDC I hg2 hm2 PyProof.Rows.boot_reversed ?_ (by decide) (by decide))
  refine PyProof.Rows.callWith_type1 (thn (ha pos2 pins s σ H _ I h) fun us s1 ⟨vs, H1, I1, r1, q1⟩ => ?_) he2 hpl2
  obtain ⟨l, ys, rfl, hl, q⟩ := q1
  obtain ⟨u, rfl, rx⟩ := ZDF r1
  cases rx
  obtain ⟨its, r', pl, hz⟩ := I1.list hl
  have hlt : l < s1.heap.objs.size := by obtain ⟨o, ho, _⟩ := pl.isList; exact Heap.lt_size ho
  refine call_reversed_list pl.isList ?_
  refine Calls.spliced_nil ?_
  have hh : X.A.handled = none := I1.ok.hd hc
  have hne : l ≠ s1.heap.objs.size := yAL hlt
  have W := (Walks.listRev (prog := X.prog) (w := X.w) (A := X.A.in1.in1) hh s1.heap.objs.size l hne its.toArray).toS
  have hsz : its.toArray.size = its.length := yAO ..
  have hlen := r'.length
  refine call_list_revW W (fun i s st => st.2.1.typeIs) ⟨yAF _, ⟨_, Heap.get?_push_size _ rfl, rfl, by simp [revObj]⟩, pl.isList.at fun o e => Heap.get?_push_of_some _ e⟩ (fun b hb => ?_) yAI (fun s' acc' c' hm hS' hacc => ?_) (by rw [hsz]; omega)
  . rcases yAH.mp hb with z | z
    . rw [z]; exact Heap.lt_size (Heap.get?_push_size _ rfl)
    . rw [yAK.mp z]
      obtain ⟨o, ho, _⟩ := pl.isList
      exact Heap.lt_size (Heap.get?_push_of_some _ ho)
  . rw [Moved.eq_with hm]
    have hge : s1.heap.objs.size <= (s1.heap.push (revObj l ((its.toArray.size : Int) - 1))).objs.size := yBW (Heap.lt_size (Heap.get?_push_size _ rfl))
    have e : acc'.toList = its.reverse := by
      refine List.ext_getElem? fun j => ?_
      have sz : acc'.toList.length = its.length := by rw [yAN, hacc.1, hsz]
      by_cases hj : j < its.length
      . have h1 : acc'.toList[j]? = some (acc'.toList[j]'(by omega)) := yAC (by omega)
        have h2 := hacc.2 j _ (by rw [<- yBD]; exact h1)
        rw [h1, <- h2, List.getElem?_reverse hj, hsz]
        simp
      . rw [yBE (by omega), yBE (by rw [yBZ]; omega)]
    refine ⟨.ref _, _, I1.laid (h' := s'.heap) (t' := s'.toks) (o := .lst ys.reverse) (a := (s1.heap.push (revObj l ((its.toArray.size : Int) - 1))).objs.size) (fun b u hb => hm.heap b u (fun z => ?_) (Heap.get?_push_of_some _ (Heap.get?_push_of_some _ hb))) hge ⟨by rw [yBZ]; exact hz, acc'.toList, c', by rw [e]; exact r'.reverse, by simpa using hS'⟩, rfl, q _ (I1.hok.fresh hge)⟩
    have hbl := Heap.lt_size hb
    rcases yAH.mp z with z | z
    . rw [z] at hbl; exact absurd hbl (Nat.not_lt.mpr hge)
    . rw [yAK.mp z] at hbl; exact yBG _ hbl
end
theorem neD_refl {K : W.Frag} {H : Hp} {x y : V} {d : PyData} {Q : VK} (hx : Dp K H d x) (hy : Dp K H d y) (hc : d.canLay0 = true) (hd : d.depth <= 64) (q : Q (.bl false) H) : rNeD K x y H Q :=
  ⟨d, d, hx, hy, hc, hc, hd, by rw [PySem.SeqAt.eqv_refl d hc]; exact q⟩
def compR2 (g : TG) (tt : TT) (te : TE) (σ0 : St) (Q : VK) (x y : V) (H1 : Hp) : Prop := ∃ i j : Int, [x, y] = [.int i, .int j] /\ (-(2 ^ 62) <= i /\ i < 2 ^ 62 /\ -(2 ^ 62) <= j /\ j < 2 ^ 62) /\ compR i g tt te σ0 Q (j - i).toNat H1
theorem tCompR2_eq {k : Nat} {js : List Nat} {t u : TE} {g : TG} {tt : TT} {te : TE} {σ : St} {H : Hp} {Q : VK} : ZDi k js (iRng2 (ZCT t (ZCT u tNil))) g tt te σ H Q = t σ H (fun x H1 => u σ H1 fun y H2 => compR2 g tt te (up k js σ) Q x y H2) := rfl
section
variable {X : Cx}
theorem call_sumB (hc : X.calm = true) : ZCb X (.builtin "sum") (fun xs H Q => ∃ (p : Addr) (ns : List Int), xs = [.ref p] /\ SqL X.K H p (ns.map V.int) /\ Q (.int ns.sum) H) := by
  intro pins s σ H xs us Q I r h
  obtain ⟨p, ns, rfl, hq, q⟩ := h
  obtain ⟨u, rfl, rx⟩ := ZDF r
  cases rx
  obtain ⟨its, r', pl, hz⟩ := I.list hq
  have hlen := r'.length
  rw [yAA] at hlen
  have hh : X.A.handled = none := I.ok.hd hc
  have hl := pl.isList
  have hlt : p < s.heap.objs.size := by obtain ⟨_, e, _⟩ := hl; exact Heap.lt_size e
  refine call_sum_walkG (wpAny_pyIter_list hl ⟨s.heap.objs.size, _, _, _, _, _, fun i => ns.getD i 0, rfl, Walks.list (A := X.A.in1) hh s.heap.objs.size p (yAL hlt) its.toArray, ⟨⟨_, Heap.get?_push_size _ rfl, rfl, rfl⟩, hl.push _⟩, fun b hb => ?_, fun i v hP => ?_, fun h' tk t' hk => ?_⟩)
  . have hb' : b = s.heap.objs.size ∨ b = p := by simpa using hb
    show b < (s.heap.push _).objs.size
    rw [Heap.size_push]
    rcases hb' with rfl | rfl
    . exact yCD _
    . exact Nat.lt_succ_of_lt hlt
  . have hP' : its[i]? = some v := by simpa using hP
    have hi : i < its.length := (yAJ.mp hP').1
    obtain ⟨b, hb⟩ : ∃ b, ns[i]? = some b := ⟨_, yAC (by omega)⟩
    obtain ⟨u, hu, ru⟩ := r'.get (i := i) (x := .int b) (by rw [yAG, hb]; rfl)
    rw [hP'] at hu
    cases hu
    obtain ⟨t, rfl⟩ := ru
    refine ⟨t, ?_⟩
    show _ = Value.int (ns.getD i 0) t
    rw [yBL, hb]
    rfl
  . refine ⟨.int ns.sum, H, I.kept (t' := tk) (fun b o e => hk b o ?_ (Heap.get?_push_of_some _ e)), ⟨t', ?_⟩, q⟩
    . intro z
      have : b = s.heap.objs.size := by simpa using z
      exact absurd (Heap.lt_size e) (by rw [this]; exact yBG _)
    . have : its.toArray.size = ns.length := by simp [hlen]
      rw [this, ZCO ns ns.length (yAB _), List.take_length]
end
def Itz (K : W.Frag) (a b : Addr) : It :=
  ⟨fun i H => ∃ xs x ys y, SqL K H a xs /\ xs[i]? = some x /\ SqL K H b ys /\ ys[i]? = some y, fun i H v H' => ∃ p x y, H p = none /\ (∀ xs, SqL K H a xs -> xs[i]? = some x) /\ (∀ ys, SqL K H b ys -> ys[i]? = some y) /\ H' = upd H p (.tup [x, y]) /\ v = .ref p, fun i H => ∃ xs ys, SqL K H a xs /\ SqL K H b ys /\ (xs.length <= i ∨ ys.length <= i)⟩
section
variable {X : Cx}
def iZip (K : W.Frag) (ta : TA) : TI := fun σ H R => ta σ H fun vs H1 => ∃ a b, vs = [.ref a, .ref b] /\ (∃ xs, SqL K H1 a xs) /\ (∃ xs, SqL K H1 b xs) /\ R (Itz K a b) H1
end
section
variable {K : W.Frag} {a b : Addr} {xs ys : List V} {g : TG} {tb : TS} {D : Ends} {σ : St} {H : Hp}
def forZ (K : W.Frag) (g : TG) (tb : TS) (D : Ends) (σ : St) (x y : V) (H1 : Hp) : Prop := ∃ a b, [x, y] = [.ref a, .ref b] /\ (∃ xs, SqL K H1 a xs) /\ (∃ xs, SqL K H1 b xs) /\ ∃ W : Nat -> Nat -> St -> Hp -> Prop, (∃ m, W 0 m σ H1) /\ ∀ i m σ H, W i m σ H ->
  ((Itz K a b).stop i H /\ D.nx σ H) ∨ ((Itz K a b).go i H /\ ∃ N : St -> Hp -> Prop, (∀ σ' H', N σ' H' -> ∃ m', m' < m /\ W (i + 1) m' σ' H') /\ ∀ x H', (Itz K a b).yld i H x H' -> g x σ H' fun σ2 H2 => tb { D with nx := N, ct := N, bk := D.nx } σ2 H2)
theorem tForZ_eq {t u : TE} : tFor (iZip K (ZCT t (ZCT u tNil))) g tb D σ H = t σ H (fun x H1 => u σ H1 fun y H2 => forZ K g tb D σ x y H2) := rfl
end
section
open PySem.SeqAt
open PySem.AutoSeq1 (wpAny_loadPart')
open PySem.MeetsSeq PySem.MeetsSeq2 PySem.MeetsSeq3 HT
end
section
variable {prog : Program} {w : World} {A : Around} {E : Value -> Shared -> Prop} {s : Shared}
end
section
variable {X : Cx}
end
section
variable {κ : Type} [DecidableEq κ]
def valV (kvs : List (κ × V)) (k : κ) : Option V := (kvs.find? fun kv => decide (kv.1 = k)).map (·.2)
def putK (kvs : List (κ × V)) (k : κ) (v : V) : List (κ × V) :=
  if (kvs.any fun kv => decide (kv.1 = k)) = true then kvs.map (fun kv => if kv.1 = k then (kv.1, v) else kv) else kvs ++ [(k, v)]
theorem ZA9 {p : κ × V} {r : List (κ × V)} {k : κ} (e : p.1 = k) : valV (p :: r) k = some p.2 := by simp [valV, yCU, e]
theorem ZBA {p : κ × V} {r : List (κ × V)} {k : κ} (e : ¬ p.1 = k) : valV (p :: r) k = valV r k := by simp [valV, yCU, e]
theorem ZCK (k : κ) : ∀ kvs : List (κ × V), (kvs.any fun kv => decide (kv.1 = k)) = (valV kvs k).isSome
  | [] => rfl
  | p :: r => by
    rw [yCR]
    by_cases e : p.1 = k
    . simp only [ZA9 e, decide_eq_true e, Bool.true_or, Option.isSome_some]
    . rw [ZBA e, decide_eq_false e, Bool.false_or]; exact ZCK k r
theorem valV_map (k j : κ) (y : V) : ∀ kvs : List (κ × V), valV (kvs.map fun kv => if kv.1 = k then (kv.1, y) else kv) j = (valV kvs j).map fun x => if j = k then y else x
  | [] => rfl
  | p :: r => by
    have ih := valV_map k j y r
    rw [yAP]
    by_cases h : p.1 = k
    . rw [if_pos h]
      by_cases e : p.1 = j
      . rw [ZA9 (p := (p.1, y)) e, ZA9 e, yCF, if_pos (e.symm.trans h)]
      . rw [ZBA (p := (p.1, y)) e, ZBA e, ih]
    . rw [if_neg h]
      by_cases e : p.1 = j
      . rw [ZA9 (p := p) e, ZA9 e, yCF, if_neg (fun z => h (e.trans z))]
      . rw [ZBA (p := p) e, ZBA e, ih]
theorem valV_snoc (k j : κ) (y : V) : ∀ kvs : List (κ × V), valV kvs k = none -> valV (kvs ++ [(k, y)]) j = if j = k then some y else valV kvs j
  | [], _ => by
    by_cases e : k = j
    . rw [if_pos e.symm]; exact ZA9 (p := (k, y)) e
    . rw [if_neg (fun z => e z.symm)]; exact ZBA (p := (k, y)) e
  | p :: r, hn => by
    rw [List.cons_append]
    have hk : ¬ p.1 = k := fun z => by rw [ZA9 z] at hn; cases hn
    rw [ZBA hk] at hn
    have ih := valV_snoc k j y r hn
    by_cases e : p.1 = j
    . rw [ZA9 e, ZA9 e, if_neg (fun z => hk (e.trans z))]
    . rw [ZBA e, ZBA e, ih]
theorem valV_put (kvs : List (κ × V)) (k j : κ) (y : V) : valV (putK kvs k y) j = if j = k then some y else valV kvs j := by
  unfold putK
  by_cases a : (kvs.any fun kv => decide (kv.1 = k)) = true
  . rw [if_pos a, valV_map]
    rw [ZCK] at a
    by_cases e : j = k
    . obtain ⟨x, hx⟩ := Option.isSome_iff_exists.mp a
      rw [if_pos e, e, hx, yCF, if_pos rfl]
    . rw [if_neg e]
      cases valV kvs j with
      | none => rfl
      | some x => rw [yCF, if_neg e]
  . rw [if_neg a]
    refine valV_snoc k j y kvs ?_
    rw [ZCK] at a
    cases q : valV kvs k with
    | none => rfl
    | some x => rw [q] at a; exact (a rfl).elim
theorem ZBp (kvs : List (κ × V)) (k : κ) (v : V) : (putK kvs k v).length <= kvs.length + 1 := by
  unfold putK
  split
  . rw [yAA]; omega
  . rw [yAD, yAR, yCH]; omega
theorem RelO.isSome_eq {o : Option V} {u : Option Value} (r : RelO o u) : o.isSome = u.isSome := by
  cases o with
  | none => cases u with
    | none => rfl
    | some _ => exact (show False from r).elim
  | some _ => cases u with
    | none => exact (show False from r).elim
    | some _ => rfl
theorem RelO.getD {o : Option V} {u : Option Value} {d : V} {d' : Value} (r : RelO o u) (rd : RelV d d') : RelV (o.getD d) (u.getD d') := by
  cases o with
  | none => cases u with
    | none => exact rd
    | some _ => exact (show False from r).elim
  | some _ => cases u with
    | none => exact (show False from r).elim
    | some _ => exact r
theorem KV.val {kvs : List (κ × V)} {vs : List (κ × Value)} (r : KV kvs vs) (k : κ) : RelO (valV kvs k) (valueAt vs k) := by
  unfold KV at r
  induction r with
  | nil => exact True.intro
  | @cons p q ps qs h t ih =>
    obtain ⟨h1, h2⟩ := h
    by_cases e : p.1 = k
    . have e' : q.1 = k := h1.symm.trans e
      have b : valueAt (q :: qs) k = some q.2 := by simp [valueAt, yCU, e']
      rw [ZA9 e, b]; exact h2
    . have e' : ¬ q.1 = k := fun z => e (h1.trans z)
      have b : valueAt (q :: qs) k = valueAt qs k := by simp [valueAt, yCU, e']
      rw [ZBA e, b]; exact ih
theorem KV.any {kvs : List (κ × V)} {vs : List (κ × Value)} (r : KV kvs vs) (k : κ) : (kvs.any fun kv => decide (kv.1 = k)) = vs.any fun kv => decide (kv.1 = k) := by
  unfold KV at r
  induction r with
  | nil => rfl
  | cons h t ih => rw [yCR, yCR, ih, h.1]
theorem KV.repl {kvs : List (κ × V)} {vs : List (κ × Value)} (r : KV kvs vs) (k : κ) {y : V} {u : Value} (ry : RelV y u) :
    KV (kvs.map fun kv => if kv.1 = k then (kv.1, y) else kv) (vs.map fun kv => if kv.1 = k then (kv.1, u) else kv) := by
  unfold KV at r ⊢
  induction r with
  | nil => exact .nil
  | @cons p q ps qs h t ih =>
    rw [yAP, yAP]
    refine .cons ?_ ih
    obtain ⟨h1, h2⟩ := h
    by_cases e : p.1 = k
    . rw [if_pos e, if_pos (h1.symm.trans e)]; exact ⟨h1, ry⟩
    . rw [if_neg e, if_neg (fun z => e (h1.trans z))]; exact ⟨h1, h2⟩
theorem KV.put {kvs : List (κ × V)} {vs : List (κ × Value)} (r : KV kvs vs) (k : κ) {y : V} {u : Value} (ry : RelV y u) : KV (putK kvs k y) (stored vs k u) := by
  unfold putK stored
  rw [r.any k]
  by_cases e : (vs.any fun kv => decide (kv.1 = k)) = true
  . rw [if_pos e, if_pos e]; exact r.repl k ry
  . rw [if_neg e, if_neg e]; exact Paired.snoc r ⟨rfl, ry⟩
theorem KV.length {kvs : List (κ × V)} {vs : List (κ × Value)} (r : KV kvs vs) : kvs.length = vs.length := Paired.length r
end
theorem ZEh {P : Program} {w : World} {k : Key} {u : Value} (r : RelV (kV k) u) : (ZAT P w).is k u = true := by
  cases k with
  | inl i => obtain ⟨t, e⟩ := (show ∃ t, u = Value.int i t from r); subst e; exact mixKind_int P w i t
  | inr x => obtain ⟨t, e⟩ := (show ∃ t, u = Value.str x t from r); subst e; exact mixKind_str P w x t
theorem items_are {P : Program} {w : World} : ∀ {ks : List Key} {us : List Value}, Vals (ks.map kV) us -> ItemsAre (ZAT P w) ks us
  | [], _, r => by rw [List.map_nil] at r; cases r; exact .nil
  | k :: ks, _, r => by
    rw [yAP] at r
    cases r with
    | cons h t => exact .cons (ZEh h) (items_are t)
abbrev KT (H : Hp) : List (List Key × V) -> List (List Key × Addr × Value) -> Prop := Paired fun p q => p.1 = q.1 /\ H q.2.1 = some (.tup (p.1.map kV)) /\ RelV p.2 q.2.2
theorem KT.val {H : Hp} {kvs : List (List Key × V)} {xs : List (List Key × Addr × Value)} (r : KT H kvs xs) (k : List Key) : RelO (valV kvs k) ((atKey xs k).map (·.2)) := by
  induction r with
  | nil => exact True.intro
  | @cons p q ps qs h t ih =>
    obtain ⟨h1, _, h2⟩ := h
    by_cases e : p.1 = k
    . have e' : q.1 = k := h1.symm.trans e
      have b : atKey (q :: qs) k = some q.2 := by simp [atKey, yCU, e']
      rw [ZA9 e, b]; exact h2
    . have e' : ¬ q.1 = k := fun z => e (h1.trans z)
      have b : atKey (q :: qs) k = atKey qs k := by simp [atKey, yCU, e']
      rw [ZBA e, b]; exact ih
theorem KT.repl {H : Hp} {kvs : List (List Key × V)} {xs : List (List Key × Addr × Value)} (r : KT H kvs xs) (k : List Key) {y : V} {u : Value} (ry : RelV y u) :
    KT H (kvs.map fun kv => if kv.1 = k then (kv.1, y) else kv) (xs.map (putAt k u)) := by
  induction r with
  | nil => exact .nil
  | @cons p q ps qs h t ih =>
    rw [yAP, yAP]
    refine .cons ?_ ih
    obtain ⟨h1, h2, h3⟩ := h
    unfold putAt
    by_cases e : p.1 = k
    . rw [if_pos e, if_pos (h1.symm.trans e)]; exact ⟨h1, h2, ry⟩
    . rw [if_neg e, if_neg (fun z => e (h1.trans z))]; exact ⟨h1, h2, h3⟩
theorem KT.put {H : Hp} {kvs : List (List Key × V)} {xs : List (List Key × Addr × Value)} (r : KT H kvs xs) (k : List Key) {b : Addr} {y : V} {u : Value} (hb : H b = some (.tup (k.map kV))) (ry : RelV y u) :
    KT H (putK kvs k y) (storedH xs k b u) := by
  have e : (kvs.any fun kv => decide (kv.1 = k)) = (atKey xs k).isSome := by
    rw [ZCK, (r.val k).isSome_eq, Option.isSome_map]
  unfold putK storedH
  rw [e]
  by_cases q : (atKey xs k).isSome = true
  . rw [if_pos q, if_pos q]; exact r.repl k ry
  . rw [if_neg q, if_neg q]; exact Paired.snoc r ⟨rfl, hb, ry⟩
theorem KT.keeps {H H' : Hp} {kvs : List (List Key × V)} {xs : List (List Key × Addr × Value)} (r : KT H kvs xs) (ht : ∀ b ys, H b = some (.tup ys) -> H' b = some (.tup ys)) : KT H' kvs xs :=
  Paired.mapP r fun _ _ z => ⟨z.1, ht _ _ z.2.1, z.2.2⟩
section
variable {P : Program} {w : World} {H : Hp} {h : Heap} {a : Addr}
theorem rd_of {u : HO} (ok : HOk P w H h) (e : Rd H a u) : ObjOk P w H h a u := e.ok ok
theorem ZEj {kvs : List (Key × V)} (ok : HOk P w H h) (e : Rd H a (.dK kvs)) : kvs.length <= sizeLine /\ (a == sysModules) = false /\ ∃ vs, KV kvs vs /\ h.DictOf (ZAT P w) a vs :=
  show ObjOk P w H h a (.dK kvs) from rd_of ok e
theorem dk_of {kvs : List (Key × V)} (ok : HOk P w H h) (e : H a = some (.dK kvs)) : kvs.length <= sizeLine /\ (a == sysModules) = false /\ ∃ vs, KV kvs vs /\ h.DictOf (ZAT P w) a vs := ZEj ok (.inl e)
theorem ZD5 {ks : List Key} (ok : HOk P w H h) (e : H a = some (.tup (ks.map kV))) : (tupleKind (ZAT P w)).is h ks a := by
  obtain ⟨_, its, r, o, h1, h2, n, h3⟩ := (show ObjOk P w H h a (.tup (ks.map kV)) from ok a _ e)
  exact ⟨o, its.toArray, n, h1, h2, h3, by simpa using items_are r⟩
theorem ZEi {kvs : List (List Key × V)} (ok : HOk P w H h) (e : Rd H a (.dT kvs)) : kvs.length <= sizeLine /\ (a == sysModules) = false /\
    ∃ xs, KT H kvs xs /\ h.DictOfH (tupleKind (ZAT P w)) a xs := by
  obtain ⟨z, y, xs, r, o, es, ep, h1, h2, h3, h4, h5⟩ := (show ObjOk P w H h a (.dT kvs) from rd_of ok e)
  refine ⟨z, y, xs, r, o, es, ep, h1, h2, h3, h4, fun x hx => ?_, h5⟩
  have all : ∀ {l : List (List Key × V)} {m : List (List Key × Addr × Value)}, KT H l m -> ∀ x ∈ m, (tupleKind (ZAT P w)).is h x.1 x.2.1 := by
    intro l m q
    induction q with
    | nil => intro x hx; exact nomatch hx
    | @cons p q ps qs hq t ih =>
      intro x hx
      rcases yAH.mp hx with e | hx
      . subst e
        exact ZD5 ok (by rw [<- hq.1]; exact hq.2.1)
      . exact ih x hx
  exact all r x hx
theorem dt_of {kvs : List (List Key × V)} (ok : HOk P w H h) (e : H a = some (.dT kvs)) : kvs.length <= sizeLine /\ (a == sysModules) = false /\
    ∃ xs, KT H kvs xs /\ h.DictOfH (tupleKind (ZAT P w)) a xs := ZEi ok (.inl e)
end
def DGet (H : Hp) (a : Addr) (y : V) (r : Option V) : Prop :=
  (∃ kvs k, Rd H a (.dK kvs) /\ y = kV k /\ r = valV kvs k) ∨ ∃ kvs k b, Rd H a (.dT kvs) /\ y = .ref b /\ H b = some (.tup (k.map kV)) /\ r = valV kvs k
def DPut (H : Hp) (a : Addr) (y v : V) (H' : Hp) : Prop :=
  (∃ kvs k, H a = some (.dK kvs) /\ y = kV k /\ kvs.length < sizeLine /\ H' = upd H a (.dK (putK kvs k v))) ∨
  ∃ kvs k b, H a = some (.dT kvs) /\ y = .ref b /\ H b = some (.tup (k.map kV)) /\ kvs.length < sizeLine /\ H' = upd H a (.dT (putK kvs k v))
theorem DGet.t {H : Hp} {a b : Addr} {kvs : List (List Key × V)} {k : List Key} (e : H a = some (.dT kvs)) (eb : H b = some (.tup (k.map kV))) : DGet H a (.ref b) (valV kvs k) := .inr ⟨kvs, k, b, .inl e, rfl, eb, rfl⟩
theorem DPut.t {H : Hp} {a b : Addr} {kvs : List (List Key × V)} {k : List Key} {v : V} (e : H a = some (.dT kvs)) (eb : H b = some (.tup (k.map kV))) (hl : kvs.length < sizeLine) :
    DPut H a (.ref b) v (upd H a (.dT (putK kvs k v))) := .inr ⟨kvs, k, b, e, rfl, eb, hl, rfl⟩
section
variable {X : Cx} {pins : List (Addr × Obj)} {σ : St} {H : Hp} {s : Shared} {a : Addr} {y v : V} {u r : Value} {o : Option V} {A : Around} {E : Value -> Shared -> Prop}
theorem Inv.big (I : Inv X pins σ H s) : sysModules < s.heap.objs.size := by
  have h : mainGlobals < s.heap.objs.size := (I.mod.glob.keeps I.bk).lt
  exact Nat.lt_trans (by decide) h
theorem d_getItem {Q : Value -> Shared -> Prop} (hu : A.units + 1 < cLine) (I : Inv X pins σ H s) (g : DGet H a y (some v)) (ry : RelV y u) (h : ∀ w' s', Inv X pins σ H s' -> RelV v w' -> Q w' s') :
    wpAny (model X.prog X.w) A (getItem (.ref a) u) Q E s := by
  rcases g with ⟨kvs, k, e, ey, l⟩ | ⟨kvs, k, b, e, ey, eb, l⟩
  . subst ey
    obtain ⟨z, hd, vs, rel, dd⟩ := ZEj I.hok e
    obtain ⟨w', hw, rw'⟩ := RelO.some_of (v := v) (o := valueAt vs k) (by rw [l]; exact rel.val k)
    exact wpAny_getItem_of (ZEh ry) dd.mapOf hw (h w' _ (I.tok _) rw')
  . subst ey
    cases (show u = Value.ref b from ry)
    obtain ⟨z, hd, xs, rel, dd⟩ := ZEi I.hok e
    obtain ⟨w', hw, rw'⟩ := RelO.some_of (v := v) (o := (atKey xs k).map (·.2)) (by rw [l]; exact rel.val k)
    obtain ⟨p, hp, hp2⟩ := yBU.mp hw
    refine wpAny_getItem_heap (tupleKind_room_in1 hu) (ZD5 I.hok eb) dd hp ?_
    rw [hp2]
    exact h w' _ (I.tok _) rw'
theorem d_write {h' : Heap} {t' : Nat} {ob : HO} (I : Inv X pins σ H s) (mu : Mut (H a)) (hs : Heap.SameBut a s.heap h') (he : ∃ q, h'.get? a = some q) (new : ObjOk X.prog X.w (upd H a ob) h' a ob) :
    Inv X pins σ (upd H a ob) { s with heap := h', toks := t' } :=
  I.write (x := a) (e := a) mu (.inl rfl) (fun b q hb z => (hs.2 b hb).trans z) he new
theorem dk_new {P : Program} {w : World} {H' : Hp} {h' : Heap} {kvs : List (Key × V)} {vs : List (Key × Value)} (z : kvs.length <= sizeLine) (hd : (a == sysModules) = false) (rel : KV kvs vs) (dd : h'.DictOf (ZAT P w) a vs) :
    ObjOk P w H' h' a (.dK kvs) := ⟨z, hd, vs, rel, dd⟩
theorem d_setItem {H' : Hp} {Q : Unit -> Shared -> Prop} (hu : A.units + 1 < cLine) (I : Inv X pins σ H s) (g : DPut H a y v H') (ry : RelV y u) (rv : RelV v r) (h : ∀ s', Inv X pins σ H' s' -> Q () s') :
    wpAny (model X.prog X.w) A (setItem (.ref a) u r) Q E s := by
  rcases g with ⟨kvs, k, e, ey, l, eH⟩ | ⟨kvs, k, b, e, ey, eb, l, eH⟩
  . subst ey eH
    obtain ⟨z, hd, vs, rel, dd⟩ := dk_of I.hok e
    have hz : vs.length <= sizeLine := by rw [<- rel.length]; exact z
    have hl : (putK kvs k v).length <= sizeLine := by have := ZBp kvs k v; omega
    refine wpAny_setItem_pairs (hsz := hz) (ZEh ry) dd fun h' dd' hs => h _ ?_
    have he : ∃ q, h'.get? a = some q := let ⟨q, _, _, hq, _⟩ := dd'; ⟨q, hq⟩
    exact d_write I (by rw [e]; exact True.intro) hs he (dk_new hl hd (rel.put k rv) dd')
  . subst ey eH
    cases (show u = Value.ref b from ry)
    obtain ⟨z, hd, xs, rel, dd⟩ := dt_of I.hok e
    have hz : xs.length <= sizeLine := by rw [<- Paired.length rel]; exact z
    have hl : (putK kvs k v).length <= sizeLine := by have := ZBp kvs k v; omega
    refine wpAny_setItem_heap (hsz := hz) (tupleKind_room_in1 hu) (ZD5 I.hok eb) dd fun h' dd' hs => h _ ?_
    obtain ⟨q, es, ep, hq, h2, h3, h4, _, h5⟩ := dd'
    refine d_write I (by rw [e]; exact True.intro) hs ⟨q, hq⟩ ⟨hl, hd, _, (rel.put k eb rv).keeps fun c ys ec => ?_, q, es, ep, hq, h2, h3, h4, h5⟩
    rw [ZAI (ne_of ec e (fun z => nomatch z))]
    exact ec
end
section
variable {X : Cx} {pins : List (Addr × Obj)} {σ : St} {H : Hp} {s : Shared} {a : Addr} {kvs : List (Key × V)} {k : Key} {u : Value} {A : Around} {E : Value -> Shared -> Prop}
end
def NoSl (i : Expr) : Prop := ∀ ov iv, subscripted i false ov iv = operate [ov, iv] (getItem ov iv)
theorem subD_of {prog : Program} {w : World} {A : Around} {E : Value -> Shared -> Prop} {s : Shared} {env : Env} {value slice : Expr} {pos : Pos} {T id : String} {Q : Value -> Shared -> Prop}
    (hl : typeLookup (.type T) "__getitem__" = pure (some (.builtin id))) (hs : NoSl slice)
    (h : wpAny (model prog w) A (eval value env) (fun o s₁ => wpAny (model prog w) A (eval slice env) (fun i s₂ => s₂.TypeIs o T /\ wpAny (model prog w) A (getItem o i) Q E s₂) E s₁) E s) :
    wpAny (model prog w) A (eval (.Subscript value slice pos) env) Q E s := by
  refine Subscript_ (wpAny_mono h (fun o s₁ h₁ => wpAny_mono h₁ (fun i s₂ h₂ => ?_) fun _ _ x => x) fun _ _ x => x)
  obtain ⟨hT, h₂⟩ := h₂
  unfold subscriptTail
  refine wpAny_bind ?_
  rw [getitemInPython_of_ne hT.not_modules]
  refine wpAny_bind (wpAny_specialOf hT hl ?_)
  have fin : wpAny (model prog w) A (subscripted slice false o i) (fun r s₃ => wpAny (model prog w) A (letTemporaryGo value o r >>= fun _ => pure r) Q E s₃) E s₂ := by
    rw [hs o i]
    exact wpAny_operating (wpAny_mono h₂ (fun r s₃ h₃ => wpAny_bind (wpAny_letTemporaryGo (wpAny_pure h₃))) fun _ _ x => x)
  first
    | exact wpAny_pure (wpAny_bind fin)
    | exact wpAny_bind (wpAny_pure (wpAny_bind fin))
    | exact wpAny_bind fin
theorem dict_typeIs {X : Cx} {pins : List (Addr × Obj)} {σ : St} {H : Hp} {s : Shared} {a : Addr} {y : V} {o : Option V} (I : Inv X pins σ H s) (g : DGet H a y o) : s.TypeIs (.ref a) "dict" := by
  rcases g with ⟨kvs, k, e, _, _⟩ | ⟨kvs, k, b, e, _, _, _⟩
  . obtain ⟨_, _, vs, _, dd⟩ := ZEj I.hok e
    exact dd.typeIs
  . obtain ⟨_, _, xs, _, dd⟩ := ZEi I.hok e
    exact dd.typeIs
def ZEs (td ty : TE) : TE := fun σ H Q => td σ H fun x H1 => ty σ H1 fun y H2 => ∃ a v, x = .ref a /\ DGet H2 a y (some v) /\ Q v H2
def tDIn (ty td : TE) : TE := fun σ H Q => ty σ H fun y H1 => td σ H1 fun x H2 => ∃ a o, x = .ref a /\ DGet H2 a y o /\ Q (.bl o.isSome) H2
def tDNotIn (ty td : TE) : TE := fun σ H Q => ty σ H fun y H1 => td σ H1 fun x H2 => ∃ a o, x = .ref a /\ DGet H2 a y o /\ Q (.bl (!o.isSome)) H2
def ZEu (td ty tv : TE) : TS := fun D σ H => tv σ H fun v H1 => td σ H1 fun x H2 => ty σ H2 fun y H3 => ∃ a H4, x = .ref a /\ DPut H3 a y v H4 /\ D.nx σ H4
section
variable {X : Cx} {o i e value : Expr} {pos pos' tpos : Pos} {td ty tv : TE}
theorem ZDn (hu : X.A.units + 1 < cLine) (ho : PE X o td) (hi : PE X i ty) (hs : NoSl i) : PE X (.Subscript o i pos) (ZEs td ty) := by
  intro pins s σ H Q I h
  refine subD_of PySem.F.slot_dict_getitem.lookup hs (thn (ho pins s σ H _ I h) fun u s1 ⟨x, H1, I1, rx, q1⟩ => thn (hi pins s1 σ H1 _ I1 q1) fun iv s2 ⟨y, H2, I2, ry, a, v, ex, g, q2⟩ => ?_)
  subst ex
  obtain rfl : u = Value.ref a := rx
  exact ⟨dict_typeIs I2 g, d_getItem hu I2 g ry fun w' s3 I3 rw' => ⟨v, H2, I3, rw', q2⟩⟩
theorem ZCY (hu : X.A.units + 1 < cLine) (ho : PE X o td) (hi : PE X i ty) (hv : PE X value tv) (hs : swapsWith value (some (.Subscript o i pos')) pos.line X.env = pure false) :
    PS X (.Assign [.Subscript o i pos'] value pos) (ZEu td ty tv) := by
  intro pins s σ H D I h
  refine wpAny_Assign_Subscript (thn (hv pins s σ H _ I h) fun r s1 ⟨v, H1, I1, rv, q1⟩ => thn (ho pins s1 σ H1 _ I1 q1) fun u s2 ⟨x, H2, I2, rx, q2⟩ => thn (hi pins s2 σ H2 _ I2 q2) fun iv s3 ⟨y, H3, I3, ry, a, H4, ex, g, q3⟩ => ?_) hs
  subst ex
  obtain rfl : u = Value.ref a := rx
  exact d_setItem hu I3 g ry rv fun s4 I4 => ⟨σ, H4, I4, q3⟩
end
theorem dt_empty {P : Program} {w : World} {H : Hp} (h : Heap) (hb : sysModules < h.objs.size) : ObjOk P w H (h.push { cls := .type "dict", data := .dict #[] }) h.objs.size (.dT []) :=
  ⟨yAF _, beq_eq_false_iff_ne.mpr (Ne.symm (yAL hb)), [], .nil, _, #[], 0, Heap.get?_push_size _ rfl, ⟨rfl, rfl, rfl⟩, rfl, rfl, List.nodup_nil⟩
def tDNewK : TE := fun _ H Q => ∀ p, H p = none -> Q (.ref p) (upd H p (.dK []))
def ZEG : TE := fun _ H Q => ∀ p, H p = none -> Q (.ref p) (upd H p (.dT []))
section
variable {X : Cx} {pos : Pos}
theorem pe_dnewT : PE X (.Dict [] [] pos) ZEG := fun pins s σ H Q I h =>
  wpAny_Dict_empty ⟨.ref s.heap.objs.size, _, I.laid (a := s.heap.objs.size) (o := .dT []) (t' := s.toks) (fun _ _ q => Heap.get?_push_of_some _ q) (yAB _) (dt_empty s.heap I.big), rfl, h _ (I.hok.fresh (yAB _))⟩
end
def rDGet : V -> List V -> Hp -> VK -> Prop := fun x vs H Q => ∃ a y o, x = .ref a /\ vs = [y] /\ DGet H a y o /\ Q (o.getD .non) H
theorem mt_dget {X : Cx} (hu : X.A.units + 1 < cLine) : MtR X "dict.get" rDGet := by
  intro pins s σ H x vs v us Q I rx rv h
  obtain ⟨a, y, o, rfl, rfl, g, q⟩ := h
  cases rx
  obtain ⟨u, rfl, ry⟩ := rv.one
  rcases g with ⟨kvs, k, e, ey, l⟩ | ⟨kvs, k, b, e, ey, eb, l⟩
  . subst ey
    obtain ⟨z, hd, vs, rel, dd⟩ := ZEj I.hok e
    refine call_meetsIn PySem.F.slot_dict_get dd.typeIs PySem.F.entry_dict_get (PySem.F.args_dict_get_2 _ _) (meets_dict_get (ZAT X.prog X.w) a (ZEh ry) hd) ⟨_, dd.mapOf, ?_⟩
    subst l
    exact ⟨_, H, I.tok _, (rel.val k).getD (d := .non) (d' := .none) rfl, q⟩
  . subst ey
    cases (show u = Value.ref b from ry)
    obtain ⟨z, hd, xs, rel, dd⟩ := ZEi I.hok e
    refine call_meetsIn PySem.F.slot_dict_get dd.typeIs PySem.F.entry_dict_get (PySem.F.args_dict_get_2 _ _) (meetsH_dict_get (tupleKind (ZAT X.prog X.w)) a b hd) ⟨tupleKind_room_in1 hu, k, xs, ZD5 I.hok eb, dd, ?_⟩
    subst l
    exact ⟨_, H, I.tok _, (rel.val k).getD (d := .non) (d' := .none) rfl, q⟩
end L2
namespace PySem
open Sem (wp)
namespace F
end F
section
variable {α : Type} {prog : Program} {w : World} {A : Around} {E : Value -> Shared -> Prop} {s : Shared}
end
section
variable {prog : Program} {w : World} {A : Around} {E : Value -> Shared -> Prop} {h : Heap} {g : Array GenState} {d : Drawn} {t : Nat} {os : OsState} {a : Addr} {its : Array Value} {n : Nat}
end
end PySem
namespace PySem
namespace F
end F
end PySem
namespace L2
open PySem PySem.Spec PyProof.Rows
theorem key_mono {P : Program} {w : World} {h h' : Heap} {ks : List Key} {a : Addr} (m : ∀ b o, h.get? b = some o -> h'.get? b = some o) (k : (tupleKind (ZAT P w)).is h ks a) : (tupleKind (ZAT P w)).is h' ks a := by
  obtain ⟨o, its, n, h1, r⟩ := k
  exact ⟨o, its, n, m _ _ h1, r⟩
section
variable {X : Cx} {pins : List (Addr × Obj)} {σ : St} {H : Hp} {s1 : Shared} {A : Around}
end
end L2
namespace PySem
section
variable {prog : Program} {w : World} {A : Around} {E : Value -> Shared -> Prop} {s : Shared} {zo ti to : Addr} {f0 f1 : Value}
end
end PySem
namespace L2
open PySem PySem.Spec PyProof.Rows
section
variable {X : Cx}
end
section
variable {K : W.Frag} {a b : Addr} {xs ys : List V} {g : TG} {σ : St} {H : Hp} {tt : TT} {te : TE} {Q : VK} {σ0 : St}
end
section
variable {X : Cx}
end
section
variable {X : Cx}
end
section
variable {X : Cx}
theorem op_in_seqK (K : W.Frag) (h : X.K = K := by rfl) : OpR X (compareOp .In) (rIn K false) := h ▸ op_in_seq
end
theorem flat_nats (A : List Nat) : ((A.map fun (n : Nat) => V.int (n : Int)).all ZDS) = true := by
  induction A with
  | nil => rfl
  | cons a r ih => rw [yAP, List.all_cons, ih]; rfl
theorem inV_nats (x : Nat) (A : List Nat) : inV (.int (x : Int)) (A.map fun (n : Nat) => V.int (n : Int)) = decide (x ∈ A) := by
  induction A with
  | nil => rfl
  | cons a r ih =>
    unfold inV at *
    rw [yAP, yCR, ih]
    by_cases e : x = a
    . subst e
      simp [eqV]
    . have h : eqV (.int (a : Int)) (.int (x : Int)) = false := by
        unfold eqV
        simp
        omega
      rw [h, Bool.false_or]
      by_cases m : x ∈ r
      . rw [decide_eq_true m, decide_eq_true (yAS _ m)]
      . rw [decide_eq_false m, decide_eq_false (fun z => (yAH.mp z).elim e m)]
end L2
namespace L2S
open PySem PyProof.Rows
def kn (f : Keyed -> Int) (xs : Array Keyed) (i : Nat) : Int := ((xs[i]?).map f).getD 0
theorem ZA2 {f : Keyed -> Int} {xs ys : Array Keyed} {i j : Nat} (h : xs[i]? = ys[j]?) : kn f xs i = kn f ys j := by unfold kn; rw [h]
structure Asks (M : Model) (A : Around) (E : Value -> Shared -> Prop) (s : Shared) (κ : SortKind) (a₀ : Array Keyed) (f : Keyed -> Int) : Prop where
  lt : ∀ x y, x ∈ a₀.toList -> y ∈ a₀.toList -> ∀ (st : SortSt) (Q : Option Bool -> SortSt -> Prop), kindOf st = κ -> Q (some (decide (f x < f y))) st -> wpS M A E s (lt' x y) Q st
structure SB (κ : SortKind) (a₀ : Array Keyed) (st : SortSt) : Prop where
  perm : (arrOf st).Perm a₀
  kind : kindOf st = κ
  fail : failedOf st = none
theorem SB.size {κ : SortKind} {a₀ : Array Keyed} {st : SortSt} (h : SB κ a₀ st) : (arrOf st).size = a₀.size := h.perm.size_eq
theorem SB.arr {κ : SortKind} {a₀ : Array Keyed} {st : SortSt} (h : SB κ a₀ st) {xs : Array Keyed} (hp : xs.Perm (arrOf st)) : SB κ a₀ (setArr st xs) := ⟨hp.trans h.perm, h.kind, h.fail⟩
theorem SB.get {κ : SortKind} {a₀ : Array Keyed} {st : SortSt} {f : Keyed -> Int} (h : SB κ a₀ st) {i : Nat} (hi : i < a₀.size) : ∃ x, (arrOf st)[i]? = some x /\ x ∈ a₀.toList /\ kn f (arrOf st) i = f x := by
  have hi' : i < (arrOf st).size := by rw [h.size]; exact hi
  refine ⟨(arrOf st)[i], getElem?_pos _ i hi', (Array.perm_iff_toList_perm.mp h.perm).mem_iff.mp (by simp), ?_⟩
  unfold kn
  rw [getElem?_pos _ i hi']
  rfl
def Up (f : Keyed -> Int) (xs : Array Keyed) (lo n : Nat) : Prop := ∀ i j, lo <= i -> i <= j -> j < lo + n -> kn f xs i <= kn f xs j
def Down (f : Keyed -> Int) (xs : Array Keyed) (lo n : Nat) : Prop := ∀ i j, lo <= i -> i <= j -> j < lo + n -> kn f xs j <= kn f xs i
def Kept (lo : Nat) (xs ys : Array Keyed) : Prop := ∀ i, i < lo -> ys[i]? = xs[i]?
theorem Kept.refl {lo : Nat} {xs : Array Keyed} : Kept lo xs xs := fun _ _ => rfl
theorem Kept.trans {lo : Nat} {xs ys zs : Array Keyed} (a : Kept lo xs ys) (b : Kept lo ys zs) : Kept lo xs zs := fun i h => (b i h).trans (a i h)
theorem ZCv {f : Keyed -> Int} {xs : Array Keyed} {i j : Nat} (hj : j <= xs.size) (k : Nat) : kn f (mirror xs i j ((j - i) / 2)) k = if i <= k /\ k < j then kn f xs (i + j - 1 - k) else kn f xs k := by
  have e := getElem?_mirror_all (i := i) hj k
  split
  . rename_i h; rw [if_pos h] at e; exact ZA2 e
  . rename_i h; rw [if_neg h] at e; exact ZA2 e
theorem ZBq {lo : Nat} {xs : Array Keyed} {i j : Nat} (hj : j <= xs.size) (hi : lo <= i) : Kept lo xs (mirror xs i j ((j - i) / 2)) := fun k hk => by
  rw [getElem?_mirror_all hj k, if_neg (by omega)]
theorem ZCu {f : Keyed -> Int} {xs : Array Keyed} {i j : Nat} (hj : j <= xs.size) (he : ∀ k, i <= k -> k < j -> kn f xs k = kn f xs (j - 1)) (k : Nat) : kn f (mirror xs i j ((j - i) / 2)) k = kn f xs k := by
  rw [ZCv hj]
  split
  . rename_i h; rw [he _ (by omega) (by omega), he k h.1 h.2]
  . rfl
section
variable {M : Model} {A : Around} {E : Value -> Shared -> Prop} {s : Shared} {κ : SortKind} {a₀ : Array Keyed} {f : Keyed -> Int}
theorem ZDb {st : SortSt} {i j : Nat} {Q : Option Bool -> SortSt -> Prop} (L : Asks M A E s κ a₀ f) (hB : SB κ a₀ st) (hi : i < a₀.size) (hj : j < a₀.size)
    (h : Q (some (decide (kn f (arrOf st) i < kn f (arrOf st) j))) st) : wpS M A E s (ltAt' i j) Q st := by
  obtain ⟨x, e1, m1, k1⟩ := hB.get (f := f) hi
  obtain ⟨y, e2, m2, k2⟩ := hB.get (f := f) hj
  rw [ltAt'_eq]
  refine wpS_bind (wpS_get ?_)
  show wpS _ _ _ _ (elem' (arrOf st) i >>= fun x => elem' (arrOf st) j >>= fun y => lt' x y) Q st
  rw [elem'_eq, elem'_eq, e1, e2]
  refine wpS_bind (wpS_pure (wpS_bind (wpS_pure (L.lt x y m1 m2 st Q hB.kind ?_))))
  rw [<- k1, <- k2]
  exact h
theorem ZD2 {st : SortSt} {i j : Nat} {Q : Unit -> SortSt -> Prop} (h : Q () (setArr st (mirror (arrOf st) i j ((j - i) / 2)))) : wpS M A E s (reverseSlice' i j) Q st := by
  rw [reverseSlice'_eq]
  exact wpS_modify h
def ZCC (lo a nrem : Nat) : StateT SortSt Sem AscSt :=
  forIn [a:nrem] ((none, a) : AscSt) fun _ c => do
    let r <- ltAt' (lo + c.snd) (lo + c.snd - 1)
    match r with
    | some b => if b = true then pure (ForInStep.done (none, c.snd)) else pure (ForInStep.yield (none, c.snd + 1))
    | _ => pure (ForInStep.done (some none, c.snd))
def ZDf (lo n nrem : Nat) : StateT SortSt Sem (Option Nat) := do
  reverseSlice' lo (lo + n)
  let c <- ZCC lo n nrem
  match c.fst with
  | some r => pure r
  | none => pure (some c.snd)
def ZCB (lo n nrem : Nat) : StateT SortSt Sem DescSt :=
  forIn [n:nrem] ((none, n, 0) : DescSt) fun _ c => do
    let r <- ltAt' (lo + c.snd.fst) (lo + c.snd.fst - 1)
    match r with
    | some b =>
      if b = true then
        if c.snd.snd > 0 then do
          reverseSlice' (lo + c.snd.fst - (c.snd.snd + 1)) (lo + c.snd.fst)
          pure (ForInStep.yield (none, c.snd.fst + 1, 0))
        else pure (ForInStep.yield (none, c.snd.fst + 1, 0))
      else do
        let r2 <- ltAt' (lo + c.snd.fst - 1) (lo + c.snd.fst)
        match r2 with
        | some b2 =>
          if b2 = true then pure (ForInStep.done (none, c.snd.fst, c.snd.snd))
          else pure (ForInStep.yield (none, c.snd.fst + 1, c.snd.snd + 1))
        | _ => pure (ForInStep.done (some none, c.snd.fst, c.snd.snd))
    | _ => pure (ForInStep.done (some none, c.snd.fst, c.snd.snd))
def ZCS (lo n nrem : Nat) : StateT SortSt Sem (Option Nat) := do
  liftM (rule "list.sort.descending-run")
  let c <- ZCB lo (n + 1) nrem
  match c.fst with
  | some r => pure r
  | none =>
    if c.snd.snd > 0 then do
      reverseSlice' (lo + c.snd.fst - (c.snd.snd + 1)) (lo + c.snd.fst)
      ZDf lo c.snd.fst nrem
    else ZDf lo c.snd.fst nrem
theorem bnd {α β : Type} (m : StateT SortSt Sem α) {g h : α -> StateT SortSt Sem β} (e : ∀ a, g a = h a) : (m >>= g) = (m >>= h) := by rw [show g = h from funext e]
theorem count_eq (lo nrem : Nat) : countRun' lo nrem = (do
    let c <- ZCC lo 1 nrem
    match c.fst with
    | some r => pure r
    | none =>
      if (c.snd == nrem) = true then pure (some c.snd)
      else if c.snd > 1 then do
        let r <- ltAt' lo (lo + c.snd - 1)
        match r with
        | some b => if b = true then pure (some c.snd) else do
            reverseSlice' lo (lo + c.snd)
            ZCS lo c.snd nrem
        | _ => pure none
      else ZCS lo c.snd nrem) := by
  have tl : ∀ n2 : Nat, ZDf lo n2 nrem = (reverseSlice' lo (lo + n2) >>= fun _ => ZCC lo n2 nrem >>= fun c => match c.fst with | some r => pure r | none => pure (some c.snd)) := fun _ => rfl
  rw [countRun'_eq]
  refine bnd (ZCC lo 1 nrem) fun c => ?_
  obtain ⟨r, n⟩ := c
  cases r with
  | some r => rfl
  | none =>
    have dn : ∀ n1 : Nat, (liftM (rule "list.sort.descending-run") >>= fun _ => ZCB lo (n1 + 1) nrem >>= fun c => match c.fst with
        | some r => pure r
        | none => if c.snd.snd > 0 then (reverseSlice' (lo + c.snd.fst - (c.snd.snd + 1)) (lo + c.snd.fst) >>= fun _ => ZDf lo c.snd.fst nrem) else ZDf lo c.snd.fst nrem) = ZCS lo n1 nrem := fun _ => rfl
    dsimp only
    split
    . rfl
    . split
      . refine bnd (ltAt' lo (lo + n - 1)) fun x => ?_
        cases x with
        | none => rfl
        | some rose =>
          dsimp only
          split
          . rfl
          . refine bnd _ fun _ => ?_
            rw [<- dn]
            refine bnd _ fun _ => bnd (ZCB lo (n + 1) nrem) fun s2 => ?_
            obtain ⟨r2, n2, q2⟩ := s2
            cases r2 with
            | some r2 => rfl
            | none =>
              dsimp only
              split
              . refine bnd _ fun _ => ?_
                rw [tl]
                refine bnd _ fun _ => bnd (ZCC lo n2 nrem) fun s3 => ?_
                obtain ⟨r3, n3⟩ := s3
                cases r3 <;> rfl
              . rw [tl]
                refine bnd _ fun _ => bnd (ZCC lo n2 nrem) fun s3 => ?_
                obtain ⟨r3, n3⟩ := s3
                cases r3 <;> rfl
      . rw [<- dn]
        refine bnd _ fun _ => bnd (ZCB lo (n + 1) nrem) fun s2 => ?_
        obtain ⟨r2, n2, q2⟩ := s2
        cases r2 with
        | some r2 => rfl
        | none =>
          dsimp only
          split
          . refine bnd _ fun _ => ?_
            rw [tl]
            refine bnd _ fun _ => bnd (ZCC lo n2 nrem) fun s3 => ?_
            obtain ⟨r3, n3⟩ := s3
            cases r3 <;> rfl
          . rw [tl]
            refine bnd _ fun _ => bnd (ZCC lo n2 nrem) fun s3 => ?_
            obtain ⟨r3, n3⟩ := s3
            cases r3 <;> rfl
theorem up_one {xs : Array Keyed} {lo : Nat} : Up f xs lo 1 := fun i j h1 h2 h3 => by rw [show i = j by omega]; exact Int.le_refl _
theorem up_loop {st : SortSt} {lo a nrem : Nat} {Q : AscSt -> SortSt -> Prop} (L : Asks M A E s κ a₀ f) (hn : lo + nrem <= a₀.size) (ha : 1 <= a) (han : a <= nrem) (hB : SB κ a₀ st) (hs : Up f (arrOf st) lo a)
    (h : ∀ n, a <= n -> n <= nrem -> Up f (arrOf st) lo n -> (n = nrem ∨ kn f (arrOf st) (lo + n) < kn f (arrOf st) (lo + n - 1)) -> Q (none, n) st) : wpS M A E s (ZCC lo a nrem) Q st := by
  unfold ZCC
  refine wpS_forRange (I := fun x c st' => st' = st /\ c = (none, x) /\ Up f (arrOf st) lo x) ?_ ?_ ⟨rfl, rfl, hs⟩
  . rintro x c st' hax hxn ⟨rfl, rfl, hs'⟩
    dsimp only
    refine wpS_bind (ZDb L hB (by omega) (by omega) ?_)
    by_cases hl : kn f (arrOf st') (lo + x) < kn f (arrOf st') (lo + x - 1)
    . rw [decide_eq_true hl]
      exact wpS_pure (h x hax (by omega) hs' (.inr hl))
    . rw [decide_eq_false hl]
      refine wpS_pure ⟨rfl, rfl, fun i j h1 h2 h3 => ?_⟩
      by_cases hj : j < lo + x
      . exact hs' i j h1 h2 hj
      . by_cases hi : i = j
        . rw [hi]; exact Int.le_refl _
        . have e1 := hs' i (lo + x - 1) h1 (by omega) (by omega)
          rw [show j = lo + x by omega]
          omega
  . rintro c st' ⟨rfl, rfl, hs'⟩
    rw [Nat.max_eq_right han] at hs' ⊢
    exact h nrem han (yAB _) hs' (.inl rfl)
abbrev ZEa (κ : SortKind) (a₀ : Array Keyed) (f : Keyed -> Int) (lo nrem : Nat) (xs : Array Keyed) (pd : Array (Nat × Nat × Nat)) (Q : Option Nat -> SortSt -> Prop) : Prop :=
  ∀ m st', SB κ a₀ st' -> 1 <= m -> m <= nrem -> Up f (arrOf st') lo m -> Kept lo xs (arrOf st') -> pendingOf st' = pd -> Q (some m) st'
theorem tail_l {st : SortSt} {lo n nrem : Nat} {xs : Array Keyed} {pd : Array (Nat × Nat × Nat)} {Q : Option Nat -> SortSt -> Prop} (L : Asks M A E s κ a₀ f) (hn : lo + nrem <= a₀.size) (h1 : 1 <= n) (hnn : n <= nrem) (hB : SB κ a₀ st)
    (hs : Down f (arrOf st) lo n) (hk : Kept lo xs (arrOf st)) (hp : pendingOf st = pd) (h : ZEa κ a₀ f lo nrem xs pd Q) : wpS M A E s (ZDf lo n nrem) Q st := by
  unfold ZDf
  have hsz : lo + n <= (arrOf st).size := by rw [hB.size]; omega
  refine wpS_bind (ZD2 ?_)
  have hB' : SB κ a₀ (setArr st (mirror (arrOf st) lo (lo + n) ((lo + n - lo) / 2))) := hB.arr (mirror_perm _ _ _ _)
  have hk' : Kept lo xs (mirror (arrOf st) lo (lo + n) ((lo + n - lo) / 2)) := hk.trans (ZBq hsz (yAB _))
  refine wpS_bind (up_loop L hn h1 hnn hB' (fun i j z1 z2 z3 => ?_) fun m hm1 hm2 hsm _ => wpS_pure (h m _ hB' (by omega) hm2 hsm hk' hp))
  show kn f (mirror (arrOf st) lo (lo + n) _) i <= kn f (mirror (arrOf st) lo (lo + n) _) j
  rw [ZCv hsz, ZCv hsz, if_pos (by omega), if_pos (by omega)]
  exact hs _ _ (by omega) (by omega) (by omega)
theorem down_loop {st : SortSt} {lo n nrem : Nat} {xs : Array Keyed} {pd : Array (Nat × Nat × Nat)} {Q : DescSt -> SortSt -> Prop} (L : Asks M A E s κ a₀ f) (hn : lo + nrem <= a₀.size) (h1 : 1 <= n) (hnn : n <= nrem) (hB : SB κ a₀ st)
    (hs : Down f (arrOf st) lo n) (hk : Kept lo xs (arrOf st)) (hp : pendingOf st = pd)
    (h : ∀ m q st', SB κ a₀ st' -> n <= m -> m <= nrem -> Down f (arrOf st') lo m -> q + 1 <= m -> (∀ i, lo + m - (q + 1) <= i -> i < lo + m -> kn f (arrOf st') i = kn f (arrOf st') (lo + m - 1)) -> Kept lo xs (arrOf st') -> pendingOf st' = pd -> Q (none, m, q) st') :
    wpS M A E s (ZCB lo n nrem) Q st := by
  unfold ZCB
  refine wpS_forRange (I := fun x c st' => ∃ q, c = (none, x, q) /\ SB κ a₀ st' /\ Down f (arrOf st') lo x /\ q + 1 <= x /\ (∀ i, lo + x - (q + 1) <= i -> i < lo + x -> kn f (arrOf st') i = kn f (arrOf st') (lo + x - 1)) /\ Kept lo xs (arrOf st') /\ pendingOf st' = pd) ?_ ?_
    ⟨0, rfl, hB, hs, by omega, fun i z1 z2 => by rw [show i = lo + n - 1 by omega], hk, hp⟩
  . rintro x c st' hax hxn ⟨q, rfl, hB', hs', hq, he, hk', hp'⟩
    dsimp only
    have hsz : lo + x <= (arrOf st').size := by rw [hB'.size]; omega
    refine wpS_bind (ZDb L hB' (by omega) (by omega) ?_)
    by_cases hl : kn f (arrOf st') (lo + x) < kn f (arrOf st') (lo + x - 1)
    . rw [decide_eq_true hl]
      have more : ∀ ys : Array Keyed, (∀ k, kn f ys k = kn f (arrOf st') k) -> Down f ys lo (x + 1) := fun ys hy i j z1 z2 z3 => by
        rw [hy, hy]
        by_cases hj : j < lo + x
        . exact hs' i j z1 z2 hj
        . by_cases hi : i = j
          . rw [hi]; exact Int.le_refl _
          . have e1 := hs' i (lo + x - 1) z1 (by omega) (by omega)
            rw [show j = lo + x by omega]
            omega
      dsimp only
      rw [if_pos rfl]
      by_cases hq0 : q > 0
      . rw [if_pos hq0]
        refine wpS_bind (ZD2 (wpS_pure ⟨0, rfl, hB'.arr (mirror_perm _ _ _ _), more _ (ZCu hsz he), by omega, fun i z1 z2 => by rw [show i = lo + (x + 1) - 1 by omega], hk'.trans (ZBq hsz (by omega)), hp'⟩))
      . rw [if_neg hq0]
        exact wpS_pure ⟨0, rfl, hB', more _ (fun _ => rfl), by omega, fun i z1 z2 => by rw [show i = lo + (x + 1) - 1 by omega], hk', hp'⟩
    . rw [decide_eq_false hl]
      dsimp only
      rw [if_neg (by decide)]
      refine wpS_bind (ZDb L hB' (by omega) (by omega) ?_)
      by_cases hg : kn f (arrOf st') (lo + x - 1) < kn f (arrOf st') (lo + x)
      . rw [decide_eq_true hg]
        exact wpS_pure (h x q st' hB' hax (by omega) hs' hq he hk' hp')
      . rw [decide_eq_false hg]
        have ex : kn f (arrOf st') (lo + x) = kn f (arrOf st') (lo + x - 1) := by omega
        refine wpS_pure ⟨q + 1, rfl, hB', fun i j z1 z2 z3 => ?_, by omega, fun i z1 z2 => ?_, hk', hp'⟩
        . by_cases hj : j < lo + x
          . exact hs' i j z1 z2 hj
          . by_cases hi : i = j
            . rw [hi]; exact Int.le_refl _
            . have e1 := hs' i (lo + x - 1) z1 (by omega) (by omega)
              rw [show j = lo + x by omega]
              omega
        . rw [show lo + (x + 1) - 1 = lo + x by omega]
          by_cases hi : i = lo + x
          . rw [hi]
          . rw [ex]; exact he i (by omega) (by omega)
  . rintro c st' ⟨q, rfl, hB', hs', hq, he, hk', hp'⟩
    rw [Nat.max_eq_right hnn] at hs' hq he ⊢
    exact h nrem q st' hB' hnn (yAB _) hs' hq he hk' hp'
theorem down_part {st : SortSt} {lo n nrem : Nat} {xs : Array Keyed} {pd : Array (Nat × Nat × Nat)} {Q : Option Nat -> SortSt -> Prop} (L : Asks M A E s κ a₀ f) (hn : lo + nrem <= a₀.size) (hnn : n + 1 <= nrem) (hB : SB κ a₀ st)
    (hs : Down f (arrOf st) lo (n + 1)) (hk : Kept lo xs (arrOf st)) (hp : pendingOf st = pd) (h : ZEa κ a₀ f lo nrem xs pd Q) : wpS M A E s (ZCS lo n nrem) Q st := by
  unfold ZCS
  refine wpS_bind (wpS_lift (wpAny_rule ⟨rfl, ?_⟩))
  refine wpS_bind (down_loop L hn (by omega) hnn hB hs hk hp fun m q st' hB' hm1 hm2 hs' hq he hk' hp' => ?_)
  dsimp only
  have hsz : lo + m <= (arrOf st').size := by rw [hB'.size]; omega
  by_cases hq0 : q > 0
  . rw [if_pos hq0]
    refine wpS_bind (ZD2 (tail_l L hn (by omega) hm2 (hB'.arr (mirror_perm _ _ _ _)) (fun i j z1 z2 z3 => ?_) (hk'.trans (ZBq hsz (by omega))) hp' h))
    show kn f (mirror (arrOf st') _ _ _) j <= kn f (mirror (arrOf st') _ _ _) i
    rw [ZCu hsz he, ZCu hsz he]
    exact hs' i j z1 z2 z3
  . rw [if_neg hq0]
    exact tail_l L hn (by omega) hm2 hB' hs' hk' hp' h
theorem count_run {st : SortSt} {lo nrem : Nat} {Q : Option Nat -> SortSt -> Prop} (L : Asks M A E s κ a₀ f) (hn : lo + nrem <= a₀.size) (h1 : 1 <= nrem) (hB : SB κ a₀ st)
    (h : ZEa κ a₀ f lo nrem (arrOf st) (pendingOf st) Q) : wpS M A E s (countRun' lo nrem) Q st := by
  rw [count_eq]
  refine wpS_bind (up_loop L hn (yAB 1) h1 hB up_one fun n hn1 hn2 hsn hor => ?_)
  dsimp only
  by_cases hnn : n = nrem
  . rw [if_pos (by simpa using hnn)]
    exact wpS_pure (h n st hB hn1 hn2 hsn .refl rfl)
  rw [if_neg (by simpa using hnn)]
  have hlt := hor.resolve_left hnn
  by_cases hgt : n > 1
  . rw [if_pos hgt]
    refine wpS_bind (ZDb L hB (by omega) (by omega) ?_)
    by_cases hr : kn f (arrOf st) lo < kn f (arrOf st) (lo + n - 1)
    . rw [decide_eq_true hr]
      exact wpS_pure (h n st hB hn1 hn2 hsn .refl rfl)
    rw [decide_eq_false hr]
    dsimp only
    rw [if_neg (by decide)]
    have hsz : lo + n <= (arrOf st).size := by rw [hB.size]; omega
    have hall : ∀ k, lo <= k -> k < lo + n -> kn f (arrOf st) k = kn f (arrOf st) (lo + n - 1) := fun k k1 k2 => by
      have a1 := hsn lo k (yAB _) k1 k2
      have a2 := hsn k (lo + n - 1) k1 (by omega) (by omega)
      omega
    refine wpS_bind (ZD2 (down_part L hn (by omega) (hB.arr (mirror_perm _ _ _ _)) (fun i j z1 z2 z3 => ?_) (ZBq hsz (yAB _)) rfl h))
    show kn f (mirror (arrOf st) _ _ _) j <= kn f (mirror (arrOf st) _ _ _) i
    rw [ZCu hsz hall, ZCu hsz hall]
    by_cases hj : j < lo + n
    . rw [hall i z1 (by omega), hall j (by omega) hj]; exact Int.le_refl _
    . by_cases hi : i = j
      . rw [hi]; exact Int.le_refl _
      . rw [hall i z1 (by omega), show j = lo + n by omega]; exact Int.le_of_lt hlt
  . rw [if_neg hgt]
    have hn1' : n = 1 := by omega
    subst hn1'
    refine down_part L hn (by omega) hB (fun i j z1 z2 z3 => ?_) .refl rfl h
    by_cases hi : i = j
    . rw [hi]; exact Int.le_refl _
    . have e1 : i = lo := by omega
      have e2 : j = lo + 1 := by omega
      subst e1 e2
      exact Int.le_of_lt hlt
theorem kn_bubble {xs : Array Keyed} {src d : Nat} (hs : src < xs.size) (hd : d <= src) (k : Nat) : kn f (bubble xs src d) k = if k = src - d then kn f xs src else if src - d < k /\ k <= src then kn f xs (k - 1) else kn f xs k := by
  have e := getElem?_bubble hs d hd k
  split
  . rename_i h; rw [if_pos h] at e; exact ZA2 e
  . rename_i h
    rw [if_neg h] at e
    split
    . rename_i h2; rw [if_pos h2] at e; exact ZA2 e
    . rename_i h2; rw [if_neg h2] at e; exact ZA2 e
theorem kept_bubble {lo : Nat} {xs : Array Keyed} {src d : Nat} (hs : src < xs.size) (hd : lo + d <= src) : Kept lo xs (bubble xs src d) := fun k hk => by
  rw [getElem?_bubble hs d (by omega) k, if_neg (by omega), if_neg (by omega)]
theorem bin_sort {st : SortSt} {lo n ok : Nat} {Q : Bool -> SortSt -> Prop} (L : Asks M A E s κ a₀ f) (hn : lo + n <= a₀.size) (hok : ok <= n) (hB : SB κ a₀ st) (hs : Up f (arrOf st) lo ok)
    (h : ∀ st', SB κ a₀ st' -> Up f (arrOf st') lo n -> Kept lo (arrOf st) (arrOf st') -> pendingOf st' = pendingOf st -> Q true st') : wpS M A E s (binarySort' lo n ok) Q st := by
  rw [binarySort'_eq]
  refine wpS_bind (wpS_mono (wpS_forRange (I := fun k c st' => c = (none, ()) /\ SB κ a₀ st' /\ Up f (arrOf st') lo (min k n) /\ Kept lo (arrOf st) (arrOf st') /\ pendingOf st' = pendingOf st)
    (Q := fun c st' => c = (none, ()) /\ SB κ a₀ st' /\ Up f (arrOf st') lo n /\ Kept lo (arrOf st) (arrOf st') /\ pendingOf st' = pendingOf st) ?_ ?_ ?_) ?_)
  . rintro k c st' hak hkn ⟨rfl, hB', hs', hk', hp'⟩
    rw [show min k n = k by omega] at hs'
    have hk : lo + k < a₀.size := by omega
    refine wpS_bind (wpS_mono (wpS_forRange (I := fun x c st2 => st2 = st' /\ ∃ l r, c = (none, l, r) /\ l <= r /\ r <= k /\ r - l <= k - x /\
        (∀ i, i < l -> kn f (arrOf st') (lo + i) <= kn f (arrOf st') (lo + k)) /\ (∀ i, r <= i -> i < k -> kn f (arrOf st') (lo + k) < kn f (arrOf st') (lo + i)))
      (Q := fun c st2 => st2 = st' /\ ∃ l r, c = (none, l, r) /\ l <= k /\ (∀ i, i < l -> kn f (arrOf st') (lo + i) <= kn f (arrOf st') (lo + k)) /\ (∀ i, l <= i -> i < k -> kn f (arrOf st') (lo + k) < kn f (arrOf st') (lo + i))) ?_ ?_ ?_) ?_)
    . rintro x c st2 _ hxk ⟨rfl, l, r, rfl, hlr, hrk, hm, hlo, hhi⟩
      dsimp only
      by_cases hge : l ≥ r
      . rw [if_pos hge]
        have : l = r := by omega
        subst this
        exact wpS_pure ⟨rfl, l, l, rfl, hrk, hlo, hhi⟩
      rw [if_neg hge]
      refine wpS_bind (ZDb L hB' hk (by omega) ?_)
      by_cases hl : kn f (arrOf st2) (lo + k) < kn f (arrOf st2) (lo + (l + r) / 2)
      . rw [decide_eq_true hl]
        refine wpS_pure ⟨rfl, l, (l + r) / 2, rfl, by omega, by omega, by omega, hlo, fun i z1 z2 => ?_⟩
        exact Int.lt_of_lt_of_le hl (hs' _ _ (by omega) (by omega) (by omega))
      . rw [decide_eq_false hl]
        refine wpS_pure ⟨rfl, (l + r) / 2 + 1, r, rfl, by omega, by omega, by omega, fun i z1 => ?_, hhi⟩
        have e1 := hs' (lo + i) (lo + (l + r) / 2) (by omega) (by omega) (by omega)
        omega
    . rintro c st2 ⟨rfl, l, r, rfl, hlr, hrk, hm, hlo, hhi⟩
      have : l = r := by omega
      subst this
      exact ⟨rfl, l, l, rfl, hrk, hlo, hhi⟩
    . exact ⟨rfl, 0, k, rfl, by omega, by omega, by omega, fun i hi => by omega, fun i z1 z2 => by omega⟩
    . rintro c st2 ⟨rfl, l, r, rfl, hlk, hlo, hhi⟩
      show wpS _ _ _ _ (moveDown' (lo + k) (lo + l) >>= fun _ => pure (ForInStep.yield (none, ()))) _ _
      rw [moveDown'_eq, show lo + k - (lo + l) = k - l by omega]
      have hks : lo + k < (arrOf st2).size := by rw [hB'.size]; exact hk
      refine wpS_bind (wpS_modify (wpS_pure ⟨rfl, hB'.arr (bubble_perm _ _ _), ?_, hk'.trans (kept_bubble hks (by omega)), hp'⟩))
      rw [show min (k + 1) n = k + 1 by omega]
      intro i j z1 z2 z3
      show kn f (bubble (arrOf st2) (lo + k) (k - l)) i <= kn f (bubble (arrOf st2) (lo + k) (k - l)) j
      have at' : ∀ m, lo <= m -> m < lo + k + 1 -> kn f (bubble (arrOf st2) (lo + k) (k - l)) m = if m < lo + l then kn f (arrOf st2) m else if m = lo + l then kn f (arrOf st2) (lo + k) else kn f (arrOf st2) (m - 1) := fun m m1 m2 => by
        rw [kn_bubble hks (by omega)]
        by_cases c1 : m < lo + l
        . rw [if_pos c1, if_neg (by omega), if_neg (by omega)]
        . rw [if_neg c1]
          by_cases c2 : m = lo + l
          . rw [if_pos c2, if_pos (by omega)]
          . rw [if_neg c2, if_neg (by omega), if_pos (by omega)]
      rw [at' i z1 (by omega), at' j (by omega) (by omega)]
      have lo' : ∀ m, lo <= m -> m < lo + l -> kn f (arrOf st2) m <= kn f (arrOf st2) (lo + k) := fun m m1 m2 => by
        have := hlo (m - lo) (by omega)
        rw [show lo + (m - lo) = m by omega] at this
        exact this
      have hi' : ∀ m, lo + l <= m -> m < lo + k -> kn f (arrOf st2) (lo + k) < kn f (arrOf st2) m := fun m m1 m2 => by
        have := hhi (m - lo) (by omega) (by omega)
        rw [show lo + (m - lo) = m by omega] at this
        exact this
      by_cases c1 : j < lo + l
      . rw [if_pos c1, if_pos (by omega)]
        exact hs' i j z1 z2 (by omega)
      rw [if_neg c1]
      by_cases c2 : j = lo + l
      . rw [if_pos c2]
        by_cases c3 : i < lo + l
        . rw [if_pos c3]; exact lo' i z1 c3
        . rw [if_neg c3, if_pos (by omega)]; exact Int.le_refl _
      . rw [if_neg c2]
        by_cases c3 : i < lo + l
        . rw [if_pos c3]; exact hs' i (j - 1) z1 (by omega) (by omega)
        . rw [if_neg c3]
          by_cases c4 : i = lo + l
          . rw [if_pos c4]; exact Int.le_of_lt (hi' (j - 1) (by omega) (by omega))
          . rw [if_neg c4]; exact hs' (i - 1) (j - 1) (by omega) (by omega) (by omega)
  . rintro c st' ⟨hc, hB', hs', hk', hp'⟩
    rw [show min (max (max ok 1) n) n = n by omega] at hs'
    exact ⟨hc, hB', hs', hk', hp'⟩
  . refine ⟨rfl, hB, fun i j z1 z2 z3 => ?_, .refl, rfl⟩
    by_cases h1 : ok = 0
    . rw [show i = j by omega]; exact Int.le_refl _
    . exact hs i j z1 z2 (by omega)
  . rintro c st' ⟨rfl, hB', hs', hk', hp'⟩
    exact wpS_pure (h st' hB' hs' hk' hp')
end
end L2S
namespace L2S
open PySem PyProof.Rows
def gal : Bool -> Keyed -> Array Keyed -> Nat -> Nat -> Nat -> StateT SortSt Sem (Option Nat) := sortPriv% PySem.Builtin.gallop
def past (left : Bool) (key : Keyed) (arr : Array Keyed) (base i : Nat) : StateT SortSt Sem (Option Bool) := do
  let y <- elem' arr (base + i)
  if left then lt' y key else return (<- lt' key y).map (!·)
theorem gal_eq (left : Bool) (key : Keyed) (arr : Array Keyed) (base n hint : Nat) : gal left key arr base n hint = (do
  let mut o1 := 0
  let mut o2 := 1
  let mut p1 := 0
  let mut p2 := 0
  let some b0 <- past left key arr base hint | return none
  if b0 then
    let mx := n - hint
    for _ in [0:n] do
      if o2 ≥ mx then break
      let some b <- past left key arr base (hint + o2) | return none
      if !b then break
      o1 := o2
      o2 := 2 * o2 + 1
    p1 := hint + o1 + 1
    p2 := hint + min o2 mx
  else
    let mx := hint + 1
    for _ in [0:n] do
      if o2 ≥ mx then break
      let some b <- past left key arr base (hint - o2) | return none
      if b then break
      o1 := o2
      o2 := 2 * o2 + 1
    p1 := hint + 1 - min o2 mx
    p2 := hint - o1
  for _ in [0:n] do
    if p1 ≥ p2 then break
    let m := p1 + (p2 - p1) / 2
    let some b <- past left key arr base m | return none
    if b then p1 := m + 1 else p2 := m
  return some p2) := rfl
section
variable {M : Model} {A : Around} {E : Value -> Shared -> Prop} {s : Shared}
theorem gal_ok {left : Bool} {key : Keyed} {arr : Array Keyed} {base n hint : Nat} {st : SortSt} {Q : Option Nat -> SortSt -> Prop} (g : Nat -> Bool) (hh : hint < n)
    (hp : ∀ i, i < n -> ∀ Q : Option Bool -> SortSt -> Prop, Q (some (g i)) st -> wpS M A E s (past left key arr base i) Q st) (hm : ∀ i j, i <= j -> j < n -> g j = true -> g i = true)
    (h : ∀ k, k <= n -> (∀ i, i < k -> g i = true) -> (∀ i, k <= i -> i < n -> g i = false) -> Q (some k) st) : wpS M A E s (gal left key arr base n hint) Q st := by
  have hm' : ∀ i j, i <= j -> j < n -> g i = false -> g j = false := fun i j z1 z2 z3 => by
    cases e : g j with
    | false => rfl
    | true => rw [hm i j z1 z2 e] at z3; cases z3
  have last : ∀ p1 p2 : Nat, p1 <= p2 -> p2 <= n -> (∀ i, i < p1 -> g i = true) -> (∀ i, p2 <= i -> i < n -> g i = false) ->
      wpS M A E s (forIn [0:n] ((none, p1, p2) : Option (Option Nat) × Nat × Nat) fun _ c => if c.2.1 ≥ c.2.2 then pure (ForInStep.done (none, c.2.1, c.2.2)) else do
        let r <- past left key arr base (c.2.1 + (c.2.2 - c.2.1) / 2)
        match r with
        | some b => if b = true then pure (ForInStep.yield (none, c.2.1 + (c.2.2 - c.2.1) / 2 + 1, c.2.2)) else pure (ForInStep.yield (none, c.2.1, c.2.1 + (c.2.2 - c.2.1) / 2))
        | _ => pure (ForInStep.done (some none, c.2.1, c.2.2))) (fun c st' => ∃ k, c = (none, k, k) /\ st' = st /\ k <= n /\ (∀ i, i < k -> g i = true) /\ (∀ i, k <= i -> i < n -> g i = false)) st := by
    intro p1 p2 a1 a2 a3 a4
    refine wpS_forRange (I := fun x c st' => st' = st /\ ∃ p1 p2, c = (none, p1, p2) /\ p1 <= p2 /\ p2 <= n /\ p2 - p1 <= n - x /\ (∀ i, i < p1 -> g i = true) /\ (∀ i, p2 <= i -> i < n -> g i = false)) ?_ ?_ ⟨rfl, p1, p2, rfl, a1, a2, by omega, a3, a4⟩
    . rintro x c st' _ hx ⟨rfl, p1, p2, rfl, b1, b2, b3, b4, b5⟩
      dsimp only
      by_cases hge : p1 ≥ p2
      . rw [if_pos hge]
        have : p1 = p2 := by omega
        subst this
        exact wpS_pure ⟨p1, rfl, rfl, b2, b4, b5⟩
      rw [if_neg hge]
      refine wpS_bind (hp _ (by omega) _ ?_)
      cases e : g (p1 + (p2 - p1) / 2) with
      | true => exact wpS_pure ⟨rfl, _, _, rfl, by omega, b2, by omega, fun i hi => hm i _ (by omega) (by omega) e, b5⟩
      | false => exact wpS_pure ⟨rfl, _, _, rfl, by omega, by omega, by omega, b4, fun i i1 i2 => hm' _ i i1 i2 e⟩
    . rintro c st' ⟨rfl, p1, p2, rfl, b1, b2, b3, b4, b5⟩
      have : p1 = p2 := by omega
      subst this
      exact ⟨p1, rfl, rfl, b2, b4, b5⟩
  rw [gal_eq]
  refine wpS_bind (hp hint hh _ ?_)
  cases e0 : g hint with
  | true =>
    refine wpS_bind (wpS_mono (wpS_forRange (I := fun x c st' => st' = st /\ ∃ o1 o2, c = (none, o1, o2) /\ o1 < o2 /\ x + 1 <= o2 /\ hint + o1 < n /\ g (hint + o1) = true)
      (Q := fun c st' => st' = st /\ ∃ o1 o2, c = (none, o1, o2) /\ o1 < o2 /\ hint + o1 < n /\ g (hint + o1) = true /\ (o2 ≥ n - hint ∨ (hint + o2 < n /\ g (hint + o2) = false))) ?_ ?_ ⟨rfl, 0, 1, rfl, by omega, by omega, by omega, e0⟩) ?_)
    . rintro x c st' _ hx ⟨rfl, o1, o2, rfl, b1, b2, b3, b4⟩
      dsimp only
      by_cases hge : o2 ≥ n - hint
      . rw [if_pos hge]
        exact wpS_pure ⟨rfl, o1, o2, rfl, b1, b3, b4, .inl hge⟩
      rw [if_neg hge]
      refine wpS_bind (hp _ (by omega) _ ?_)
      cases e : g (hint + o2) with
      | true => exact wpS_pure ⟨rfl, _, _, rfl, by omega, by omega, by omega, e⟩
      | false => exact wpS_pure ⟨rfl, _, _, rfl, b1, b3, b4, .inr ⟨by omega, e⟩⟩
    . rintro c st' ⟨rfl, o1, o2, rfl, b1, b2, b3, b4⟩
      exact ⟨rfl, o1, o2, rfl, b1, b3, b4, .inl (by omega)⟩
    . rintro c st' ⟨rfl, o1, o2, rfl, b1, b3, b4, b5⟩
      dsimp only
      refine wpS_bind (wpS_mono (last (hint + o1 + 1) (hint + min o2 (n - hint)) (by omega) (by omega) (fun i hi => hm i _ (by omega) b3 b4) fun i i1 i2 => ?_) ?_)
      . rcases b5 with z | ⟨z1, z2⟩
        . omega
        . exact hm' _ i (by omega) i2 z2
      . rintro c st' ⟨k, rfl, rfl, k1, k2, k3⟩
        exact wpS_pure (h k k1 k2 k3)
  | false =>
    refine wpS_bind (wpS_mono (wpS_forRange (I := fun x c st' => st' = st /\ ∃ o1 o2, c = (none, o1, o2) /\ o1 < o2 /\ x + 1 <= o2 /\ o1 <= hint /\ g (hint - o1) = false)
      (Q := fun c st' => st' = st /\ ∃ o1 o2, c = (none, o1, o2) /\ o1 < o2 /\ o1 <= hint /\ g (hint - o1) = false /\ (o2 ≥ hint + 1 ∨ (o2 < hint + 1 /\ g (hint - o2) = true))) ?_ ?_ ⟨rfl, 0, 1, rfl, by omega, by omega, by omega, e0⟩) ?_)
    . rintro x c st' _ hx ⟨rfl, o1, o2, rfl, b1, b2, b3, b4⟩
      dsimp only
      by_cases hge : o2 ≥ hint + 1
      . rw [if_pos hge]
        exact wpS_pure ⟨rfl, o1, o2, rfl, b1, b3, b4, .inl hge⟩
      rw [if_neg hge]
      refine wpS_bind (hp _ (by omega) _ ?_)
      cases e : g (hint - o2) with
      | true => exact wpS_pure ⟨rfl, _, _, rfl, b1, b3, b4, .inr ⟨by omega, e⟩⟩
      | false => exact wpS_pure ⟨rfl, _, _, rfl, by omega, by omega, by omega, e⟩
    . rintro c st' ⟨rfl, o1, o2, rfl, b1, b2, b3, b4⟩
      exact ⟨rfl, o1, o2, rfl, b1, b3, b4, .inl (by omega)⟩
    . rintro c st' ⟨rfl, o1, o2, rfl, b1, b3, b4, b5⟩
      dsimp only
      refine wpS_bind (wpS_mono (last (hint + 1 - min o2 (hint + 1)) (hint - o1) (by omega) (by omega) (fun i hi => ?_) fun i i1 i2 => hm' _ i i1 i2 b4) ?_)
      . rcases b5 with z | ⟨z1, z2⟩
        . omega
        . exact hm i _ (by omega) (by omega) z2
      . rintro c st' ⟨k, rfl, rfl, k1, k2, k3⟩
        exact wpS_pure (h k k1 k2 k3)
end
end L2S
namespace L2S
open PySem PyProof.Rows
def mLo : Array Keyed -> Array Keyed -> StateT SortSt Sem (Array Keyed) := sortPriv% PySem.Builtin.mergeLo
abbrev setG (st : SortSt) (g : Nat) : SortSt := SortSt.mk' (kindOf st) (arrOf st) (pendingOf st) g (failedOf st)
theorem mLo_eq (a b : Array Keyed) : mLo a b = (do
  rule "list.sort.merge-lo"
  let tt := a.size + b.size
  let dn (o : Array Keyed) (i j : Nat) := o ++ a.extract i a.size ++ b.extract j b.size
  let la (o : Array Keyed) (i j : Nat) := o ++ b.extract j b.size ++ a.extract i a.size
  let mut o : Array Keyed := #[<- elem' b 0]
  let mut i := 0
  let mut j := 1
  if j == b.size then return dn o i j
  if i + 1 == a.size then return la o i j
  let mut mg := gallopOf (<- get)
  for _ in [0:tt] do
    let mut ac := 0
    let mut bc := 0
    for _ in [0:tt] do
      let some w <- lt' (<- elem' b j) (<- elem' a i) | return dn o i j
      if w then
        o := o.push (<- elem' b j); j := j + 1; bc := bc + 1; ac := 0
        if j == b.size then return dn o i j
        if bc ≥ mg then break
      else
        o := o.push (<- elem' a i); i := i + 1; ac := ac + 1; bc := 0
        if i + 1 == a.size then return la o i j
        if ac ≥ mg then break
    rule "list.sort.gallop"
    mg := mg + 1
    for _ in [0:tt] do
      if mg > 1 then mg := mg - 1
      modify fun st => setG st mg
      let some k <- gal false (<- elem' b j) a i (a.size - i) 0 | return dn o i j
      ac := k
      if k > 0 then
        o := o ++ a.extract i (i + k); i := i + k
        if i + 1 == a.size then return la o i j
        if i == a.size then return dn o i j
      o := o.push (<- elem' b j); j := j + 1
      if j == b.size then return dn o i j
      let some k <- gal true (<- elem' a i) b j (b.size - j) 0 | return dn o i j
      bc := k
      if k > 0 then
        o := o ++ b.extract j (j + k); j := j + k
        if j == b.size then return dn o i j
      o := o.push (<- elem' a i); i := i + 1
      if i + 1 == a.size then return la o i j
      if ac < 7 && bc < 7 then break
    mg := mg + 1
    modify fun st => setG st mg
  unsupported "internal:list.sort.merge-bound") := rfl
def leK (f : Keyed -> Int) (x y : Keyed) : Prop := f x <= f y
structure Jm (f : Keyed -> Int) (as bs o : List Keyed) (i j : Nat) : Prop where
  perm : o.Perm (as.take i ++ bs.take j)
  sa : (o ++ as.drop i).Pairwise (leK f)
  sb : (o ++ bs.drop j).Pairwise (leK f)
def Good (f : Keyed -> Int) (as bs r : List Keyed) : Prop := r.Perm (as ++ bs) /\ r.Pairwise (leK f)
theorem take_more (as : List Keyed) (i k : Nat) : as.take (i + k) = as.take i ++ (as.drop i).take k := List.take_add
theorem drop_more (as : List Keyed) (i k : Nat) : as.drop i = (as.drop i).take k ++ as.drop (i + k) := by rw [<- List.drop_drop, yCV]
section
variable {f : Keyed -> Int} {as bs o : List Keyed} {i j : Nat}
theorem Jm.swap (h : Jm f as bs o i j) : Jm f bs as o j i := ⟨h.perm.trans yCW, h.sb, h.sa⟩
theorem Jm.chunk (h : Jm f as bs o i j) (k : Nat) (hc : ∀ x ∈ (as.drop i).take k, ∀ y ∈ bs.drop j, f x <= f y) : Jm f as bs (o ++ (as.drop i).take k) (i + k) j := by
  have sa := h.sa
  rw [drop_more as i k, <- yBA] at sa
  refine ⟨?_, sa, ?_⟩
  . rw [take_more]
    refine (List.Perm.append_right _ h.perm).trans ?_
    rw [yBA, yBA]
    exact List.Perm.append_left _ yCW
  . obtain ⟨p1, p2, p3⟩ := List.pairwise_append.mp h.sb
    obtain ⟨q1, q2, q3⟩ := List.pairwise_append.mp sa
    refine List.pairwise_append.mpr ⟨q1, p2, fun x hx y hy => ?_⟩
    rcases yBB.mp hx with z | z
    . exact p3 x z y hy
    . exact hc x z y hy
theorem Jm.dn (h : Jm f as bs o i j) (e : as.drop i = [] ∨ bs.drop j = []) : Good f as bs (o ++ as.drop i ++ bs.drop j) := by
  refine ⟨?_, ?_⟩
  . have p : (o ++ as.drop i ++ bs.drop j).Perm ((as.take i ++ bs.take j) ++ as.drop i ++ bs.drop j) := List.Perm.append_right _ (List.Perm.append_right _ h.perm)
    refine p.trans ?_
    have e1 : (as.take i ++ bs.take j ++ as.drop i ++ bs.drop j).Perm (as.take i ++ as.drop i ++ (bs.take j ++ bs.drop j)) := by
      rw [yBA, yBA, yBA]
      refine List.Perm.append_left _ ?_
      rw [<- yBA, <- yBA]
      exact List.Perm.append_right _ yCW
    rw [yCV, yCV] at e1
    exact e1
  . rcases e with e | e
    . rw [e, yAZ]; exact h.sb
    . rw [e, yAZ]; exact h.sa
theorem Jm.la (h : Jm f as bs o i j) (hl : ∀ x ∈ as.drop i, ∀ y ∈ bs.drop j, f y <= f x) : Good f as bs (o ++ bs.drop j ++ as.drop i) := by
  have c := h.swap.chunk (bs.length - j) (fun x hx y hy => hl y hy x (List.mem_of_mem_take hx))
  rw [yBI (by rw [yBH]; exact yAB _)] at c
  have g := c.dn (.inl (List.drop_eq_nil_of_le (by omega)))
  rw [List.drop_eq_nil_of_le (as := bs) (i := j + (bs.length - j)) (by omega), yAZ] at g
  exact ⟨g.1.trans yCW, g.2⟩
end
theorem ZDT (a : Array Keyed) (i : Nat) : (a.extract i a.size).toList = a.toList.drop i := by
  rw [yCN, yCO]
  exact yBI (by rw [yBH]; simp)
theorem ZDw (a : Array Keyed) (i k : Nat) : (a.extract i (i + k)).toList = (a.toList.drop i).take k := by
  rw [yCN, yCO, show i + k - i = k by omega]
theorem ZET {a : Array Keyed} {i : Nat} {x : Keyed} (h : a[i]? = some x) : (a.toList.drop i).take 1 = [x] := by
  have hi : i < a.toList.length := by
    rw [yAN]
    exact (yCI.mp h).1
  rw [yCJ hi]
  have : a.toList[i] = x := by
    rw [yCI] at h
    obtain ⟨_, e⟩ := h
    simpa using e
  rw [this]
  simp
structure Ev (st st' : SortSt) : Prop where
  k : kindOf st' = kindOf st
  a : arrOf st' = arrOf st
  p : pendingOf st' = pendingOf st
  f : failedOf st' = failedOf st
theorem Ev.refl {st : SortSt} : Ev st st := ⟨rfl, rfl, rfl, rfl⟩
theorem Ev.setG {st st' : SortSt} (h : Ev st st') (g : Nat) : Ev st (setG st' g) := ⟨h.k, h.a, h.p, h.f⟩
section
variable {M : Model} {A : Around} {E : Value -> Shared -> Prop} {s : Shared} {κ : SortKind} {a₀ : Array Keyed} {f : Keyed -> Int}
theorem ZAn {a : Array Keyed} {i : Nat} {x : Keyed} {st : SortSt} {Q : Keyed -> SortSt -> Prop} (h : a[i]? = some x) (q : Q x st) : wpS M A E s (elem' a i) Q st := by
  rw [elem'_eq, h]
  exact wpS_pure q
def InA (a₀ a : Array Keyed) : Prop := ∀ x ∈ a.toList, x ∈ a₀.toList
theorem InA.get {a : Array Keyed} (h : InA a₀ a) {i : Nat} {x : Keyed} (e : a[i]? = some x) : x ∈ a₀.toList := h x (by rw [yCI] at e; obtain ⟨_, rfl⟩ := e; simp)
theorem ZBE {a : Array Keyed} {i : Nat} {x : Keyed} (e : a[i]? = some x) : kn f a i = f x := by unfold kn; rw [e]; rfl
theorem ZCJ {a : Array Keyed} {i : Nat} (h : i < a.size) : ∃ x, a[i]? = some x := ⟨_, getElem?_pos a i h⟩
theorem past_at {left : Bool} {key x : Keyed} {arr : Array Keyed} {base i : Nat} {st : SortSt} {Q : Option Bool -> SortSt -> Prop} (L : Asks M A E s κ a₀ f) (hk : kindOf st = κ) (hx : arr[base + i]? = some x) (h1 : x ∈ a₀.toList) (h2 : key ∈ a₀.toList)
    (q : Q (some (if left = true then decide (f x < f key) else !decide (f key < f x))) st) : wpS M A E s (past left key arr base i) Q st := by
  unfold past
  refine wpS_bind (ZAn hx ?_)
  cases left with
  | true => exact L.lt x key h1 h2 st _ hk q
  | false =>
    refine wpS_bind (L.lt key x h2 h1 st _ hk ?_)
    exact wpS_pure q
theorem ZEU {key : Keyed} {arr : Array Keyed} {base n hint : Nat} {st : SortSt} {Q : Option Nat -> SortSt -> Prop} (L : Asks M A E s κ a₀ f) (hk : kindOf st = κ) (hi : InA a₀ arr) (hkey : key ∈ a₀.toList) (hh : hint < n) (hs : base + n <= arr.size) (hu : Up f arr base n)
    (h : ∀ k, k <= n -> (∀ i, i < k -> kn f arr (base + i) <= f key) -> (∀ i, k <= i -> i < n -> f key < kn f arr (base + i)) -> Q (some k) st) : wpS M A E s (gal false key arr base n hint) Q st := by
  refine gal_ok (fun i => !decide (f key < kn f arr (base + i))) hh (fun i hin Q q => ?_) (fun i j z1 z2 z3 => ?_) fun k k1 k2 k3 => h k k1 (fun i z => ?_) fun i z1 z2 => ?_
  . obtain ⟨x, hx⟩ := ZCJ (a := arr) (i := base + i) (by omega)
    refine past_at L hk hx (hi.get hx) hkey ?_
    rw [ZBE hx] at q
    exact q
  . have := hu (base + i) (base + j) (by omega) (by omega) (by omega)
    simp at z3 ⊢
    omega
  . have := k2 i z
    simp at this
    exact this
  . have := k3 i z1 z2
    simp at this
    exact this
theorem ZDt {key : Keyed} {arr : Array Keyed} {base n hint : Nat} {st : SortSt} {Q : Option Nat -> SortSt -> Prop} (L : Asks M A E s κ a₀ f) (hk : kindOf st = κ) (hi : InA a₀ arr) (hkey : key ∈ a₀.toList) (hh : hint < n) (hs : base + n <= arr.size) (hu : Up f arr base n)
    (h : ∀ k, k <= n -> (∀ i, i < k -> kn f arr (base + i) < f key) -> (∀ i, k <= i -> i < n -> f key <= kn f arr (base + i)) -> Q (some k) st) : wpS M A E s (gal true key arr base n hint) Q st := by
  refine gal_ok (fun i => decide (kn f arr (base + i) < f key)) hh (fun i hin Q q => ?_) (fun i j z1 z2 z3 => ?_) fun k k1 k2 k3 => h k k1 (fun i z => ?_) fun i z1 z2 => ?_
  . obtain ⟨x, hx⟩ := ZCJ (a := arr) (i := base + i) (by omega)
    refine past_at L hk hx (hi.get hx) hkey ?_
    rw [ZBE hx] at q
    exact q
  . have := hu (base + i) (base + j) (by omega) (by omega) (by omega)
    simp at z3 ⊢
    omega
  . have := k2 i z
    simp at this
    exact this
  . have := k3 i z1 z2
    simp at this
    exact this
theorem ZCh {a : Array Keyed} {i : Nat} {x : Keyed} (h : x ∈ a.toList.drop i) : ∃ k, i <= k /\ k < a.size /\ kn f a k = f x /\ a[k]? = some x := by
  obtain ⟨n, hn⟩ := yCG h
  rw [List.getElem?_drop] at hn
  rw [yBD] at hn
  exact ⟨i + n, by omega, (yCI.mp hn).1, ZBE hn, hn⟩
theorem mem_take {a : Array Keyed} {i k : Nat} {x : Keyed} (h : x ∈ (a.toList.drop i).take k) : ∃ n, i <= n /\ n < i + k /\ n < a.size /\ kn f a n = f x := by
  obtain ⟨n, hn⟩ := yCG h
  have hl := (yAJ.mp hn).1
  rw [yAT] at hl
  rw [List.getElem?_take_of_lt (by omega), List.getElem?_drop, yBD] at hn
  exact ⟨i + n, by omega, by omega, (yCI.mp hn).1, ZBE hn⟩
structure Two (a₀ : Array Keyed) (f : Keyed -> Int) (a b : Array Keyed) : Prop where
  ia : InA a₀ a
  ib : InA a₀ b
  ua : Up f a 0 a.size
  ub : Up f b 0 b.size
  na : 1 <= a.size
  nb : 1 <= b.size
  lo : ∀ i, i < a.size -> kn f b 0 <= kn f a i
  hi : ∀ j, j < b.size -> kn f b j <= kn f a (a.size - 1)
end
end L2S
namespace L2S
open PySem PyProof.Rows
abbrev C5 := Option (Array Keyed) × Array Keyed × Nat × Nat × Nat
abbrev C6 := Option (Array Keyed) × Array Keyed × Nat × Nat × Nat × Nat
abbrev C7 := Option (Array Keyed) × Array Keyed × Nat × Nat × Nat × Nat × Nat
abbrev SM (α : Type) := StateT SortSt Sem α
abbrev dnA (a b o : Array Keyed) (i j : Nat) : Array Keyed := o ++ a.extract i a.size ++ b.extract j b.size
abbrev laA (a b o : Array Keyed) (i j : Nat) : Array Keyed := o ++ b.extract j b.size ++ a.extract i a.size
def lo1 (a b : Array Keyed) (mg : Nat) (c : C6) : SM (ForInStep C6) := do
  let y <- elem' b c.2.2.2.1
  let x <- elem' a c.2.2.1
  let r <- lt' y x
  match r with
  | some w =>
    if w = true then do
      let y <- elem' b c.2.2.2.1
      if (c.2.2.2.1 + 1 == b.size) = true then pure (.done (some (dnA a b (c.2.1.push y) c.2.2.1 (c.2.2.2.1 + 1)), c.2.1.push y, c.2.2.1, c.2.2.2.1 + 1, 0, c.2.2.2.2.2 + 1))
      else if c.2.2.2.2.2 + 1 ≥ mg then pure (.done (none, c.2.1.push y, c.2.2.1, c.2.2.2.1 + 1, 0, c.2.2.2.2.2 + 1))
      else pure (.yield (none, c.2.1.push y, c.2.2.1, c.2.2.2.1 + 1, 0, c.2.2.2.2.2 + 1))
    else do
      let x <- elem' a c.2.2.1
      if (c.2.2.1 + 1 + 1 == a.size) = true then pure (.done (some (laA a b (c.2.1.push x) (c.2.2.1 + 1) c.2.2.2.1), c.2.1.push x, c.2.2.1 + 1, c.2.2.2.1, c.2.2.2.2.1 + 1, 0))
      else if c.2.2.2.2.1 + 1 ≥ mg then pure (.done (none, c.2.1.push x, c.2.2.1 + 1, c.2.2.2.1, c.2.2.2.2.1 + 1, 0))
      else pure (.yield (none, c.2.1.push x, c.2.2.1 + 1, c.2.2.2.1, c.2.2.2.2.1 + 1, 0))
  | _ => pure (.done (some (dnA a b c.2.1 c.2.2.1 c.2.2.2.1), c.2.1, c.2.2.1, c.2.2.2.1, c.2.2.2.2.1, c.2.2.2.2.2))
def lo4 (a b : Array Keyed) (g ac bc : Nat) (o : Array Keyed) (i j : Nat) : SM (ForInStep C7) := do
  let x <- elem' a i
  if (i + 1 + 1 == a.size) = true then pure (.done (some (laA a b (o.push x) (i + 1) j), o.push x, i + 1, j, g, ac, bc))
  else if (decide (ac < 7) && decide (bc < 7)) = true then pure (.done (none, o.push x, i + 1, j, g, ac, bc))
  else pure (.yield (none, o.push x, i + 1, j, g, ac, bc))
def lo3 (a b : Array Keyed) (g ac bc : Nat) (o : Array Keyed) (i j : Nat) : SM (ForInStep C7) := do
  let y <- elem' b j
  if (j + 1 == b.size) = true then pure (.done (some (dnA a b (o.push y) i (j + 1)), o.push y, i, j + 1, g, ac, bc))
  else do
    let x <- elem' a i
    let r <- gal true x b (j + 1) (b.size - (j + 1)) 0
    match r with
    | some k =>
      if k > 0 then
        if (j + 1 + k == b.size) = true then pure (.done (some (dnA a b (o.push y ++ b.extract (j + 1) (j + 1 + k)) i (j + 1 + k)), o.push y ++ b.extract (j + 1) (j + 1 + k), i, j + 1 + k, g, ac, k))
        else lo4 a b g ac k (o.push y ++ b.extract (j + 1) (j + 1 + k)) i (j + 1 + k)
      else lo4 a b g ac k (o.push y) i (j + 1)
    | _ => pure (.done (some (dnA a b (o.push y) i (j + 1)), o.push y, i, j + 1, g, ac, bc))
def lo2 (a b : Array Keyed) (g ac bc : Nat) (o : Array Keyed) (i j : Nat) : SM (ForInStep C7) := do
  modify fun st => setG st g
  let y <- elem' b j
  let r <- gal false y a i (a.size - i) 0
  match r with
  | some k =>
    if k > 0 then
      if (i + k + 1 == a.size) = true then pure (.done (some (laA a b (o ++ a.extract i (i + k)) (i + k) j), o ++ a.extract i (i + k), i + k, j, g, k, bc))
      else if (i + k == a.size) = true then pure (.done (some (dnA a b (o ++ a.extract i (i + k)) (i + k) j), o ++ a.extract i (i + k), i + k, j, g, k, bc))
      else lo3 a b g k bc (o ++ a.extract i (i + k)) (i + k) j
    else lo3 a b g k bc o i j
  | _ => pure (.done (some (dnA a b o i j), o, i, j, g, ac, bc))
def loB (a b : Array Keyed) (c : C7) : SM (ForInStep C7) :=
  if c.2.2.2.2.1 > 1 then lo2 a b (c.2.2.2.2.1 - 1) c.2.2.2.2.2.1 c.2.2.2.2.2.2 c.2.1 c.2.2.1 c.2.2.2.1
  else lo2 a b c.2.2.2.2.1 c.2.2.2.2.2.1 c.2.2.2.2.2.2 c.2.1 c.2.2.1 c.2.2.2.1
def loO (a b : Array Keyed) (c : C5) : SM (ForInStep C5) := do
  let c1 <- forIn [0:a.size + b.size] ((none, c.2.1, c.2.2.1, c.2.2.2.1, 0, 0) : C6) fun _ d => lo1 a b c.2.2.2.2 d
  match c1.1 with
  | some r => pure (.done (some r, c1.2.1, c1.2.2.1, c1.2.2.2.1, c.2.2.2.2))
  | none => do
    liftM (rule "list.sort.gallop")
    let c2 <- forIn [0:a.size + b.size] ((none, c1.2.1, c1.2.2.1, c1.2.2.2.1, c.2.2.2.2 + 1, c1.2.2.2.2.1, c1.2.2.2.2.2) : C7) fun _ d => loB a b d
    match c2.1 with
    | some r => pure (.done (some r, c2.2.1, c2.2.2.1, c2.2.2.2.1, c2.2.2.2.2.1))
    | none => do
      modify fun st => setG st (c2.2.2.2.2.1 + 1)
      pure (.yield (none, c2.2.1, c2.2.2.1, c2.2.2.2.1, c2.2.2.2.2.1 + 1))
theorem bnd2 {α β : Type} {m m' : StateT SortSt Sem α} {g h : α -> StateT SortSt Sem β} (e0 : m = m') (e : ∀ a, g a = h a) : (m >>= g) = (m' >>= h) := by rw [e0, show g = h from funext e]
theorem for2 {β : Type} {r : Std.Legacy.Range} {c : β} {g h : Nat -> β -> StateT SortSt Sem (ForInStep β)} (e : ∀ x c, g x c = h x c) : forIn r c g = forIn r c h := by rw [show g = h from funext fun x => funext (e x)]
theorem if2 {α : Type} {c : Prop} [Decidable c] {x y x' y' : α} (e1 : x = x') (e2 : y = y') : (if c then x else y) = (if c then x' else y') := by rw [e1, e2]
theorem mLo_low (a b : Array Keyed) : mLo a b = (do
  liftM (rule "list.sort.merge-lo")
  let y <- elem' b 0
  if (1 == b.size) = true then pure (dnA a b #[y] 0 1)
  else if (0 + 1 == a.size) = true then pure (laA a b #[y] 0 1)
  else do
    let st <- get
    let c <- forIn [0:a.size + b.size] ((none, #[y], 0, 1, gallopOf st) : C5) fun _ d => loO a b d
    match c.1 with
    | some r => pure r
    | none => liftM (unsupported "internal:list.sort.merge-bound" : Sem (Array Keyed))) := by
  rw [mLo_eq]
  refine bnd _ fun _ => bnd _ fun y => ?_
  refine if2 rfl (if2 rfl ?_)
  refine bnd _ fun st => bnd2 (for2 fun _ c => ?_) fun c => ?_
  . unfold loO
    refine bnd2 (for2 fun _ d => ?_) fun c1 => ?_
    . rfl
    . obtain ⟨r, o, i, j, ac, bc⟩ := c1
      cases r with
      | some r => rfl
      | none =>
        refine bnd2 rfl fun _ => bnd2 (for2 fun _ d => ?_) fun c2 => ?_
        . unfold loB
          refine if2 ?_ ?_
          all_goals
            unfold lo2
            refine bnd2 rfl fun _ => bnd2 rfl fun y => bnd2 rfl fun r => ?_
            cases r with
            | none => rfl
            | some k =>
              refine if2 (if2 rfl (if2 rfl ?_)) ?_
              all_goals
                unfold lo3
                refine bnd2 rfl fun y2 => if2 rfl (bnd2 rfl fun x2 => bnd2 rfl fun r2 => ?_)
                cases r2 with
                | none => rfl
                | some k2 =>
                  refine if2 (if2 rfl ?_) ?_
                  all_goals
                    unfold lo4
                    refine bnd2 rfl fun x3 => if2 rfl (if2 rfl rfl)
        . obtain ⟨r, o, i, j, g, ac, bc⟩ := c2
          cases r with
          | some r => rfl
          | none => rfl
  . obtain ⟨r, o, i, j, g⟩ := c
    cases r with
    | some r => rfl
    | none => rfl
end L2S
namespace L2S
open PySem PyProof.Rows
section
variable {M : Model} {A : Around} {E : Value -> Shared -> Prop} {s : Shared} {κ : SortKind} {a₀ : Array Keyed} {f : Keyed -> Int} {a b o : Array Keyed} {i j : Nat}
theorem ZEc {a : Array Keyed} (h : Up f a 0 a.size) : a.toList.Pairwise (leK f) := by
  rw [List.pairwise_iff_getElem]
  intro i j hi hj hij
  rw [yAN] at hi hj
  have := h i j (yAF _) (yBW hij) (by omega)
  rw [ZBE (getElem?_pos a i hi), ZBE (getElem?_pos a j hj)] at this
  simpa [leK] using this
abbrev JA (f : Keyed -> Int) (a b o : Array Keyed) (i j : Nat) : Prop := Jm f a.toList b.toList o.toList i j
abbrev Fin (f : Keyed -> Int) (a b r : Array Keyed) : Prop := Good f a.toList b.toList r.toList
theorem JA.dn (h : JA f a b o i j) (e : a.size <= i ∨ b.size <= j) : Fin f a b (dnA a b o i j) := by
  have g := Jm.dn h (e.imp (fun z => List.drop_eq_nil_of_le (by rw [yAN]; exact z)) (fun z => List.drop_eq_nil_of_le (by rw [yAN]; exact z)))
  unfold Fin dnA
  rw [yBS, yBS, ZDT, ZDT]
  exact g
theorem JA.la (h : JA f a b o i j) (T : Two a₀ f a b) (e : i + 1 = a.size) : Fin f a b (laA a b o i j) := by
  have g := Jm.la h fun x hx y hy => by
    obtain ⟨k, k1, k2, k3, _⟩ := ZCh (f := f) hx
    obtain ⟨n, n1, n2, n3, _⟩ := ZCh (f := f) hy
    have := T.hi n n2
    rw [show a.size - 1 = k by omega, k3, n3] at this
    exact this
  unfold Fin laA
  rw [yBS, yBS, ZDT, ZDT]
  exact g
theorem JA.pushA {x : Keyed} (h : JA f a b o i j) (hx : a[i]? = some x) (hc : ∀ n, j <= n -> n < b.size -> f x <= kn f b n) : JA f a b (o.push x) (i + 1) j := by
  have g := Jm.chunk h 1 fun u hu y hy => by
    rw [ZET hx, yAK] at hu
    obtain ⟨n, n1, n2, n3, _⟩ := ZCh (f := f) hy
    rw [hu, <- n3]
    exact hc n n1 n2
  rw [ZET hx] at g
  unfold JA
  rw [Array.toList_push]
  exact g
theorem JA.pushB {x : Keyed} (h : JA f a b o i j) (hx : b[j]? = some x) (hc : ∀ n, i <= n -> n < a.size -> f x <= kn f a n) : JA f a b (o.push x) i (j + 1) :=
  (JA.pushA (Jm.swap h) hx hc).swap
theorem JA.chunkA (h : JA f a b o i j) (k : Nat) (hc : ∀ n m, i <= n -> n < i + k -> n < a.size -> j <= m -> m < b.size -> kn f a n <= kn f b m) : JA f a b (o ++ a.extract i (i + k)) (i + k) j := by
  have g := Jm.chunk h k fun u hu y hy => by
    obtain ⟨n, n1, n2, n3, n4⟩ := mem_take (f := f) hu
    obtain ⟨m, m1, m2, m3, _⟩ := ZCh (f := f) hy
    rw [<- n4, <- m3]
    exact hc n m n1 n2 n3 m1 m2
  unfold JA
  rw [yBS, ZDw]
  exact g
theorem JA.chunkB (h : JA f a b o i j) (k : Nat) (hc : ∀ n m, j <= n -> n < j + k -> n < b.size -> i <= m -> m < a.size -> kn f b n <= kn f a m) : JA f a b (o ++ b.extract j (j + k)) i (j + k) :=
  (JA.chunkA (Jm.swap h) k hc).swap
theorem Up.sub {xs : Array Keyed} {n : Nat} (h : Up f xs 0 n) {lo m : Nat} (e : lo + m <= n) : Up f xs lo m := fun i j z1 z2 z3 => h i j (yAF _) z2 (by omega)
def R7 (f : Keyed -> Int) (a b : Array Keyed) (st : SortSt) (x : Nat) : ForInStep C7 -> SortSt -> Prop
  | .done c, st' => Ev st st' /\ ((∃ r z, c = (some r, z) /\ Fin f a b r) ∨ ∃ o i j g ac bc, c = (none, o, i, j, g, ac, bc) /\ JA f a b o i j /\ i + 1 < a.size /\ j < b.size /\ x + 2 <= i + j)
  | .yield c, st' => Ev st st' /\ ∃ o i j g ac bc, c = (none, o, i, j, g, ac, bc) /\ JA f a b o i j /\ i + 1 < a.size /\ j < b.size /\ x + 2 <= i + j
theorem mLo_ok {st : SortSt} {Q : Array Keyed -> SortSt -> Prop} (L : Asks M A E s κ a₀ f) (hk : kindOf st = κ) (T : Two a₀ f a b) (h : ∀ r st', Ev st st' -> Fin f a b r -> Q r st') : wpS M A E s (mLo a b) Q st := by
  have ta := T.na
  have tb := T.nb
  have ua : ∀ n m, n <= m -> m < a.size -> kn f a n <= kn f a m := fun n m z1 z2 => T.ua n m (yAF _) z1 (by omega)
  have ub : ∀ n m, n <= m -> m < b.size -> kn f b n <= kn f b m := fun n m z1 z2 => T.ub n m (yAF _) z1 (by omega)
  rw [mLo_low]
  refine wpS_bind (wpS_lift (wpAny_rule ⟨rfl, ?_⟩))
  obtain ⟨y0, hy0⟩ := ZCJ (a := b) (i := 0) (by omega)
  refine wpS_bind (ZAn hy0 ?_)
  have J0 : JA f a b #[y0] 0 1 := by
    have e : JA f a b #[] 0 0 := ⟨by simp, by simpa using ZEc T.ua, by simpa using ZEc T.ub⟩
    have := JA.pushB e hy0 fun n _ n2 => by rw [<- ZBE (f := f) hy0]; exact T.lo n n2
    exact this
  by_cases c1 : 1 = b.size
  . rw [if_pos (by simpa using c1)]
    exact wpS_pure (h _ st .refl (J0.dn (.inr (by omega))))
  rw [if_neg (by simpa using c1)]
  by_cases c2 : 0 + 1 = a.size
  . rw [if_pos (by simpa using c2)]
    exact wpS_pure (h _ st .refl (J0.la T c2))
  rw [if_neg (by simpa using c2)]
  refine wpS_bind (wpS_get ?_)
  refine wpS_bind (wpS_mono (wpS_forRange (I := fun x c st' => Ev st st' /\ ∃ o i j g, c = (none, o, i, j, g) /\ JA f a b o i j /\ i + 1 < a.size /\ j < b.size /\ x + 1 <= i + j) (Q := fun c st' => Ev st st' /\ ∃ r z, c = (some r, z) /\ Fin f a b r) ?_ ?_ ⟨.refl, _, 0, 1, _, rfl, J0, by omega, by omega, by omega⟩) ?_)
  . rintro x c st1 _ hx ⟨e1, o, i, j, g, rfl, J, hi, hj, hp⟩
    unfold loO
    dsimp only
    refine wpS_bind (wpS_mono (wpS_forRange (I := fun y c st' => Ev st st' /\ ∃ o i j ac bc, c = (none, o, i, j, ac, bc) /\ JA f a b o i j /\ i + 1 < a.size /\ j < b.size /\ x + 1 + y <= i + j)
      (Q := fun c st' => Ev st st' /\ ((∃ r z, c = (some r, z) /\ Fin f a b r) ∨ ∃ o i j ac bc, c = (none, o, i, j, ac, bc) /\ JA f a b o i j /\ i + 1 < a.size /\ j < b.size /\ x + 2 <= i + j)) ?_ ?_ ⟨e1, o, i, j, 0, 0, rfl, J, hi, hj, by omega⟩) ?_)
    . rintro y c st2 _ hy ⟨e2, o, i, j, ac, bc, rfl, J, hi, hj, hp⟩
      unfold lo1
      dsimp only
      obtain ⟨yb, hyb⟩ := ZCJ (a := b) hj
      obtain ⟨xa, hxa⟩ := ZCJ (a := a) (i := i) (by omega)
      refine wpS_bind (ZAn hyb ?_)
      refine wpS_bind (ZAn hxa ?_)
      refine wpS_bind (L.lt yb xa (T.ib.get hyb) (T.ia.get hxa) st2 _ (e2.k.trans hk) ?_)
      by_cases hw : f yb < f xa
      . rw [decide_eq_true hw]
        dsimp only
        rw [if_pos rfl]
        refine wpS_bind (ZAn hyb ?_)
        have J2 := J.pushB hyb fun n n1 n2 => by
          have := ua i n n1 n2
          rw [ZBE hxa] at this
          omega
        by_cases c3 : j + 1 = b.size
        . rw [if_pos (by simpa using c3)]
          exact wpS_pure ⟨e2, .inl ⟨_, _, rfl, J2.dn (.inr (by omega))⟩⟩
        rw [if_neg (by simpa using c3)]
        split
        . exact wpS_pure ⟨e2, .inr ⟨_, _, _, _, _, rfl, J2, hi, by omega, by omega⟩⟩
        . exact wpS_pure ⟨e2, _, _, _, _, _, rfl, J2, hi, by omega, by omega⟩
      . rw [decide_eq_false hw]
        dsimp only
        rw [if_neg (by decide)]
        refine wpS_bind (ZAn hxa ?_)
        have J2 := J.pushA hxa fun n n1 n2 => by
          have := ub j n n1 n2
          rw [ZBE hyb] at this
          omega
        by_cases c3 : i + 1 + 1 = a.size
        . rw [if_pos (by simpa using c3)]
          exact wpS_pure ⟨e2, .inl ⟨_, _, rfl, J2.la T c3⟩⟩
        rw [if_neg (by simpa using c3)]
        split
        . exact wpS_pure ⟨e2, .inr ⟨_, _, _, _, _, rfl, J2, by omega, hj, by omega⟩⟩
        . exact wpS_pure ⟨e2, _, _, _, _, _, rfl, J2, by omega, hj, by omega⟩
    . rintro c st2 ⟨e2, o, i, j, ac, bc, rfl, J, hi, hj, hp⟩
      exact ⟨e2, .inr ⟨_, _, _, _, _, rfl, J, hi, hj, by omega⟩⟩
    . rintro c st2 ⟨e2, ⟨r, z, rfl, hr⟩ | ⟨o, i, j, ac, bc, rfl, J, hi, hj, hp⟩⟩
      . exact wpS_pure ⟨e2, r, _, rfl, hr⟩
      dsimp only
      refine wpS_bind (wpS_lift (wpAny_rule ⟨rfl, ?_⟩))
      refine wpS_bind (wpS_mono (wpS_forRange (I := fun y c st' => Ev st st' /\ ∃ o i j g ac bc, c = (none, o, i, j, g, ac, bc) /\ JA f a b o i j /\ i + 1 < a.size /\ j < b.size /\ x + 2 <= i + j)
        (Q := fun c st' => Ev st st' /\ ((∃ r z, c = (some r, z) /\ Fin f a b r) ∨ ∃ o i j g ac bc, c = (none, o, i, j, g, ac, bc) /\ JA f a b o i j /\ i + 1 < a.size /\ j < b.size /\ x + 2 <= i + j)) ?_ ?_ ⟨e2, o, i, j, _, ac, bc, rfl, J, hi, hj, hp⟩) ?_)
      . rintro y c st3 _ hy ⟨e3, o, i, j, g, ac, bc, rfl, J, hi, hj, hp⟩
        have four : ∀ (g ac bc : Nat) (o : Array Keyed) (i j : Nat) (st4 : SortSt) (xa : Keyed), Ev st st4 -> JA f a b o i j -> i + 1 < a.size -> j < b.size -> x + 2 <= i + j -> a[i]? = some xa -> (∀ n, j <= n -> n < b.size -> f xa <= kn f b n) ->
            wpS M A E s (lo4 a b g ac bc o i j) (R7 f a b st x) st4 := by
          intro g ac bc o i j st4 xa e4 J hi hj hp hxa hle
          unfold lo4
          refine wpS_bind (ZAn hxa ?_)
          have J2 := J.pushA hxa hle
          by_cases c3 : i + 1 + 1 = a.size
          . rw [if_pos (by simpa using c3)]
            exact wpS_pure ⟨e4, .inl ⟨_, _, rfl, J2.la T c3⟩⟩
          rw [if_neg (by simpa using c3)]
          split
          . exact wpS_pure ⟨e4, .inr ⟨_, _, _, _, _, _, rfl, J2, by omega, hj, by omega⟩⟩
          . exact wpS_pure ⟨e4, _, _, _, _, _, _, rfl, J2, by omega, hj, by omega⟩
        have three : ∀ (g ac bc : Nat) (o : Array Keyed) (i j : Nat) (st4 : SortSt) (yb : Keyed), Ev st st4 -> JA f a b o i j -> i + 1 < a.size -> j < b.size -> x + 2 <= i + j -> b[j]? = some yb -> (∀ n, i <= n -> n < a.size -> f yb <= kn f a n) ->
            wpS M A E s (lo3 a b g ac bc o i j) (R7 f a b st x) st4 := by
          intro g ac bc o i j st4 yb e4 J hi hj hp hyb hle
          unfold lo3
          refine wpS_bind (ZAn hyb ?_)
          have J2 := J.pushB hyb hle
          by_cases c3 : j + 1 = b.size
          . rw [if_pos (by simpa using c3)]
            exact wpS_pure ⟨e4, .inl ⟨_, _, rfl, J2.dn (.inr (by omega))⟩⟩
          rw [if_neg (by simpa using c3)]
          obtain ⟨xa, hxa⟩ := ZCJ (a := a) (i := i) (by omega)
          refine wpS_bind (ZAn hxa ?_)
          refine wpS_bind (ZDt L (e4.k.trans hk) T.ib (T.ia.get hxa) (by omega) (by omega) (T.ub.sub (by omega)) fun k k1 k2 k3 => ?_)
          dsimp only
          have rest : ∀ n, j + 1 + k <= n -> n < b.size -> f xa <= kn f b n := fun n n1 n2 => by
            have := k3 (n - (j + 1)) (by omega) (by omega)
            rw [show j + 1 + (n - (j + 1)) = n by omega] at this
            exact this
          by_cases hk0 : k > 0
          . rw [if_pos hk0]
            have J3 := J2.chunkB k fun n m n1 n2 n3 m1 m2 => by
              have z := k2 (n - (j + 1)) (by omega)
              rw [show j + 1 + (n - (j + 1)) = n by omega] at z
              have z2 := ua i m m1 m2
              rw [ZBE hxa] at z2
              omega
            by_cases c4 : j + 1 + k = b.size
            . rw [if_pos (by simpa using c4)]
              exact wpS_pure ⟨e4, .inl ⟨_, _, rfl, J3.dn (.inr (by omega))⟩⟩
            rw [if_neg (by simpa using c4)]
            exact four _ _ _ _ _ _ _ xa e4 J3 hi (by omega) (by omega) hxa rest
          . rw [if_neg hk0]
            have : k = 0 := by omega
            subst this
            exact four _ _ _ _ _ _ _ xa e4 J2 hi (by omega) (by omega) hxa rest
        have two : ∀ (g ac bc : Nat), wpS M A E s (lo2 a b g ac bc o i j) (R7 f a b st x) st3 := by
          intro g ac bc
          unfold lo2
          obtain ⟨yb, hyb⟩ := ZCJ (a := b) hj
          refine wpS_bind (wpS_modify ?_)
          have e4 := e3.setG g
          refine wpS_bind (ZAn hyb ?_)
          refine wpS_bind (ZEU L (e4.k.trans hk) T.ia (T.ib.get hyb) (by omega) (by omega) (T.ua.sub (by omega)) fun k k1 k2 k3 => ?_)
          dsimp only
          have rest : ∀ n, i + k <= n -> n < a.size -> f yb <= kn f a n := fun n n1 n2 => by
            have := k3 (n - i) (by omega) (by omega)
            rw [show i + (n - i) = n by omega] at this
            omega
          by_cases hk0 : k > 0
          . rw [if_pos hk0]
            have J3 := J.chunkA k fun n m n1 n2 n3 m1 m2 => by
              have z := k2 (n - i) (by omega)
              rw [show i + (n - i) = n by omega] at z
              have z2 := ub j m m1 m2
              rw [ZBE hyb] at z2
              omega
            by_cases c4 : i + k + 1 = a.size
            . rw [if_pos (by simpa using c4)]
              exact wpS_pure ⟨e4, .inl ⟨_, _, rfl, J3.la T c4⟩⟩
            rw [if_neg (by simpa using c4)]
            by_cases c5 : i + k = a.size
            . rw [if_pos (by simpa using c5)]
              exact wpS_pure ⟨e4, .inl ⟨_, _, rfl, J3.dn (.inl (by omega))⟩⟩
            rw [if_neg (by simpa using c5)]
            exact three _ _ _ _ _ _ _ yb e4 J3 (by omega) hj (by omega) hyb rest
          . rw [if_neg hk0]
            have : k = 0 := by omega
            subst this
            exact three _ _ _ _ _ _ _ yb e4 J hi hj hp hyb rest
        unfold loB
        dsimp only
        split
        . exact wpS_mono (two _ _ _) fun r st' z => by cases r <;> exact z
        . exact wpS_mono (two _ _ _) fun r st' z => by cases r <;> exact z
      . rintro c st3 ⟨e3, o, i, j, g, ac, bc, rfl, J, hi, hj, hp⟩
        exact ⟨e3, .inr ⟨_, _, _, _, _, _, rfl, J, hi, hj, hp⟩⟩
      . rintro c st3 ⟨e3, ⟨r, z, rfl, hr⟩ | ⟨o, i, j, g, ac, bc, rfl, J, hi, hj, hp⟩⟩
        . exact wpS_pure ⟨e3, r, _, rfl, hr⟩
        . dsimp only
          exact wpS_bind (wpS_modify (wpS_pure ⟨e3.setG _, _, _, _, _, rfl, J, hi, hj, by omega⟩))
  . rintro c st1 ⟨e1, o, i, j, g, rfl, J, hi, hj, hp⟩
    omega
  . rintro c st1 ⟨e1, r, z, rfl, hr⟩
    exact wpS_pure (h r st1 e1 hr)
end
end L2S
namespace L2S
open PySem PyProof.Rows
def mHi : Array Keyed -> Array Keyed -> StateT SortSt Sem (Array Keyed) := sortPriv% PySem.Builtin.mergeHi
theorem mHi_eq (a b : Array Keyed) : mHi a b = (do
  rule "list.sort.merge-hi"
  let tt := a.size + b.size
  let dn (o : Array Keyed) (i j : Nat) := a.extract 0 i ++ b.extract 0 j ++ o.reverse
  let fb (o : Array Keyed) (i j : Nat) := b.extract 0 j ++ a.extract 0 i ++ o.reverse
  let mut i := a.size - 1
  let mut j := b.size
  let mut o : Array Keyed := #[<- elem' a i]
  if i == 0 then return dn o i j
  if j == 1 then return fb o i j
  let mut mg := gallopOf (<- get)
  for _ in [0:tt] do
    let mut ac := 0
    let mut bc := 0
    for _ in [0:tt] do
      let some w <- lt' (<- elem' b (j - 1)) (<- elem' a (i - 1)) | return dn o i j
      if w then
        i := i - 1; o := o.push (<- elem' a i); ac := ac + 1; bc := 0
        if i == 0 then return dn o i j
        if ac ≥ mg then break
      else
        j := j - 1; o := o.push (<- elem' b j); bc := bc + 1; ac := 0
        if j == 1 then return fb o i j
        if bc ≥ mg then break
    rule "list.sort.gallop"
    mg := mg + 1
    for _ in [0:tt] do
      if mg > 1 then mg := mg - 1
      modify fun st => setG st mg
      let some t <- gal false (<- elem' b (j - 1)) a 0 i (i - 1) | return dn o i j
      let k := i - t
      ac := k
      if k > 0 then
        o := o ++ (a.extract t i).reverse; i := t
        if i == 0 then return dn o i j
      j := j - 1; o := o.push (<- elem' b j)
      if j == 1 then return fb o i j
      let some t <- gal true (<- elem' a (i - 1)) b 0 j (j - 1) | return dn o i j
      let k := j - t
      bc := k
      if k > 0 then
        o := o ++ (b.extract t j).reverse; j := t
        if j == 1 then return fb o i j
        if j == 0 then return dn o i j
      i := i - 1; o := o.push (<- elem' a i)
      if i == 0 then return dn o i j
      if ac < 7 && bc < 7 then break
    mg := mg + 1
    modify fun st => setG st mg
  unsupported "internal:list.sort.merge-bound") := rfl
abbrev D5 := Option (Array Keyed) × Nat × Nat × Array Keyed × Nat
abbrev D6 := Option (Array Keyed) × Nat × Nat × Array Keyed × Nat × Nat
abbrev D7 := Option (Array Keyed) × Nat × Nat × Array Keyed × Nat × Nat × Nat
abbrev dnH (a b o : Array Keyed) (i j : Nat) : Array Keyed := a.extract 0 i ++ b.extract 0 j ++ o.reverse
abbrev fbH (a b o : Array Keyed) (i j : Nat) : Array Keyed := b.extract 0 j ++ a.extract 0 i ++ o.reverse
def hi1 (a b : Array Keyed) (mg : Nat) (c : D6) : SM (ForInStep D6) := do
  let y <- elem' b (c.2.2.1 - 1)
  let x <- elem' a (c.2.1 - 1)
  let r <- lt' y x
  match r with
  | some w =>
    if w = true then do
      let x <- elem' a (c.2.1 - 1)
      if (c.2.1 - 1 == 0) = true then pure (.done (some (dnH a b (c.2.2.2.1.push x) (c.2.1 - 1) c.2.2.1), c.2.1 - 1, c.2.2.1, c.2.2.2.1.push x, c.2.2.2.2.1 + 1, 0))
      else if c.2.2.2.2.1 + 1 ≥ mg then pure (.done (none, c.2.1 - 1, c.2.2.1, c.2.2.2.1.push x, c.2.2.2.2.1 + 1, 0))
      else pure (.yield (none, c.2.1 - 1, c.2.2.1, c.2.2.2.1.push x, c.2.2.2.2.1 + 1, 0))
    else do
      let y <- elem' b (c.2.2.1 - 1)
      if (c.2.2.1 - 1 == 1) = true then pure (.done (some (fbH a b (c.2.2.2.1.push y) c.2.1 (c.2.2.1 - 1)), c.2.1, c.2.2.1 - 1, c.2.2.2.1.push y, 0, c.2.2.2.2.2 + 1))
      else if c.2.2.2.2.2 + 1 ≥ mg then pure (.done (none, c.2.1, c.2.2.1 - 1, c.2.2.2.1.push y, 0, c.2.2.2.2.2 + 1))
      else pure (.yield (none, c.2.1, c.2.2.1 - 1, c.2.2.2.1.push y, 0, c.2.2.2.2.2 + 1))
  | _ => pure (.done (some (dnH a b c.2.2.2.1 c.2.1 c.2.2.1), c.2.1, c.2.2.1, c.2.2.2.1, c.2.2.2.2.1, c.2.2.2.2.2))
def hi4 (a b : Array Keyed) (g ac bc : Nat) (o : Array Keyed) (i j : Nat) : SM (ForInStep D7) := do
  let x <- elem' a (i - 1)
  if (i - 1 == 0) = true then pure (.done (some (dnH a b (o.push x) (i - 1) j), i - 1, j, o.push x, g, ac, bc))
  else if (decide (ac < 7) && decide (bc < 7)) = true then pure (.done (none, i - 1, j, o.push x, g, ac, bc))
  else pure (.yield (none, i - 1, j, o.push x, g, ac, bc))
def hi3 (a b : Array Keyed) (g ac bc : Nat) (o : Array Keyed) (i j : Nat) : SM (ForInStep D7) := do
  let y <- elem' b (j - 1)
  if (j - 1 == 1) = true then pure (.done (some (fbH a b (o.push y) i (j - 1)), i, j - 1, o.push y, g, ac, bc))
  else do
    let x <- elem' a (i - 1)
    let r <- gal true x b 0 (j - 1) (j - 1 - 1)
    match r with
    | some t =>
      if j - 1 - t > 0 then
        if (t == 1) = true then pure (.done (some (fbH a b (o.push y ++ (b.extract t (j - 1)).reverse) i t), i, t, o.push y ++ (b.extract t (j - 1)).reverse, g, ac, j - 1 - t))
        else if (t == 0) = true then pure (.done (some (dnH a b (o.push y ++ (b.extract t (j - 1)).reverse) i t), i, t, o.push y ++ (b.extract t (j - 1)).reverse, g, ac, j - 1 - t))
        else hi4 a b g ac (j - 1 - t) (o.push y ++ (b.extract t (j - 1)).reverse) i t
      else hi4 a b g ac (j - 1 - t) (o.push y) i (j - 1)
    | _ => pure (.done (some (dnH a b (o.push y) i (j - 1)), i, j - 1, o.push y, g, ac, bc))
def hi2 (a b : Array Keyed) (g ac bc : Nat) (o : Array Keyed) (i j : Nat) : SM (ForInStep D7) := do
  modify fun st => setG st g
  let y <- elem' b (j - 1)
  let r <- gal false y a 0 i (i - 1)
  match r with
  | some t =>
    if i - t > 0 then
      if (t == 0) = true then pure (.done (some (dnH a b (o ++ (a.extract t i).reverse) t j), t, j, o ++ (a.extract t i).reverse, g, i - t, bc))
      else hi3 a b g (i - t) bc (o ++ (a.extract t i).reverse) t j
    else hi3 a b g (i - t) bc o i j
  | _ => pure (.done (some (dnH a b o i j), i, j, o, g, ac, bc))
def hiB (a b : Array Keyed) (c : D7) : SM (ForInStep D7) :=
  if c.2.2.2.2.1 > 1 then hi2 a b (c.2.2.2.2.1 - 1) c.2.2.2.2.2.1 c.2.2.2.2.2.2 c.2.2.2.1 c.2.1 c.2.2.1
  else hi2 a b c.2.2.2.2.1 c.2.2.2.2.2.1 c.2.2.2.2.2.2 c.2.2.2.1 c.2.1 c.2.2.1
def hiO (a b : Array Keyed) (c : D5) : SM (ForInStep D5) := do
  let c1 <- forIn [0:a.size + b.size] ((none, c.2.1, c.2.2.1, c.2.2.2.1, 0, 0) : D6) fun _ d => hi1 a b c.2.2.2.2 d
  match c1.1 with
  | some r => pure (.done (some r, c1.2.1, c1.2.2.1, c1.2.2.2.1, c.2.2.2.2))
  | none => do
    liftM (rule "list.sort.gallop")
    let c2 <- forIn [0:a.size + b.size] ((none, c1.2.1, c1.2.2.1, c1.2.2.2.1, c.2.2.2.2 + 1, c1.2.2.2.2.1, c1.2.2.2.2.2) : D7) fun _ d => hiB a b d
    match c2.1 with
    | some r => pure (.done (some r, c2.2.1, c2.2.2.1, c2.2.2.2.1, c2.2.2.2.2.1))
    | none => do
      modify fun st => setG st (c2.2.2.2.2.1 + 1)
      pure (.yield (none, c2.2.1, c2.2.2.1, c2.2.2.2.1, c2.2.2.2.2.1 + 1))
theorem mHi_low (a b : Array Keyed) : mHi a b = (do
  liftM (rule "list.sort.merge-hi")
  let x <- elem' a (a.size - 1)
  if (a.size - 1 == 0) = true then pure (dnH a b #[x] (a.size - 1) b.size)
  else if (b.size == 1) = true then pure (fbH a b #[x] (a.size - 1) b.size)
  else do
    let st <- get
    let c <- forIn [0:a.size + b.size] ((none, a.size - 1, b.size, #[x], gallopOf st) : D5) fun _ d => hiO a b d
    match c.1 with
    | some r => pure r
    | none => liftM (unsupported "internal:list.sort.merge-bound" : Sem (Array Keyed))) := by
  rw [mHi_eq]
  refine bnd _ fun _ => bnd _ fun y => ?_
  refine if2 rfl (if2 rfl ?_)
  refine bnd _ fun st => bnd2 (for2 fun _ c => ?_) fun c => ?_
  . unfold hiO
    refine bnd2 (for2 fun _ d => ?_) fun c1 => ?_
    . rfl
    . obtain ⟨r, i, j, o, ac, bc⟩ := c1
      cases r with
      | some r => rfl
      | none =>
        refine bnd2 rfl fun _ => bnd2 (for2 fun _ d => ?_) fun c2 => ?_
        . unfold hiB
          refine if2 ?_ ?_
          all_goals
            unfold hi2
            refine bnd2 rfl fun _ => bnd2 rfl fun y => bnd2 rfl fun r => ?_
            cases r with
            | none => rfl
            | some k =>
              refine if2 (if2 rfl ?_) ?_
              all_goals
                unfold hi3
                refine bnd2 rfl fun y2 => if2 rfl (bnd2 rfl fun x2 => bnd2 rfl fun r2 => ?_)
                cases r2 with
                | none => rfl
                | some k2 =>
                  refine if2 (if2 rfl (if2 rfl ?_)) ?_
                  all_goals
                    unfold hi4
                    refine bnd2 rfl fun x3 => if2 rfl (if2 rfl rfl)
        . obtain ⟨r, i, j, o, g, ac, bc⟩ := c2
          cases r with
          | some r => rfl
          | none => rfl
  . obtain ⟨r, i, j, o, g⟩ := c
    cases r with
    | some r => rfl
    | none => rfl
end L2S
namespace L2S
open PySem PyProof.Rows
section
variable {M : Model} {A : Around} {E : Value -> Shared -> Prop} {s : Shared} {κ : SortKind} {a₀ : Array Keyed} {f : Keyed -> Int} {a b o : Array Keyed} {i j : Nat}
abbrev JH (f : Keyed -> Int) (a b o : Array Keyed) (i j : Nat) : Prop := Jm (fun x => - f x) a.toList.reverse b.toList.reverse o.toList (a.size - i) (b.size - j)
theorem ZBT {a : Array Keyed} {i : Nat} (h : i <= a.size) : a.toList.reverse.drop (a.size - i) = (a.toList.take i).reverse := by
  rw [List.drop_reverse, yAN, show a.size - (a.size - i) = i by omega]
theorem ZD7 (a : Array Keyed) (i : Nat) : (a.extract 0 i).toList = a.toList.take i := by
  rw [yCN, yCO, Nat.sub_zero]
  rfl
theorem ZDp {a : Array Keyed} {i : Nat} {x : Keyed} (h : i <= a.size) (hx : x ∈ a.toList.reverse.drop (a.size - i)) : ∃ k, k < i /\ kn f a k = f x := by
  rw [ZBT h, List.mem_reverse] at hx
  obtain ⟨n, hn⟩ := yCG hx
  have hl := (yAJ.mp hn).1
  rw [yAT] at hl
  rw [List.getElem?_take_of_lt (by omega), yBD] at hn
  exact ⟨n, by omega, ZBE hn⟩
theorem good_rev {as bs r : List Keyed} (h : Good (fun x => - f x) as.reverse bs.reverse r) : Good f as bs r.reverse := by
  refine ⟨?_, ?_⟩
  . refine (List.reverse_perm r).trans (h.1.trans ?_)
    exact List.Perm.append (List.reverse_perm as) (List.reverse_perm bs)
  . rw [List.pairwise_reverse]
    refine h.2.imp fun {x y} z => ?_
    have w : - f x <= - f y := z
    show f y <= f x
    omega
theorem JH.dn (h : JH f a b o i j) (hi : i <= a.size) (hj : j <= b.size) (e : i = 0 ∨ j = 0) : Fin f a b (dnH a b o i j) := by
  have g := Jm.dn (Jm.swap h) (e.symm.imp (fun z => by rw [ZBT hj, z]; rfl) (fun z => by rw [ZBT hi, z]; rfl))
  have g2 := good_rev g
  rw [ZBT hi, ZBT hj, List.reverse_append, List.reverse_append, List.reverse_reverse, List.reverse_reverse, <- yBA] at g2
  unfold Fin dnH
  rw [yBS, yBS, ZD7, ZD7, Array.toList_reverse]
  exact ⟨g2.1.trans yCW, g2.2⟩
theorem JH.fb (h : JH f a b o i j) (T : Two a₀ f a b) (hi : i <= a.size) (hj : j <= b.size) (e : j = 1) : Fin f a b (fbH a b o i j) := by
  have g := Jm.la (Jm.swap h) fun x hx y hy => by
    obtain ⟨k, k1, k2⟩ := ZDp (f := f) hj hx
    obtain ⟨n, n1, n2⟩ := ZDp (f := f) hi hy
    have := T.lo n (by omega)
    rw [show k = 0 by omega] at k2
    rw [k2, n2] at this
    show - f y <= - f x
    omega
  have g2 := good_rev g
  rw [ZBT hi, ZBT hj, List.reverse_append, List.reverse_append, List.reverse_reverse, List.reverse_reverse, <- yBA] at g2
  unfold Fin fbH
  rw [yBS, yBS, ZD7, ZD7, Array.toList_reverse]
  exact ⟨g2.1.trans yCW, g2.2⟩
theorem JH.chunkA (h : JH f a b o i j) {t : Nat} (ht : t <= i) (hi : i <= a.size) (hj : j <= b.size) (hc : ∀ n m, t <= n -> n < i -> m < j -> kn f b m <= kn f a n) : JH f a b (o ++ (a.extract t i).reverse) t j := by
  have e : (a.toList.reverse.drop (a.size - i)).take (i - t) = (a.extract t i).reverse.toList := by
    rw [ZBT hi, List.take_reverse, Array.toList_reverse, yCN, yCO, yAT, yAN, Nat.min_eq_left hi, show i - (i - t) = t by omega, List.drop_take]
  have g := Jm.chunk h (i - t) fun u hu y hy => by
    obtain ⟨m, m1, m2⟩ := ZDp (f := f) hj hy
    rw [e, Array.toList_reverse, List.mem_reverse, show i = t + (i - t) by omega, ZDw] at hu
    obtain ⟨n, n1, n2, n3, n4⟩ := mem_take (f := f) hu
    have := hc n m n1 (by omega) m1
    show - f u <= - f y
    omega
  rw [e] at g
  unfold JH
  rw [yBS, show a.size - t = a.size - i + (i - t) by omega]
  exact g
theorem JH.chunkB (h : JH f a b o i j) {t : Nat} (ht : t <= j) (hi : i <= a.size) (hj : j <= b.size) (hc : ∀ n m, t <= n -> n < j -> m < i -> kn f a m <= kn f b n) : JH f a b (o ++ (b.extract t j).reverse) i t :=
  (JH.chunkA (Jm.swap h) ht hj hi hc).swap
theorem one_rev {x : Keyed} (hx : a[i - 1]? = some x) (hi : 1 <= i) : (a.extract (i - 1) i).reverse = #[x] := by
  have e : (a.extract (i - 1) i).toList = [x] := by
    have := ZDw a (i - 1) 1
    rw [show i - 1 + 1 = i by omega] at this
    rw [this]
    exact ZET hx
  apply Array.toList_inj.mp
  rw [Array.toList_reverse, e]
  rfl
theorem JH.pushA {x : Keyed} (h : JH f a b o i j) (hx : a[i - 1]? = some x) (h1 : 1 <= i) (hi : i <= a.size) (hj : j <= b.size) (hc : ∀ m, m < j -> kn f b m <= f x) : JH f a b (o.push x) (i - 1) j := by
  have g := JH.chunkA h (t := i - 1) (by omega) hi hj fun n m n1 n2 m1 => by
    rw [show n = i - 1 by omega, ZBE hx]
    exact hc m m1
  rw [one_rev hx h1] at g
  rw [show o.push x = o ++ #[x] from rfl]
  exact g
theorem JH.pushB {x : Keyed} (h : JH f a b o i j) (hx : b[j - 1]? = some x) (h1 : 1 <= j) (hi : i <= a.size) (hj : j <= b.size) (hc : ∀ m, m < i -> kn f a m <= f x) : JH f a b (o.push x) i (j - 1) :=
  (JH.pushA (Jm.swap h) hx h1 hj hi hc).swap
structure At (f : Keyed -> Int) (a b : Array Keyed) (x : Nat) (i j : Nat) (o : Array Keyed) : Prop where
  J : JH f a b o i j
  i1 : 1 <= i
  i2 : i <= a.size
  j1 : 2 <= j
  j2 : j <= b.size
  p : x + i + j <= a.size + b.size
def R7h (f : Keyed -> Int) (a b : Array Keyed) (st : SortSt) (x : Nat) : ForInStep D7 -> SortSt -> Prop
  | .done c, st' => Ev st st' /\ ((∃ r z, c = (some r, z) /\ Fin f a b r) ∨ ∃ i j o g ac bc, c = (none, i, j, o, g, ac, bc) /\ At f a b x i j o)
  | .yield c, st' => Ev st st' /\ ∃ i j o g ac bc, c = (none, i, j, o, g, ac, bc) /\ At f a b x i j o
theorem mHi_ok {st : SortSt} {Q : Array Keyed -> SortSt -> Prop} (L : Asks M A E s κ a₀ f) (hk : kindOf st = κ) (T : Two a₀ f a b) (h : ∀ r st', Ev st st' -> Fin f a b r -> Q r st') : wpS M A E s (mHi a b) Q st := by
  have ta := T.na
  have tb := T.nb
  have ua : ∀ n m, n <= m -> m < a.size -> kn f a n <= kn f a m := fun n m z1 z2 => T.ua n m (yAF _) z1 (by omega)
  have ub : ∀ n m, n <= m -> m < b.size -> kn f b n <= kn f b m := fun n m z1 z2 => T.ub n m (yAF _) z1 (by omega)
  have pr : ∀ l : List Keyed, l.Pairwise (leK f) -> l.reverse.Pairwise (leK fun x => - f x) := fun l z => by
    rw [List.pairwise_reverse]
    refine z.imp fun {x y} w => ?_
    have w' : f x <= f y := w
    show - f y <= - f x
    omega
  rw [mHi_low]
  refine wpS_bind (wpS_lift (wpAny_rule ⟨rfl, ?_⟩))
  obtain ⟨x0, hx0⟩ := ZCJ (a := a) (i := a.size - 1) (by omega)
  refine wpS_bind (ZAn hx0 ?_)
  have J0 : JH f a b #[x0] (a.size - 1) b.size := by
    have e : JH f a b #[] a.size b.size := ⟨by simp, by simpa using pr _ (ZEc T.ua), by simpa using pr _ (ZEc T.ub)⟩
    exact JH.pushA e hx0 ta (yAB _) (yAB _) fun m m1 => by rw [<- ZBE (f := f) hx0]; exact T.hi m m1
  by_cases c1 : a.size - 1 = 0
  . rw [if_pos (by simpa using c1)]
    exact wpS_pure (h _ st .refl (J0.dn (by omega) (yAB _) (.inl c1)))
  rw [if_neg (by simpa using c1)]
  by_cases c2 : b.size = 1
  . rw [if_pos (by simpa using c2)]
    exact wpS_pure (h _ st .refl (J0.fb T (by omega) (yAB _) c2))
  rw [if_neg (by simpa using c2)]
  refine wpS_bind (wpS_get ?_)
  refine wpS_bind (wpS_mono (wpS_forRange (I := fun x c st' => Ev st st' /\ ∃ i j o g, c = (none, i, j, o, g) /\ At f a b (x + 1) i j o) (Q := fun c st' => Ev st st' /\ ∃ r z, c = (some r, z) /\ Fin f a b r) ?_ ?_ ⟨.refl, _, _, _, _, rfl, J0, by omega, by omega, by omega, by omega, by omega⟩) ?_)
  . rintro x c st1 _ hx ⟨e1, i, j, o, g, rfl, W⟩
    unfold hiO
    dsimp only
    refine wpS_bind (wpS_mono (wpS_forRange (I := fun y c st' => Ev st st' /\ ∃ i j o ac bc, c = (none, i, j, o, ac, bc) /\ At f a b (x + 1 + y) i j o)
      (Q := fun c st' => Ev st st' /\ ((∃ r z, c = (some r, z) /\ Fin f a b r) ∨ ∃ i j o ac bc, c = (none, i, j, o, ac, bc) /\ At f a b (x + 2) i j o)) ?_ ?_ ⟨e1, i, j, o, 0, 0, rfl, W⟩) ?_)
    . rintro y c st2 _ hy ⟨e2, i, j, o, ac, bc, rfl, J, i1, i2, j1, j2, hp⟩
      unfold hi1
      dsimp only
      obtain ⟨yb, hyb⟩ := ZCJ (a := b) (i := j - 1) (by omega)
      obtain ⟨xa, hxa⟩ := ZCJ (a := a) (i := i - 1) (by omega)
      refine wpS_bind (ZAn hyb ?_)
      refine wpS_bind (ZAn hxa ?_)
      refine wpS_bind (L.lt yb xa (T.ib.get hyb) (T.ia.get hxa) st2 _ (e2.k.trans hk) ?_)
      by_cases hw : f yb < f xa
      . rw [decide_eq_true hw]
        dsimp only
        rw [if_pos rfl]
        refine wpS_bind (ZAn hxa ?_)
        have J2 := J.pushA hxa i1 i2 j2 fun m m1 => by
          have := ub m (j - 1) (by omega) (by omega)
          rw [ZBE hyb] at this
          omega
        by_cases c3 : i - 1 = 0
        . rw [if_pos (by simpa using c3)]
          exact wpS_pure ⟨e2, .inl ⟨_, _, rfl, J2.dn (by omega) j2 (.inl c3)⟩⟩
        rw [if_neg (by simpa using c3)]
        split
        . exact wpS_pure ⟨e2, .inr ⟨_, _, _, _, _, rfl, J2, by omega, by omega, j1, j2, by omega⟩⟩
        . exact wpS_pure ⟨e2, _, _, _, _, _, rfl, J2, by omega, by omega, j1, j2, by omega⟩
      . rw [decide_eq_false hw]
        dsimp only
        rw [if_neg (by decide)]
        refine wpS_bind (ZAn hyb ?_)
        have J2 := J.pushB hyb (by omega) i2 j2 fun m m1 => by
          have := ua m (i - 1) (by omega) (by omega)
          rw [ZBE hxa] at this
          omega
        by_cases c3 : j - 1 = 1
        . rw [if_pos (by simpa using c3)]
          exact wpS_pure ⟨e2, .inl ⟨_, _, rfl, J2.fb T i2 (by omega) c3⟩⟩
        rw [if_neg (by simpa using c3)]
        split
        . exact wpS_pure ⟨e2, .inr ⟨_, _, _, _, _, rfl, J2, i1, i2, by omega, by omega, by omega⟩⟩
        . exact wpS_pure ⟨e2, _, _, _, _, _, rfl, J2, i1, i2, by omega, by omega, by omega⟩
    . rintro c st2 ⟨e2, i, j, o, ac, bc, rfl, J, i1, i2, j1, j2, hp⟩
      exact ⟨e2, .inr ⟨_, _, _, _, _, rfl, J, i1, i2, j1, j2, by omega⟩⟩
    . rintro c st2 ⟨e2, ⟨r, z, rfl, hr⟩ | ⟨i, j, o, ac, bc, rfl, W⟩⟩
      . exact wpS_pure ⟨e2, r, _, rfl, hr⟩
      dsimp only
      refine wpS_bind (wpS_lift (wpAny_rule ⟨rfl, ?_⟩))
      refine wpS_bind (wpS_mono (wpS_forRange (I := fun y c st' => Ev st st' /\ ∃ i j o g ac bc, c = (none, i, j, o, g, ac, bc) /\ At f a b (x + 2) i j o)
        (Q := fun c st' => Ev st st' /\ ((∃ r z, c = (some r, z) /\ Fin f a b r) ∨ ∃ i j o g ac bc, c = (none, i, j, o, g, ac, bc) /\ At f a b (x + 2) i j o)) ?_ ?_ ⟨e2, i, j, o, _, ac, bc, rfl, W⟩) ?_)
      . rintro y c st3 _ hy ⟨e3, i, j, o, g, ac, bc, rfl, J, i1, i2, j1, j2, hp⟩
        have four : ∀ (g ac bc : Nat) (o : Array Keyed) (i j : Nat) (st4 : SortSt) (xa : Keyed), Ev st st4 -> At f a b (x + 2) i j o -> a[i - 1]? = some xa -> (∀ n, n < j -> kn f b n <= f xa) -> wpS M A E s (hi4 a b g ac bc o i j) (R7h f a b st (x + 2)) st4 := by
          rintro g ac bc o i j st4 xa e4 ⟨J, i1, i2, j1, j2, hp⟩ hxa hle
          unfold hi4
          refine wpS_bind (ZAn hxa ?_)
          have J2 := J.pushA hxa i1 i2 j2 hle
          by_cases c3 : i - 1 = 0
          . rw [if_pos (by simpa using c3)]
            exact wpS_pure ⟨e4, .inl ⟨_, _, rfl, J2.dn (by omega) j2 (.inl c3)⟩⟩
          rw [if_neg (by simpa using c3)]
          split
          . exact wpS_pure ⟨e4, .inr ⟨_, _, _, _, _, _, rfl, J2, by omega, by omega, j1, j2, by omega⟩⟩
          . exact wpS_pure ⟨e4, _, _, _, _, _, _, rfl, J2, by omega, by omega, j1, j2, by omega⟩
        have three : ∀ (g ac bc : Nat) (o : Array Keyed) (i j : Nat) (st4 : SortSt) (yb : Keyed), Ev st st4 -> At f a b (x + 2) i j o -> b[j - 1]? = some yb -> (∀ n, n < i -> kn f a n <= f yb) -> wpS M A E s (hi3 a b g ac bc o i j) (R7h f a b st (x + 2)) st4 := by
          rintro g ac bc o i j st4 yb e4 ⟨J, i1, i2, j1, j2, hp⟩ hyb hle
          unfold hi3
          refine wpS_bind (ZAn hyb ?_)
          have J2 := J.pushB hyb (by omega) i2 j2 hle
          by_cases c3 : j - 1 = 1
          . rw [if_pos (by simpa using c3)]
            exact wpS_pure ⟨e4, .inl ⟨_, _, rfl, J2.fb T i2 (by omega) c3⟩⟩
          rw [if_neg (by simpa using c3)]
          obtain ⟨xa, hxa⟩ := ZCJ (a := a) (i := i - 1) (by omega)
          refine wpS_bind (ZAn hxa ?_)
          refine wpS_bind (ZDt L (e4.k.trans hk) T.ib (T.ia.get hxa) (by omega) (by omega) (T.ub.sub (by omega)) fun t k1 k2 k3 => ?_)
          dsimp only
          have rest : ∀ n, n < t -> kn f b n <= f xa := fun n n1 => by
            have := k2 n n1
            rw [yCK] at this
            omega
          by_cases hk0 : j - 1 - t > 0
          . rw [if_pos hk0]
            have J3 := J2.chunkB k1 i2 (by omega) fun n m n1 n2 m1 => by
              have z := k3 n n1 n2
              rw [yCK] at z
              have z2 := ua m (i - 1) (by omega) (by omega)
              rw [ZBE hxa] at z2
              omega
            by_cases c4 : t = 1
            . rw [if_pos (by simpa using c4)]
              exact wpS_pure ⟨e4, .inl ⟨_, _, rfl, J3.fb T i2 (by omega) c4⟩⟩
            rw [if_neg (by simpa using c4)]
            by_cases c5 : t = 0
            . rw [if_pos (by simpa using c5)]
              exact wpS_pure ⟨e4, .inl ⟨_, _, rfl, J3.dn i2 (by omega) (.inr c5)⟩⟩
            rw [if_neg (by simpa using c5)]
            exact four _ _ _ _ _ _ _ xa e4 ⟨J3, i1, i2, by omega, by omega, by omega⟩ hxa rest
          . rw [if_neg hk0]
            have : t = j - 1 := by omega
            subst this
            exact four _ _ _ _ _ _ _ xa e4 ⟨J2, i1, i2, by omega, by omega, by omega⟩ hxa rest
        have two : ∀ (g ac bc : Nat), wpS M A E s (hi2 a b g ac bc o i j) (R7h f a b st (x + 2)) st3 := by
          intro g ac bc
          unfold hi2
          obtain ⟨yb, hyb⟩ := ZCJ (a := b) (i := j - 1) (by omega)
          refine wpS_bind (wpS_modify ?_)
          have e4 := e3.setG g
          refine wpS_bind (ZAn hyb ?_)
          refine wpS_bind (ZEU L (e4.k.trans hk) T.ia (T.ib.get hyb) (by omega) (by omega) (T.ua.sub (by omega)) fun t k1 k2 k3 => ?_)
          dsimp only
          have rest : ∀ n, n < t -> kn f a n <= f yb := fun n n1 => by
            have := k2 n n1
            rw [yCK] at this
            exact this
          by_cases hk0 : i - t > 0
          . rw [if_pos hk0]
            have J3 := J.chunkA k1 i2 j2 fun n m n1 n2 m1 => by
              have z := k3 n n1 n2
              rw [yCK] at z
              have z2 := ub m (j - 1) (by omega) (by omega)
              rw [ZBE hyb] at z2
              omega
            by_cases c4 : t = 0
            . rw [if_pos (by simpa using c4)]
              exact wpS_pure ⟨e4, .inl ⟨_, _, rfl, J3.dn (by omega) j2 (.inl c4)⟩⟩
            rw [if_neg (by simpa using c4)]
            exact three _ _ _ _ _ _ _ yb e4 ⟨J3, by omega, by omega, j1, j2, by omega⟩ hyb rest
          . rw [if_neg hk0]
            have : t = i := by omega
            subst this
            exact three _ _ _ _ _ _ _ yb e4 ⟨J, i1, i2, j1, j2, hp⟩ hyb rest
        unfold hiB
        dsimp only
        split
        . exact wpS_mono (two _ _ _) fun r st' z => by cases r <;> exact z
        . exact wpS_mono (two _ _ _) fun r st' z => by cases r <;> exact z
      . rintro c st3 ⟨e3, i, j, o, g, ac, bc, rfl, W⟩
        exact ⟨e3, .inr ⟨_, _, _, _, _, _, rfl, W⟩⟩
      . rintro c st3 ⟨e3, ⟨r, z, rfl, hr⟩ | ⟨i, j, o, g, ac, bc, rfl, W⟩⟩
        . exact wpS_pure ⟨e3, r, _, rfl, hr⟩
        . dsimp only
          exact wpS_bind (wpS_modify (wpS_pure ⟨e3.setG _, _, _, _, _, rfl, W⟩))
  . rintro c st1 ⟨e1, i, j, o, g, rfl, J, i1, i2, j1, j2, hp⟩
    omega
  . rintro c st1 ⟨e1, r, z, rfl, hr⟩
    exact wpS_pure (h r st1 e1 hr)
end
end L2S
namespace L2S
open PySem PyProof.Rows
abbrev PT := Nat × Nat × Nat
def ZC4 (xs m : Array Keyed) (lo : Nat) : Array Keyed := m.toList.zipIdx.foldl (fun a (p, j) => a.setIfInBounds (lo + j) p) xs
theorem mAt_eq (i : Nat) : mergeAt' i = (do
  let z <- get
  let (some (s1, n1, w1), some (s2, n2, _)) := ((pendingOf z)[i]?, (pendingOf z)[i + 1]?) | unsupported "internal:list.sort.pending"
  set (setPending z (((pendingOf z).setIfInBounds i (s1, n1 + n2, w1)).eraseIdxIfInBounds (i + 1)))
  let some k <- gal false (<- elem' (arrOf z) s2) (arrOf z) s1 n1 0 | return false
  let (s1, n1) := (s1 + k, n1 - k)
  if n1 == 0 then return true
  let some n2 <- gal true (<- elem' (arrOf z) (s1 + n1 - 1)) (arrOf z) s2 n2 (n2 - 1) | return false
  if n2 == 0 then return true
  let x := (arrOf z).extract s1 s2
  let y := (arrOf z).extract s2 (s2 + n2)
  let m <- if n1 <= n2 then mLo x y else mHi x y
  modify fun z => setArr z (ZC4 (arrOf z) m s1)
  return (failedOf (<- get)).isNone) := rfl
theorem wpS_set {M : Model} {A : Around} {E : Value -> Shared -> Prop} {s : Shared} {σ : Type} {x : σ} {Q : PUnit -> σ -> Prop} {st : σ} (h : Q ⟨⟩ x) : wpS M A E s (set x : StateT σ Sem PUnit) Q st := by
  unfold wpS; rw [StateT.run_set]; exact wpAny_pure ⟨rfl, h⟩
theorem lay_go (lo : Nat) : ∀ (l : List Keyed) (k : Nat) (xs : Array Keyed), lo + k + l.length <= xs.size ->
    (((l.zipIdx k).foldl (fun a (p : Keyed × Nat) => a.setIfInBounds (lo + p.2) p.1) xs).size = xs.size) /\ ∀ n, ((l.zipIdx k).foldl (fun a (p : Keyed × Nat) => a.setIfInBounds (lo + p.2) p.1) xs)[n]? = if lo + k <= n /\ n < lo + k + l.length then l[n - (lo + k)]? else xs[n]?
  | [], k, xs, _ => by
    refine ⟨rfl, fun n => ?_⟩
    rw [if_neg (fun z => by rw [yCH] at z; omega)]
    rfl
  | x :: r, k, xs, h => by
    rw [yAR] at h
    rw [List.zipIdx_cons, List.foldl_cons]
    obtain ⟨i1, i2⟩ := lay_go lo r (k + 1) (xs.setIfInBounds (lo + k) x) (by rw [Array.size_setIfInBounds]; omega)
    refine ⟨by rw [i1, Array.size_setIfInBounds], fun n => ?_⟩
    rw [i2, yAR]
    by_cases c1 : lo + (k + 1) <= n /\ n < lo + (k + 1) + r.length
    . rw [if_pos c1, if_pos (by omega), show n - (lo + k) = (n - (lo + (k + 1))) + 1 by omega, List.getElem?_cons_succ]
    . rw [if_neg c1, Array.getElem?_setIfInBounds]
      by_cases c2 : lo + k = n
      . rw [if_pos c2, if_pos (by omega), if_pos (by omega), show n - (lo + k) = 0 by omega]
        rfl
      . rw [if_neg c2, if_neg (by omega)]
theorem ZDq {xs m : Array Keyed} {lo : Nat} (h : lo + m.size <= xs.size) (n : Nat) : (ZC4 xs m lo)[n]? = if lo <= n /\ n < lo + m.size then m[n - lo]? else xs[n]? := by
  have := (lay_go lo m.toList 0 xs (by rw [yAN]; omega)).2 n
  rw [yAN, yCA, yBD] at this
  exact this
theorem lay_list {xs m : Array Keyed} {lo : Nat} (h : lo + m.size <= xs.size) : (ZC4 xs m lo).toList = xs.toList.take lo ++ m.toList ++ xs.toList.drop (lo + m.size) := by
  refine List.ext_getElem? fun n => ?_
  rw [yBD, ZDq h]
  by_cases c1 : n < lo
  . rw [if_neg (by omega), yBA, yAV (by rw [yAT, yAN]; omega), List.getElem?_take_of_lt c1, yBD]
  . by_cases c2 : n < lo + m.size
    . rw [if_pos (by omega), yBA, yAU (by rw [yAT, yAN]; omega), yAT, yAN, Nat.min_eq_left (by omega), yAV (by rw [yAN]; omega), yBD]
    . rw [if_neg (by omega), yAU (by rw [yAD, yAT, yAN, yAN]; omega), yAD, yAT, yAN, yAN, Nat.min_eq_left (by omega), List.getElem?_drop, yBD]
      congr 1
      omega
section
variable {M : Model} {A : Around} {E : Value -> Shared -> Prop} {s : Shared} {κ : SortKind} {a₀ : Array Keyed} {f : Keyed -> Int}
theorem SB.inA {st : SortSt} (h : SB κ a₀ st) : InA a₀ (arrOf st) := fun x hx => (Array.perm_iff_toList_perm.mp h.perm).mem_iff.mp hx
theorem ext_get {xs : Array Keyed} {i j n : Nat} (h : j <= xs.size) (hn : n < j - i) : (xs.extract i j)[n]? = xs[i + n]? := by
  rw [Array.getElem?_extract]
  rw [if_pos (by omega)]
theorem merge_at {st : SortSt} {i sa na w nb v : Nat} {Q : Bool -> SortSt -> Prop} (L : Asks M A E s κ a₀ f) (hB : SB κ a₀ st) (p1 : (pendingOf st)[i]? = some (sa, na, w)) (p2 : (pendingOf st)[i + 1]? = some (sa + na, nb, v)) (na1 : 1 <= na) (nb1 : 1 <= nb) (hz : sa + na + nb <= a₀.size)
    (ua : Up f (arrOf st) sa na) (ub : Up f (arrOf st) (sa + na) nb)
    (h : ∀ st', SB κ a₀ st' -> pendingOf st' = ((pendingOf st).setIfInBounds i (sa, na + nb, w)).eraseIdxIfInBounds (i + 1) -> Up f (arrOf st') sa (na + nb) -> (∀ k, k < sa ∨ sa + na + nb <= k -> (arrOf st')[k]? = (arrOf st)[k]?) -> Q true st') : wpS M A E s (mergeAt' i) Q st := by
  have hsz := hB.size
  rw [mAt_eq]
  refine wpS_bind (wpS_get ?_)
  rw [p1, p2]
  dsimp only
  refine wpS_bind (wpS_set ?_)
  have hB1 : SB κ a₀ (setPending st (((pendingOf st).setIfInBounds i (sa, na + nb, w)).eraseIdxIfInBounds (i + 1))) := ⟨hB.perm, hB.kind, hB.fail⟩
  obtain ⟨b0, hb0⟩ := ZCJ (a := arrOf st) (i := sa + na) (by omega)
  refine wpS_bind (ZAn hb0 ?_)
  refine wpS_bind (ZEU L hB1.kind hB.inA (hB.inA.get hb0) (by omega) (by omega) ua fun k k1 k2 k3 => ?_)
  dsimp only
  have lowA : ∀ n, sa <= n -> n < sa + k -> kn f (arrOf st) n <= f b0 := fun n n1 n2 => by
    have := k2 (n - sa) (by omega)
    rw [show sa + (n - sa) = n by omega] at this
    exact this
  have fromB : ∀ n, sa + na <= n -> n < sa + na + nb -> f b0 <= kn f (arrOf st) n := fun n n1 n2 => by
    have := ub (sa + na) n (yAB _) n1 n2
    rw [ZBE hb0] at this
    exact this
  by_cases c1 : na - k = 0
  . rw [if_pos (by simpa using c1)]
    refine wpS_pure (h _ hB1 rfl (fun n m n1 n2 n3 => ?_) fun _ _ => rfl)
    by_cases d1 : m < sa + na
    . exact ua n m n1 n2 d1
    . by_cases d2 : n < sa + na
      . have z1 := lowA n n1 (by omega)
        have z2 := fromB m (by omega) (by omega)
        show kn f (arrOf st) n <= kn f (arrOf st) m
        omega
      . exact ub n m (by omega) n2 (by omega)
  rw [if_neg (by simpa using c1)]
  rw [show sa + k + (na - k) - 1 = sa + na - 1 by omega]
  obtain ⟨aN, haN⟩ := ZCJ (a := arrOf st) (i := sa + na - 1) (by omega)
  refine wpS_bind (ZAn haN ?_)
  refine wpS_bind (ZDt L hB1.kind hB.inA (hB.inA.get haN) (by omega) (by omega) ub fun t t1 t2 t3 => ?_)
  dsimp only
  have highB : ∀ n, sa + na + t <= n -> n < sa + na + nb -> f aN <= kn f (arrOf st) n := fun n n1 n2 => by
    have := t3 (n - (sa + na)) (by omega) (by omega)
    rw [show sa + na + (n - (sa + na)) = n by omega] at this
    exact this
  have toA : ∀ n, sa <= n -> n < sa + na -> kn f (arrOf st) n <= f aN := fun n n1 n2 => by
    have := ua n (sa + na - 1) n1 (by omega) (by omega)
    rw [ZBE haN] at this
    exact this
  by_cases c2 : t = 0
  . rw [if_pos (by simpa using c2)]
    refine wpS_pure (h _ hB1 rfl (fun n m n1 n2 n3 => ?_) fun _ _ => rfl)
    by_cases d1 : m < sa + na
    . exact ua n m n1 n2 d1
    . by_cases d2 : n < sa + na
      . have z1 := toA n n1 d2
        have z2 := highB m (by omega) (by omega)
        show kn f (arrOf st) n <= kn f (arrOf st) m
        omega
      . exact ub n m (by omega) n2 (by omega)
  rw [if_neg (by simpa using c2)]
  have x1 : ((arrOf st).extract (sa + k) (sa + na)).size = na - k := by rw [Array.size_extract]; omega
  have y1 : ((arrOf st).extract (sa + na) (sa + na + t)).size = t := by rw [Array.size_extract]; omega
  have xg : ∀ n, n < na - k -> kn f ((arrOf st).extract (sa + k) (sa + na)) n = kn f (arrOf st) (sa + k + n) := fun n hn => ZA2 (ext_get (by omega) (by omega))
  have yg : ∀ n, n < t -> kn f ((arrOf st).extract (sa + na) (sa + na + t)) n = kn f (arrOf st) (sa + na + n) := fun n hn => ZA2 (ext_get (by omega) (by omega))
  have hiA : ∀ n, sa + k <= n -> n < sa + na -> f b0 < kn f (arrOf st) n := fun n n1 n2 => by
    have := k3 (n - sa) (by omega) (by omega)
    rw [show sa + (n - sa) = n by omega] at this
    exact this
  have inx : ∀ (lo hi : Nat), InA a₀ ((arrOf st).extract lo hi) := fun lo hi x hx => by
    rw [yCN, yCO] at hx
    exact hB.inA x (List.mem_of_mem_drop (List.mem_of_mem_take hx))
  have T : Two a₀ f ((arrOf st).extract (sa + k) (sa + na)) ((arrOf st).extract (sa + na) (sa + na + t)) := {
    ia := inx _ _
    ib := inx _ _
    ua := fun n m _ n2 n3 => by
      rw [xg n (by omega), xg m (by omega)]
      exact ua _ _ (by omega) (by omega) (by omega)
    ub := fun n m _ n2 n3 => by
      rw [yg n (by omega), yg m (by omega)]
      exact ub _ _ (by omega) (by omega) (by omega)
    na := by omega
    nb := by omega
    lo := fun n hn => by
      rw [xg n (by omega), yg 0 (by omega), yCA, ZBE hb0]
      exact Int.le_of_lt (hiA _ (by omega) (by omega))
    hi := fun n hn => by
      rw [x1, xg _ (by omega), yg n (by omega), show sa + k + (na - k - 1) = sa + na - 1 by omega, ZBE haN]
      exact Int.le_of_lt (t2 n (by omega)) }
  have fin : ∀ m st', Ev (setPending st (((pendingOf st).setIfInBounds i (sa, na + nb, w)).eraseIdxIfInBounds (i + 1))) st' -> Fin f ((arrOf st).extract (sa + k) (sa + na)) ((arrOf st).extract (sa + na) (sa + na + t)) m ->
      wpS M A E s (modify (fun z => setArr z (ZC4 (arrOf z) m (sa + k))) >>= fun _ => get >>= fun z => pure (failedOf z).isNone) Q st' := by
    intro m st' ev g
    have ea : arrOf st' = arrOf st := ev.a
    have hm : m.size = na - k + t := by
      have := g.1.length_eq
      rw [yAN, yAD, yAN, yAN, x1, y1] at this
      exact this
    refine wpS_bind (wpS_modify (wpS_bind (wpS_get (wpS_pure ?_))))
    have hf : failedOf st' = none := ev.f.trans hB.fail
    show Q (failedOf st').isNone _
    rw [hf]
    have hl : sa + k + m.size <= (arrOf st).size := by omega
    have mel : ∀ n, n < m.size -> ∃ p, sa + k <= p /\ p < sa + na + t /\ kn f m n = kn f (arrOf st) p := fun n hn => by
      obtain ⟨x, hx⟩ := ZCJ (a := m) hn
      have hxm : x ∈ m.toList := by
        rw [yCI] at hx
        obtain ⟨_, rfl⟩ := hx
        simp
      have := g.1.mem_iff.mp hxm
      rw [ZBE hx]
      rcases yBB.mp this with z | z
      . obtain ⟨q, q1⟩ := yCG z
        rw [yBD] at q1
        have q2 := (yCI.mp q1).1
        refine ⟨sa + k + q, by omega, by omega, ?_⟩
        rw [<- xg q (by omega), ZBE q1]
      . obtain ⟨q, q1⟩ := yCG z
        rw [yBD] at q1
        have q2 := (yCI.mp q1).1
        refine ⟨sa + na + q, by omega, by omega, ?_⟩
        rw [<- yg q (by omega), ZBE q1]
    have ms : ∀ n q, n <= q -> q < m.size -> kn f m n <= kn f m q := fun n q n1 n2 => by
      by_cases e : n = q
      . rw [e]; exact Int.le_refl _
      . have := List.pairwise_iff_getElem.mp g.2 n q (by rw [yAN]; omega) (by rw [yAN]; omega) (by omega)
        rw [ZBE (getElem?_pos m n (by omega)), ZBE (getElem?_pos m q n2)]
        simpa [leK] using this
    have lk : ∀ n, kn f (ZC4 (arrOf st') m (sa + k)) n = if sa + k <= n /\ n < sa + na + t then kn f m (n - (sa + k)) else kn f (arrOf st) n := fun n => by
      rw [ea]
      have := ZDq hl n
      by_cases e : sa + k <= n /\ n < sa + na + t
      . rw [if_pos e]
        rw [if_pos (by omega)] at this
        exact ZA2 this
      . rw [if_neg e]
        rw [if_neg (by omega)] at this
        exact ZA2 this
    refine h (setArr st' (ZC4 (arrOf st') m (sa + k))) ⟨?_, ev.k.trans hB.kind, hf⟩ ev.p (fun n q n1 n2 n3 => ?_) fun n hn => ?_
    . show (ZC4 (arrOf st') m (sa + k)).Perm a₀
      rw [ea]
      refine Array.Perm.trans ?_ hB.perm
      rw [Array.perm_iff_toList_perm, lay_list hl]
      have e1 : (arrOf st).toList = (arrOf st).toList.take (sa + k) ++ (((arrOf st).extract (sa + k) (sa + na)).toList ++ ((arrOf st).extract (sa + na) (sa + na + t)).toList) ++ (arrOf st).toList.drop (sa + k + m.size) := by
        rw [yCN, yCN, yCO, yCO]
        have s1 : ((arrOf st).toList.drop (sa + k)).take (sa + na - (sa + k)) ++ ((arrOf st).toList.drop (sa + na)).take (sa + na + t - (sa + na)) = ((arrOf st).toList.drop (sa + k)).take m.size := by
          rw [show m.size = (sa + na - (sa + k)) + (sa + na + t - (sa + na)) by omega, List.take_add, List.drop_drop, show sa + k + (sa + na - (sa + k)) = sa + na by omega]
        rw [s1, yBA, show (arrOf st).toList.drop (sa + k + m.size) = ((arrOf st).toList.drop (sa + k)).drop m.size by rw [List.drop_drop], yCV, yCV]
      conv => rhs; rw [e1]
      exact List.Perm.append_right _ (List.Perm.append_left _ g.1)
    . show kn f (ZC4 (arrOf st') m (sa + k)) n <= kn f (ZC4 (arrOf st') m (sa + k)) q
      rw [lk, lk]
      by_cases c3 : sa + k <= n /\ n < sa + na + t
      . rw [if_pos c3]
        by_cases c4 : sa + k <= q /\ q < sa + na + t
        . rw [if_pos c4]
          exact ms _ _ (by omega) (by omega)
        . rw [if_neg c4]
          obtain ⟨p, q1, q2, q3⟩ := mel (n - (sa + k)) (by omega)
          rw [q3]
          by_cases c5 : p < sa + na
          . have z1 := toA p (by omega) c5
            have z2 := highB q (by omega) (by omega)
            omega
          . exact ub p q (by omega) (by omega) (by omega)
      . rw [if_neg c3]
        by_cases c4 : sa + k <= q /\ q < sa + na + t
        . rw [if_pos c4]
          obtain ⟨p, q1, q2, q3⟩ := mel (q - (sa + k)) (by omega)
          rw [q3]
          have z1 := lowA n n1 (by omega)
          by_cases c5 : p < sa + na
          . exact ua n p n1 (by omega) c5
          . have z2 := fromB p (by omega) (by omega)
            omega
        . rw [if_neg c4]
          by_cases c5 : q < sa + na
          . exact ua n q n1 n2 c5
          . by_cases c6 : n < sa + na
            . have z1 := lowA n n1 (by omega)
              have z2 := fromB q (by omega) (by omega)
              omega
            . exact ub n q (by omega) n2 (by omega)
    . show (ZC4 (arrOf st') m (sa + k))[n]? = (arrOf st)[n]?
      rw [ea, ZDq hl, if_neg (by omega)]
  by_cases c3 : na - k <= t
  . rw [if_pos c3]
    exact wpS_bind (mLo_ok L hB1.kind T fin)
  . rw [if_neg c3]
    exact wpS_bind (mHi_ok L hB1.kind T fin)
end
end L2S
namespace L2S
open PySem PyProof.Rows
section
variable {M : Model} {A : Around} {E : Value -> Shared -> Prop} {s : Shared} {κ : SortKind} {a₀ : Array Keyed} {f : Keyed -> Int}
def Chn (f : Keyed -> Int) (xs : Array Keyed) : Nat -> List PT -> Nat -> Prop
  | a, [], e => a = e
  | a, (b, n, _) :: r, e => b = a /\ 1 <= n /\ Up f xs a n /\ Chn f xs (a + n) r e
theorem Chn.le {xs : Array Keyed} : ∀ {l : List PT} {a e : Nat}, Chn f xs a l e -> a + l.length <= e
  | [], a, e, h => by have : a = e := h; rw [yCH]; omega
  | (b, n, w) :: r, a, e, h => by
    obtain ⟨_, h1, _, h2⟩ := h
    have := h2.le
    rw [yAR]
    omega
theorem Chn.keep {xs ys : Array Keyed} : ∀ {l : List PT} {a e : Nat}, Chn f xs a l e -> (∀ k, a <= k -> k < e -> ys[k]? = xs[k]?) -> Chn f ys a l e
  | [], a, e, h, _ => h
  | (b, n, w) :: r, a, e, ⟨h0, h1, h2, h3⟩, k => by
    have hl := h3.le
    refine ⟨h0, h1, fun i j z1 z2 z3 => ?_, h3.keep fun m m1 m2 => k m (by omega) m2⟩
    rw [ZA2 (k i z1 (by omega)), ZA2 (k j (by omega) (by omega))]
    exact h2 i j z1 z2 z3
theorem Chn.app {xs : Array Keyed} : ∀ {l m : List PT} {a e : Nat}, Chn f xs a (l ++ m) e ↔ ∃ c, Chn f xs a l c /\ Chn f xs c m e
  | [], m, a, e => ⟨fun h => ⟨a, rfl, h⟩, fun ⟨c, h1, h2⟩ => by have : a = c := h1; rw [this]; exact h2⟩
  | (b, n, w) :: r, m, a, e => by
    constructor
    . rintro ⟨h0, h1, h2, h3⟩
      obtain ⟨c, h4, h5⟩ := Chn.app.mp h3
      exact ⟨c, ⟨h0, h1, h2, h4⟩, h5⟩
    . rintro ⟨c, ⟨h0, h1, h2, h4⟩, h5⟩
      exact ⟨h0, h1, h2, Chn.app.mpr ⟨c, h4, h5⟩⟩
theorem two_of {l : List PT} {i : Nat} (h : i + 1 < l.length) : ∃ l1 x y l2, l = l1 ++ x :: y :: l2 /\ l1.length = i := by
  refine ⟨l.take i, l[i], l[i + 1], l.drop (i + 2), ?_, by rw [yAT]; omega⟩
  rw [<- yCJ (by omega), <- yCJ (by omega), yCV]
theorem join_of {l1 l2 : List PT} {x y v : PT} {i : Nat} (h : l1.length = i) : ((l1 ++ x :: y :: l2).set i v).eraseIdx (i + 1) = l1 ++ v :: l2 := by
  subst h
  rw [List.set_append_right _ _ (yAB _), yBJ, List.set_cons_zero, List.eraseIdx_append_of_length_le (by omega), show l1.length + 1 - l1.length = 1 by omega]
  rfl
theorem join_at {st : SortSt} {i lo : Nat} {Q : Bool -> SortSt -> Prop} (L : Asks M A E s κ a₀ f) (hB : SB κ a₀ st) (hc : Chn f (arrOf st) 0 (pendingOf st).toList lo) (hlo : lo <= a₀.size) (hi : i + 1 < (pendingOf st).size)
    (h : ∀ st', SB κ a₀ st' -> Chn f (arrOf st') 0 (pendingOf st').toList lo -> (pendingOf st').size + 1 = (pendingOf st).size -> (∀ k, lo <= k -> (arrOf st')[k]? = (arrOf st)[k]?) -> Q true st') : wpS M A E s (mergeAt' i) Q st := by
  obtain ⟨l1, ⟨b1, n1, w1⟩, ⟨b2, n2, w2⟩, l2, el, hl⟩ := two_of (l := (pendingOf st).toList) (i := i) (by rw [yAN]; exact hi)
  have hc' := hc
  rw [el] at hc'
  obtain ⟨c, c1, rfl, c2, c3, rfl, c4, c5, c6⟩ := Chn.app.mp hc'
  have le := c6.le
  have p1 : (pendingOf st)[i]? = some (b1, n1, w1) := by
    rw [<- yBD, el, yAU (by omega), hl, yBJ]
    rfl
  have p2 : (pendingOf st)[i + 1]? = some (b1 + n1, n2, w2) := by
    rw [<- yBD, el, yAU (by omega), show i + 1 - l1.length = 1 by omega]
    rfl
  refine merge_at L hB p1 p2 c2 c4 (by omega) c3 c5 fun st' hB' hp hu hk => ?_
  have e2 : (pendingOf st').toList = l1 ++ (b1, n1 + n2, w1) :: l2 := by
    rw [hp, Array.toList_eraseIdxIfInBounds, Array.toList_setIfInBounds, el]
    exact join_of hl
  refine h st' hB' ?_ ?_ fun k hk2 => hk k (.inr (by omega))
  . rw [e2]
    have le1 := c1.le
    refine Chn.app.mpr ⟨b1, c1.keep fun k k1 k2 => hk k (.inl k2), rfl, by omega, hu, ?_⟩
    rw [show b1 + (n1 + n2) = b1 + n1 + n2 by omega]
    exact c6.keep fun k k1 k2 => hk k (.inr k1)
  . have z1 := congrArg List.length e2
    have z2 := congrArg List.length el
    rw [yAN, yAD, yAR] at z1 z2
    rw [yAR] at z2
    omega
theorem Chn.pow {xs : Array Keyed} {l : List PT} {b n w v a e : Nat} (h : Chn f xs a (l ++ [(b, n, w)]) e) : Chn f xs a (l ++ [(b, n, v)]) e := by
  obtain ⟨c, c1, c2, c3, c4, c5⟩ := Chn.app.mp h
  exact Chn.app.mpr ⟨c, c1, c2, c3, c4, c5⟩
def more (sz pw : Nat) : SM (Option Unit × Unit) := forIn [0:sz] ((none, ()) : Option Unit × Unit) fun _ _ => do
  let z <- get
  match if (pendingOf z).size > 1 then (pendingOf z)[(pendingOf z).size - 2]? else none with
  | some (_, _, old) =>
    if old <= pw then pure (ForInStep.done (none, ()))
    else do
      let b <- mergeAt' ((pendingOf z).size - 2)
      if (!b) = true then pure (ForInStep.done (some (), ())) else pure (ForInStep.yield (none, ()))
  | _ => pure (ForInStep.done (none, ()))
def pile (sz lo n : Nat) : SM (ForInStep (Option Unit × Nat)) := do
  let z <- get
  match (pendingOf z).back? with
  | some (s1, n1, _) => do
    let c <- more sz (power' sz (2 * s1 + n1) (2 * s1 + n1 + n1 + n) sz)
    match c.fst with
    | some r => pure (ForInStep.done (some r, lo))
    | none => do
      modify fun z => setPending z ((pendingOf z).modify ((pendingOf z).size - 1) fun x => (x.fst, x.2.fst, power' sz (2 * s1 + n1) (2 * s1 + n1 + n1 + n) sz))
      modify fun z => setPending z ((pendingOf z).push (lo, n, 0))
      pure (ForInStep.yield (none, lo + n))
  | _ => do
    modify fun z => setPending z ((pendingOf z).push (lo, n, 0))
    pure (ForInStep.yield (none, lo + n))
abbrev PQ (κ : SortKind) (a₀ : Array Keyed) (f : Keyed -> Int) (lo n : Nat) (st : SortSt) : Prop := SB κ a₀ st /\ Chn f (arrOf st) 0 (pendingOf st).toList lo /\ Up f (arrOf st) lo n
theorem more_ok {sz pw lo n : Nat} {st : SortSt} {Q : Option Unit × Unit -> SortSt -> Prop} (L : Asks M A E s κ a₀ f) (hlo : lo <= a₀.size) (hq : PQ κ a₀ f lo n st) (h : ∀ st', PQ κ a₀ f lo n st' -> Q (none, ()) st') : wpS M A E s (more sz pw) Q st := by
  unfold more
  refine wpS_forRange (I := fun x c st' => c = (none, ()) /\ PQ κ a₀ f lo n st') ?_ ?_ ⟨rfl, hq⟩
  . rintro x c st1 _ _ ⟨rfl, hB, hc, hu⟩
    refine wpS_bind (wpS_get ?_)
    by_cases h1 : (pendingOf st1).size > 1
    . rw [if_pos h1, getElem?_pos (pendingOf st1) ((pendingOf st1).size - 2) (by omega)]
      dsimp only
      split
      . exact wpS_pure (h _ ⟨hB, hc, hu⟩)
      . refine wpS_bind (join_at L hB hc hlo (by omega) fun st2 hB2 hc2 _ hk2 => ?_)
        exact wpS_pure ⟨rfl, hB2, hc2, fun i j z1 z2 z3 => by rw [ZA2 (hk2 i z1), ZA2 (hk2 j (by omega))]; exact hu i j z1 z2 z3⟩
    . rw [if_neg h1]
      exact wpS_pure (h _ ⟨hB, hc, hu⟩)
  . rintro c st1 ⟨rfl, hq⟩
    exact h _ hq
theorem modify_last {p : Array PT} {w : Nat} {l : List PT} {b n v : Nat} (h : p.toList = l ++ [(b, n, v)]) : (p.modify (p.size - 1) fun x => (x.fst, x.2.fst, w)).toList = l ++ [(b, n, w)] := by
  have hs : p.size = l.length + 1 := by rw [<- yAN, h, yAD]; rfl
  refine List.ext_getElem? fun i => ?_
  rw [yBD, Array.getElem?_modify]
  rw [<- yBD, h]
  by_cases c : p.size - 1 = i
  . rw [if_pos c, yAU (by omega), yAU (by omega), show i - l.length = 0 by omega]
    rfl
  . rw [if_neg c]
    by_cases c2 : i < l.length
    . rw [yAV c2, yAV c2]
    . rw [yBE (by rw [yAD, yBN]; omega), yBE (by rw [yAD, yBN]; omega)]
theorem pile_ok {lo n : Nat} {st : SortSt} {Q : ForInStep (Option Unit × Nat) -> SortSt -> Prop} (L : Asks M A E s κ a₀ f) (hn : 1 <= n) (hln : lo + n <= a₀.size) (hq : PQ κ a₀ f lo n st)
    (h : ∀ st', SB κ a₀ st' -> Chn f (arrOf st') 0 (pendingOf st').toList (lo + n) -> Q (.yield (none, lo + n)) st') : wpS M A E s (pile a₀.size lo n) Q st := by
  have fin : ∀ st3 : SortSt, PQ κ a₀ f lo n st3 -> wpS M A E s (modify (fun z => setPending z ((pendingOf z).push (lo, n, 0))) >>= fun _ => pure (ForInStep.yield ((none, lo + n) : Option Unit × Nat))) Q st3 := by
    rintro st3 ⟨hB3, hc3, hu3⟩
    refine wpS_bind (wpS_modify (wpS_pure (h _ ⟨hB3.perm, hB3.kind, hB3.fail⟩ ?_)))
    show Chn f (arrOf st3) 0 ((pendingOf st3).push (lo, n, 0)).toList (lo + n)
    rw [Array.toList_push]
    exact Chn.app.mpr ⟨lo, hc3, rfl, hn, hu3, rfl⟩
  unfold pile
  refine wpS_bind (wpS_get ?_)
  cases hb : (pendingOf st).back? with
  | none => exact fin st hq
  | some t =>
    obtain ⟨s1, n1, w1⟩ := t
    dsimp only
    refine wpS_bind (more_ok L (by omega) hq fun st2 hq2 => ?_)
    dsimp only
    refine wpS_bind (wpS_modify (fin _ ?_))
    obtain ⟨hB2, hc2, hu2⟩ := hq2
    refine ⟨⟨hB2.perm, hB2.kind, hB2.fail⟩, ?_, hu2⟩
    show Chn f (arrOf st2) 0 ((pendingOf st2).modify _ _).toList lo
    rcases List.eq_nil_or_concat (pendingOf st2).toList with e | ⟨l, ⟨b, k, v⟩, e⟩
    . have : pendingOf st2 = #[] := by rw [<- Array.toList_inj, e]
      rw [this] at hc2 ⊢
      exact hc2
    . rw [List.concat_eq_append] at e
      rw [modify_last e]
      rw [e] at hc2
      exact hc2.pow
theorem ite_less (c : Prop) [Decidable c] (n : Nat) : (if c then n - 1 else n) <= n := by split <;> omega
theorem wpS_cast {α : Type} {m m' : SM α} {Q Q' : α -> SortSt -> Prop} {st : SortSt} (e : m = m') (h : wpS M A E s m' Q' st) (q : ∀ a st', Q' a st' -> Q a st') : wpS M A E s m Q st := by rw [e]; exact wpS_mono h q
theorem sort_runs {st : SortSt} {Q : Unit -> SortSt -> Prop} (L : Asks M A E s κ a₀ f) (hB : SB κ a₀ st) (hp : pendingOf st = #[]) (h2 : 2 <= a₀.size)
    (h : ∀ st', SB κ a₀ st' -> Up f (arrOf st') 0 a₀.size -> Q () st') : wpS M A E s sortRuns' Q st := by
  rw [sortRuns'_eq]
  refine wpS_bind (wpS_get ?_)
  dsimp only
  rw [hB.size]
  generalize minRun' a₀.size a₀.size 0 = mr
  refine wpS_bind (wpS_mono (wpS_forRange (I := fun x c st' => ∃ lo, c = (none, lo) /\ SB κ a₀ st' /\ Chn f (arrOf st') 0 (pendingOf st').toList lo /\ lo <= a₀.size /\ min x a₀.size <= lo)
    (Q := fun c st' => c = (none, a₀.size) /\ SB κ a₀ st' /\ Chn f (arrOf st') 0 (pendingOf st').toList a₀.size) ?_ ?_ ⟨0, rfl, hB, by rw [hp]; rfl, by omega, by omega⟩) ?_)
  . rintro x c st1 _ hx ⟨lo, rfl, hB1, hc1, hlo, hxl⟩
    dsimp only
    by_cases hge : lo ≥ a₀.size
    . rw [if_pos hge]
      have : lo = a₀.size := by omega
      subst this
      exact wpS_pure ⟨rfl, hB1, hc1⟩
    rw [if_neg hge]
    refine wpS_bind (count_run L (by omega) (by omega) hB1 fun m st2 hB2 hm1 hm2 hu2 hk2 hp2 => ?_)
    dsimp only
    have hc2 : Chn f (arrOf st2) 0 (pendingOf st2).toList lo := by
      rw [hp2]
      exact hc1.keep fun k _ k2 => hk2 k k2
    have done : ∀ (n : Nat) (st3 : SortSt), 1 <= n -> lo + n <= a₀.size -> PQ κ a₀ f lo n st3 -> wpS M A E s (pile a₀.size lo n)
        (fun r st' => match r with | .done c' => c' = (none, a₀.size) /\ SB κ a₀ st' /\ Chn f (arrOf st') 0 (pendingOf st').toList a₀.size | .yield c' => ∃ lo, c' = (none, lo) /\ SB κ a₀ st' /\ Chn f (arrOf st') 0 (pendingOf st').toList lo /\ lo <= a₀.size /\ min (x + 1) a₀.size <= lo) st3 :=
      fun n st3 hn hln hq => pile_ok L hn hln hq fun st' hB' hc' => ⟨lo + n, rfl, hB', hc', hln, by omega⟩
    by_cases hlt : m < mr
    . rw [if_pos hlt]
      refine wpS_bind (wpS_lift (wpAny_rule ⟨rfl, ?_⟩))
      refine wpS_bind (bin_sort L (by omega) (by omega) hB2 hu2 fun st3 hB3 hu3 hk3 hp3 => ?_)
      rw [if_neg (by decide)]
      refine wpS_cast (by
        refine bnd _ fun z => ?_
        cases (pendingOf z).back? with
        | none => rfl
        | some t =>
          obtain ⟨s1, n1, w1⟩ := t
          refine bnd2 (for2 fun _ c => bnd _ fun z2 => ?_) fun c => ?_
          . generalize (if (pendingOf z2).size > 1 then (pendingOf z2)[(pendingOf z2).size - 2]? else none) = t2
            cases t2 with
            | none => rfl
            | some t2 => rfl
          . obtain ⟨r, u⟩ := c
            cases r with
            | none => rfl
            | some r => rfl) (done _ st3 (by omega) (by omega) ⟨hB3, by rw [hp3]; exact hc2.keep fun k _ k2 => hk3 k k2, hu3⟩) fun r st' z => by cases r <;> exact z
    . rw [if_neg hlt]
      refine wpS_cast (by
        refine bnd _ fun z => ?_
        cases (pendingOf z).back? with
        | none => rfl
        | some t =>
          obtain ⟨s1, n1, w1⟩ := t
          refine bnd2 (for2 fun _ c => bnd _ fun z2 => ?_) fun c => ?_
          . generalize (if (pendingOf z2).size > 1 then (pendingOf z2)[(pendingOf z2).size - 2]? else none) = t2
            cases t2 with
            | none => rfl
            | some t2 => rfl
          . obtain ⟨r, u⟩ := c
            cases r with
            | none => rfl
            | some r => rfl) (done m st2 hm1 (by omega) ⟨hB2, hc2, hu2⟩) fun r st' z => by cases r <;> exact z
  . rintro c st1 ⟨lo, rfl, hB1, hc1, hlo, hxl⟩
    have : lo = a₀.size := by omega
    subst this
    exact ⟨rfl, hB1, hc1⟩
  . rintro c st1 ⟨rfl, hB1, hc1⟩
    dsimp only
    refine wpS_bind (wpS_mono (wpS_forRange (I := fun x c st' => c = (none, ()) /\ SB κ a₀ st' /\ Chn f (arrOf st') 0 (pendingOf st').toList a₀.size /\ ((pendingOf st').size + x <= a₀.size ∨ (pendingOf st').size <= 1))
      (Q := fun c st' => c = (none, ()) /\ SB κ a₀ st' /\ Chn f (arrOf st') 0 (pendingOf st').toList a₀.size /\ (pendingOf st').size <= 1) ?_ ?_ ?_) ?_)
    . rintro x c st2 _ hx ⟨rfl, hB2, hc2, hz2⟩
      refine wpS_bind (wpS_get ?_)
      by_cases h1 : (pendingOf st2).size <= 1
      . rw [if_pos h1]
        exact wpS_pure ⟨rfl, hB2, hc2, h1⟩
      rw [if_neg h1]
      have go : ∀ i, i + 1 < (pendingOf st2).size -> wpS M A E s (mergeAt' i >>= fun b => if (!b) = true then pure (ForInStep.done (some (), ())) else pure (ForInStep.yield ((none, ()) : Option Unit × Unit)))
          (fun r st' => match r with | .done c' => c' = (none, ()) /\ SB κ a₀ st' /\ Chn f (arrOf st') 0 (pendingOf st').toList a₀.size /\ (pendingOf st').size <= 1 | .yield c' => c' = (none, ()) /\ SB κ a₀ st' /\ Chn f (arrOf st') 0 (pendingOf st').toList a₀.size /\ ((pendingOf st').size + (x + 1) <= a₀.size ∨ (pendingOf st').size <= 1)) st2 := fun i hi => by
        refine wpS_bind (join_at L hB2 hc2 (yAB _) hi fun st3 hB3 hc3 hz3 _ => ?_)
        exact wpS_pure ⟨rfl, hB3, hc3, by omega⟩
      refine wpS_mono (go _ ?_) fun r st' z => by cases r <;> exact z
      exact Nat.lt_of_le_of_lt (Nat.add_le_add_right (ite_less _ _) 1) (by omega)
    . rintro c st2 ⟨rfl, hB2, hc2, hz2⟩
      exact ⟨rfl, hB2, hc2, by omega⟩
    . refine ⟨rfl, hB1, hc1, .inl ?_⟩
      have := hc1.le
      rw [yAN] at this
      omega
    . rintro c st2 ⟨rfl, hB2, hc2, hz2⟩
      refine wpS_pure (h st2 hB2 ?_)
      cases e : (pendingOf st2).toList with
      | nil =>
        rw [e] at hc2
        have : 0 = a₀.size := hc2
        omega
      | cons t r =>
        have hl := congrArg List.length e
        rw [yAN, yAR] at hl
        have hr : r = [] := List.length_eq_zero_iff.mp (by omega)
        subst hr
        obtain ⟨b, n, w⟩ := t
        rw [e] at hc2
        obtain ⟨_, _, hu, hn⟩ := hc2
        have : 0 + n = a₀.size := hn
        rw [yCK] at this
        rw [<- this]
        exact hu
end
end L2S
namespace L2S
open PySem PyProof.Rows
abbrev ZCH (h : Heap) (a : Addr) (vs : List Value) : Heap := ((h.update a (Obj.mapSeq fun _ => #[])).push (seqObj "tuple" vs.toArray 0)).push (seqObj "list" #[] 0)
section
variable {prog : Program} {w : World} {A : Around} {E : Value -> Shared -> Prop} {s : Shared}
theorem mid_old {h : Heap} {a b : Addr} {vs : List Value} {o : Obj} (hb : b ≠ a) (e : h.get? b = some o) : (ZCH h a vs).get? b = some o := by
  refine Heap.get?_push_of_some _ (Heap.get?_push_of_some _ ?_)
  exact (Heap.get?_update_other _ _ (Ne.symm hb)).trans e
theorem sort_any {a : Addr} {vs : List Value} {n : Nat} {κ : SortKind} {f : Keyed -> Int} {P : PySem.Fin -> Shared -> Prop} (ho : s.heap.get? a = some (seqObj "list" vs.toArray n)) (hz : vs.length <= 1000)
    (hkind : 2 <= vs.length -> ∀ Q' : SortKind -> Shared -> Prop, Q' κ { s with heap := ZCH s.heap a vs } -> wpAny (model prog w) A (keyKind' vs.toArray) Q' E { s with heap := ZCH s.heap a vs })
    (hask : 2 <= vs.length -> Asks (model prog w) A E { s with heap := ZCH s.heap a vs } κ (pairsOf vs) f)
    (h : ∀ out : Array Keyed, out.Perm (pairsOf vs) -> Up f out 0 vs.length -> P (.done (.ret .none)) { s with heap := sortedHeap s.heap a vs (out.map (·.2)) }) : wpAny (model prog w) A (Builtin.«list.sort» ⟨[.ref a], []⟩) P E s := by
  rw [list_sort_plain]
  have ha : a < s.heap.objs.size := Heap.lt_size ho
  refine wpAny_bind (listItems_at ho rfl ?_)
  refine wpAny_bind (listUpdate_at ho rfl ?_)
  obtain ⟨e1, ho1⟩ : ∃ e1, (s.heap.update a (Obj.mapSeq fun _ => #[])).get? a = some (seqObj "list" #[] e1) := ⟨_, get?_update_seq ho (fun _ => #[])⟩
  refine wpAny_bind (seqEpoch_at ho1 rfl ?_)
  refine wpAny_bind (wpAny_newTuple (wpAny_bind (wpAny_newList (wpAny_holding ?_))))
  have ho6 : (ZCH s.heap a vs).get? a = some (seqObj "list" #[] e1) := Heap.get?_push_of_some _ (Heap.get?_push_of_some _ ho1)
  show wpAny (model prog w) A _ P E { s with heap := ZCH s.heap a vs }
  dsimp only
  have hsz : vs.toArray.size = vs.length := yAO ..
  have hl : vs.length <= sizeLine := yAE hz (by decide)
  rw [hsz]
  by_cases h2 : vs.length < 2
  . rw [if_pos h2, if_pos h2]
    refine wpAny_bind (wpAny_pure ?_)
    rw [StateT.run_pure]
    refine wpAny_bind (wpAny_pure ?_)
    dsimp only
    refine wpAny_bind (seqEpoch_at ho6 rfl ?_)
    refine wpAny_bind (listUpdate_at ho6 rfl ?_ (hsz2 := by rw [Array.size_map]; show (pairsOf vs).size <= _; rw [pairsOf_size]; omega))
    rw [if_neg (by simp)]
    exact wpAny_pure (h (pairsOf vs) (Array.Perm.refl _) fun i j _ z2 z3 => by rw [show i = j by omega]; exact Int.le_refl _)
  . rw [if_neg h2, if_neg h2]
    refine wpAny_bind (hkind (by omega) _ ?_)
    refine wpAny_bind (wpAny_mono (sort_runs (st := SortSt.mk' κ (vs.toArray.zip vs.toArray) #[] 7 none) (Q := fun _ st' => SB κ (pairsOf vs) st' /\ Up f (arrOf st') 0 (pairsOf vs).size) (hask (by omega)) ⟨Array.Perm.refl _, rfl, rfl⟩ rfl (by rw [pairsOf_size]; omega) fun st' a1 a2 => ⟨a1, a2⟩) ?_ fun _ _ e => e)
    rintro ⟨⟨⟩, st'⟩ s' ⟨rfl, hB, hu⟩
    dsimp only
    refine wpAny_bind (seqEpoch_at ho6 rfl ?_)
    have hs : (arrOf st').size = (pairsOf vs).size := hB.size
    rw [pairsOf_size] at hs hu
    refine wpAny_bind (listUpdate_at ho6 rfl ?_ (hsz2 := by rw [Array.size_map]; omega))
    rw [hB.fail, if_neg (by simp)]
    exact wpAny_pure (h _ hB.perm hu)
theorem sorted_any {l : Addr} {vs : List Value} {κ : SortKind} {f : Keyed -> Int} {Q : Value -> Shared -> Prop} (hl : s.heap.IsList l vs.toArray) (hz : vs.length <= 1000)
    (hkind : ∀ h' : Heap, (∀ b o, s.heap.get? b = some o -> h'.get? b = some o) -> 2 <= vs.length -> ∀ (A' : Around) (E' : Value -> Shared -> Prop) (Q' : SortKind -> Shared -> Prop), A'.units <= A.units + 8 -> Q' κ { s with heap := h' } -> wpAny (model prog w) A' (keyKind' vs.toArray) Q' E' { s with heap := h' })
    (hask : ∀ h' : Heap, (∀ b o, s.heap.get? b = some o -> h'.get? b = some o) -> 2 <= vs.length -> ∀ (A' : Around) (E' : Value -> Shared -> Prop), A'.units <= A.units + 8 -> Asks (model prog w) A' E' { s with heap := h' } κ (pairsOf vs) f)
    (h : ∀ out : Array Keyed, out.Perm (pairsOf vs) -> Up f out 0 vs.length -> Q (.ref (s.heap.objs.size + 1)) { s with heap := sortedAll s.heap vs (out.map (·.2)) }) : wpAny (model prog w) A (call (.builtin "sorted") [.ref l]) Q E s := by
  refine Calls.call_function_entry kind_sorted plain_sorted entry_sorted (args_sorted1 _) ?_
  unfold Builtin.«sorted»
  refine wpAny_bind (m := checkCount "sorted" 1 1 _) (wpAny_pure ?_)
  refine wpAny_bind (collect_list hl ?_ (yAE hz (by decide)))
  refine wpAny_bind (wpAny_newList ?_)
  have z1 : ((s.heap.push (seqObj "list" #[] 0)).update s.heap.objs.size (Obj.mapSeq (· ++ vs.toArray))).objs.size = s.heap.objs.size + 1 := (Heap.size_update ..).trans (size_push' ..)
  have g1 : (((s.heap.push (seqObj "list" #[] 0)).update s.heap.objs.size (Obj.mapSeq (· ++ vs.toArray))).push (seqObj "list" vs.toArray 0)).get? (s.heap.objs.size + 1) = some (seqObj "list" vs.toArray 0) := by
    rw [<- z1]; exact Heap.get?_push_size _ rfl
  have old : ∀ b o, s.heap.get? b = some o -> (ZCH (((s.heap.push (seqObj "list" #[] 0)).update s.heap.objs.size (Obj.mapSeq (· ++ vs.toArray))).push (seqObj "list" vs.toArray 0)) (s.heap.objs.size + 1) vs).get? b = some o := fun b o e => by
    have lt := Heap.lt_size e
    refine mid_old (yAL (Nat.lt_succ_of_lt lt)) (Heap.get?_push_of_some _ ?_)
    exact (Heap.get?_update_other _ _ (Nat.ne_of_gt lt)).trans (Heap.get?_push_of_some _ e)
  show wpAny _ _ _ _ _ { s with heap := ((s.heap.push (seqObj "list" #[] 0)).update s.heap.objs.size (Obj.mapSeq (· ++ vs.toArray))).push (seqObj "list" vs.toArray 0) }
  rw [z1]
  refine wpAny_bind (wpAny_holding (wpAny_call_entry slot_list_sort ⟨_, g1, rfl⟩ entry_list_sort (sort_any g1 hz (fun h2 Q' q => hkind _ old h2 _ _ Q' ?_ q) (fun h2 => hask _ old h2 _ _ ?_) fun out a1 a2 => ⟨_, rfl, ?_⟩) (args_list_sort _)))
  . show A.units + 1 + 1 <= A.units + 8; omega
  . show A.units + 1 + 1 <= A.units + 8; omega
  . exact wpAny_pure ⟨_, rfl, h out a1 a2⟩
end
end L2S
namespace L2
open PySem PySem.Spec PyProof.Rows L2S
section
variable {prog : Program} {w : World} {A : Around} {E : Value -> Shared -> Prop} {s : Shared}
end
section
variable {X : Cx}
end
open PySem PySem.Spec PyProof.Rows L2S
def lxP (x y : Int × Int) : Prop := x.1 < y.1 ∨ (x.1 = y.1 /\ x.2 < y.2)
instance (x y : Int × Int) : Decidable (lxP x y) := by unfold lxP; exact inferInstance
abbrev PrA := Addr × Int × Int
def ZC1 (zs : List PrA) (v : Int × Int) : Nat := zs.countP fun z => decide (lxP z.2 v)
theorem rank_lt {zs : List PrA} {x : PrA} {v : Int × Int} (hx : x ∈ zs) : ZC1 zs x.2 < ZC1 zs v ↔ lxP x.2 v := by
  have mono : ∀ (l : List PrA) (a b : Int × Int), (∀ z : Int × Int, lxP z a -> lxP z b) -> l.countP (fun z => decide (lxP z.2 a)) <= l.countP (fun z => decide (lxP z.2 b)) := fun l a b h =>
    List.countP_mono_left fun z _ e => decide_eq_true (h _ (of_decide_eq_true e))
  constructor
  . intro h
    by_cases e : lxP x.2 v
    . exact e
    . have := mono zs v x.2 fun z hz => by unfold lxP at *; omega
      unfold ZC1 at h
      omega
  . intro h
    obtain ⟨s, t, rfl⟩ := List.append_of_mem hx
    unfold ZC1
    rw [List.countP_append, List.countP_append, List.countP_cons, List.countP_cons]
    have m : ∀ z : Int × Int, lxP z x.2 -> lxP z v := fun z hz => by unfold lxP at *; omega
    have h1 := mono s x.2 v m
    have h2 := mono t x.2 v m
    have h3 : decide (lxP x.2 x.2) = false := decide_eq_false (by unfold lxP; omega)
    rw [h3, decide_eq_true h]
    simp only [yCS, if_false, if_true]
    omega
section
variable {prog : Program} {w : World} {A : Around} {E : Value -> Shared -> Prop} {s : Shared}
def PairAt (h : Heap) (z : PrA) : Prop := ∃ o t u n, h.get? z.1 = some o /\ o.cls = .type "tuple" /\ o.data = .seq #[.int z.2.1 t, .int z.2.2 u] n
theorem PairAt.keep {h h' : Heap} {z : PrA} (p : PairAt h z) (k : ∀ b o, h.get? b = some o -> h'.get? b = some o) : PairAt h' z := let ⟨o, t, u, n, a, b, c⟩ := p; ⟨o, t, u, n, k _ _ a, b, c⟩
def ZEb (zs : List PrA) : Value -> Int × Int
  | .ref a => ((zs.find? fun z => decide (z.1 = a)).map (·.2)).getD (0, 0)
  | _ => (0, 0)
theorem ZEC {h : Heap} {zs : List PrA} (hp : ∀ z ∈ zs, PairAt h z) {z : PrA} (hz : z ∈ zs) : ZEb zs (.ref z.1) = z.2 := by
  show ((zs.find? fun y => decide (y.1 = z.1)).map (·.2)).getD (0, 0) = z.2
  cases e : zs.find? fun y => decide (y.1 = z.1) with
  | none => exact absurd (List.find?_eq_none.mp e z hz) (by simp)
  | some y =>
    have h1 : y.1 = z.1 := by simpa using List.find?_some e
    have h2 := List.mem_of_find?_eq_some e
    obtain ⟨o, t, u, n, a1, _, a3⟩ := hp y h2
    obtain ⟨o', t', u', n', b1, _, b3⟩ := hp z hz
    rw [h1, b1] at a1
    cases a1
    rw [b3] at a3
    have e1 : y.2 = z.2 := by
      injection a3 with a4 a5
      have a6 := congrArg Array.toList a4
      simp at a6
      exact Prod.ext a6.1.1.symm a6.2.1.symm
    exact e1
theorem kat_ints {a b a' b' : Int} {t u t' u' : Tok} {Q : Bool -> Shared -> Prop} (h : Q (decide (lxP (a, b) (a', b'))) s) : PySem.W.KatLex prog w A true false Q [(.int a t, .int a' t'), (.int b u, .int b' u')] 0 s := by
  refine PySem.W.kat_cons (wpAny_eqBool_int ?_)
  by_cases e : a = a'
  . rw [show (a == a') = true by simpa using e]
    refine PySem.W.kat_yes (PySem.W.kat_cons (wpAny_eqBool_int ?_))
    by_cases e2 : b = b'
    . rw [show (b == b') = true by simpa using e2]
      refine PySem.W.kat_yes (PySem.W.kat_nil ?_)
      rw [decide_eq_false (by unfold lxP; dsimp only; omega)] at h
      exact h
    . rw [show (b == b') = false by simpa using e2]
      refine PySem.W.kat_no (PySem.W.kat_one _ _ (lt_int ?_))
      have e3 : decide (lxP (a, b) (a', b')) = decide (b < b') := by
        by_cases z : b < b'
        . rw [decide_eq_true z]; exact decide_eq_true (by unfold lxP; dsimp only; omega)
        . rw [decide_eq_false z]; exact decide_eq_false (by unfold lxP; dsimp only; omega)
      rw [e3] at h
      exact h
  . rw [show (a == a') = false by simpa using e]
    refine PySem.W.kat_no ?_
    have e3 : decide (lxP (a, b) (a', b')) = decide (a < a') := by
      by_cases z : a < a'
      . rw [decide_eq_true z]; exact decide_eq_true (by unfold lxP; dsimp only; omega)
      . rw [decide_eq_false z]; exact decide_eq_false (by unfold lxP; dsimp only; omega)
    rw [e3] at h
    exact oneLt_int h
theorem asks_pairs {zs : List PrA} (hp : ∀ z ∈ zs, PairAt s.heap z) : Asks (model prog w) A E s (tuples' true) (pairsOf (zs.map fun z => Value.ref z.1)) fun p => (ZC1 zs (ZEb zs p.1) : Int) where
  lt := fun x y hx hy st Q hk q => by
    have of : ∀ p : Keyed, p ∈ (pairsOf (zs.map fun z => Value.ref z.1)).toList -> ∃ z ∈ zs, p.1 = .ref z.1 := fun p hpm => by
      rw [pairsOf_toList] at hpm
      obtain ⟨z, hz, e⟩ := yBF.mp (mem_zip_self hpm).2
      exact ⟨z, hz, e.symm⟩
    obtain ⟨z, hz, ez⟩ := of x hx
    obtain ⟨y', hy', ey⟩ := of y hy
    rw [ez, ey, ZEC hp hz, ZEC hp hy'] at q
    have er : decide ((ZC1 zs z.2 : Int) < (ZC1 zs y'.2 : Int)) = decide (lxP z.2 y'.2) := by
      have := rank_lt (v := y'.2) hz
      by_cases e : lxP z.2 y'.2
      . rw [decide_eq_true e]; exact decide_eq_true (by have := this.mpr e; omega)
      . rw [decide_eq_false e]; exact decide_eq_false (fun c => e (this.mp (by omega)))
    rw [er] at q
    rw [lt'_eq]
    refine wpS_bind (wpS_get ?_)
    rw [hk, ez, ey]
    obtain ⟨o, t, u, n, a1, a2, a3⟩ := hp z hz
    obtain ⟨o', t', u', n', b1, b2, b3⟩ := hp y' hy'
    exact wpS_bind (wpS_lift (wpAny_attempt (PySem.W.kat_lt a1 a3 b1 b3 (kat_ints ⟨rfl, wpS_pure q⟩))))
theorem tups_of {h : Heap} : ∀ {zs : List PrA}, (∀ z ∈ zs, PairAt h z) -> ∃ fs, PySem.W.KatTups h (zs.map fun z => Value.ref z.1) fs /\ fs.length = zs.length /\ ∀ v ∈ fs, ∃ n t, v = Value.int n t
  | [], _ => ⟨[], trivial, rfl, fun v h => by cases h⟩
  | z :: r, hp => by
    obtain ⟨fs, f1, f2, f3⟩ := tups_of (zs := r) fun y hy => hp y (yAS _ hy)
    obtain ⟨o, t, u, n, a1, a2, a3⟩ := hp z yAI
    refine ⟨.int z.2.1 t :: fs, PySem.W.KatTups.cons a1 a2 a3 rfl f1, by rw [yAR, yAR, f2], fun v hv => ?_⟩
    rcases yAH.mp hv with e | e
    . exact ⟨_, _, e⟩
    . exact f3 v e
theorem perm_map {α β : Type} (g : α -> β) : ∀ {l : List β} {zs : List α}, l.Perm (zs.map g) -> ∃ ms : List α, ms.Perm zs /\ l = ms.map g
  | [], zs, h => by
    have : zs = [] := by
      have := h.length_eq
      rw [yCH, yAA] at this
      exact List.length_eq_zero_iff.mp this.symm
    subst this
    exact ⟨[], .nil, rfl⟩
  | x :: r, zs, h => by
    obtain ⟨z, hz, e⟩ := yBF.mp (h.mem_iff.mp yAI)
    obtain ⟨a, b, rfl⟩ := List.append_of_mem hz
    have h2 : (x :: r).Perm (x :: (a ++ b).map g) := by
      refine h.trans ?_
      rw [yAQ, yAP, e, yAQ]
      exact List.perm_middle
    obtain ⟨ms, m1, m2⟩ := perm_map g (List.Perm.cons_inv h2)
    exact ⟨z :: ms, (m1.cons z).trans List.perm_middle.symm, by rw [m2, yAP, e]⟩
theorem sorted_pairs {l : Addr} {zs : List PrA} {Q : Value -> Shared -> Prop} (hl : s.heap.IsList l (zs.map fun z => Value.ref z.1).toArray) (hp : ∀ z ∈ zs, PairAt s.heap z) (hz : zs.length <= 1000)
    (h : ∀ (ms : List PrA), ms.Perm zs -> ms.Pairwise (fun x y => ¬ lxP y.2 x.2) -> Q (.ref (s.heap.objs.size + 1)) { s with heap := sortedAll s.heap (zs.map fun z => Value.ref z.1) (ms.map fun z => Value.ref z.1).toArray }) : wpAny (model prog w) A (call (.builtin "sorted") [.ref l]) Q E s := by
  refine sorted_any (κ := tuples' true) (f := fun p => (ZC1 zs (ZEb zs p.1) : Int)) hl (by rw [yAA]; exact hz) (fun h' k h2 A' E' Q' _ q => ?_) (fun h' k h2 A' E' _ => asks_pairs (s := { s with heap := h' }) fun z hz => (hp z hz).keep k) fun out ho hu => ?_
  . obtain ⟨fs, f1, f2, f3⟩ := tups_of (h := h') fun z hz => (hp z hz).keep k
    rw [yAA] at h2
    refine PySem.W.kat_kind (T := .type "int") f1 (by omega) (fun v hv => ?_) rfl q
    obtain ⟨n, t, rfl⟩ := f3 v hv
    exact .now
  . have hl2 : out.toList.Perm (zs.map fun z => ((Value.ref z.1, Value.ref z.1) : Keyed)) := by
      have := Array.perm_iff_toList_perm.mp ho
      rw [pairsOf_toList] at this
      rw [show (zs.map fun z => ((Value.ref z.1, Value.ref z.1) : Keyed)) = (zs.map fun z => Value.ref z.1).zip (zs.map fun z => Value.ref z.1) by rw [List.zip_map']]
      exact this
    obtain ⟨ms, m1, m2⟩ := perm_map _ hl2
    have e : out.map (·.2) = (ms.map fun z => Value.ref z.1).toArray := by
      apply Array.toList_inj.mp
      rw [Array.toList_map, m2, List.map_map]
      rfl
    rw [e]
    refine h ms m1 ?_
    rw [List.pairwise_iff_getElem]
    intro i j hi hj hij hlt
    have hln : ms.length = zs.length := m1.length_eq
    have at' : ∀ k (hk : k < ms.length), kn (fun p => (ZC1 zs (ZEb zs p.1) : Int)) out k = ZC1 zs ms[k].2 := fun k hk => by
      have : out[k]? = some ((Value.ref ms[k].1, Value.ref ms[k].1) : Keyed) := by
        rw [<- yBD, m2, yAG, yAC hk]
        rfl
      rw [ZBE this]
      dsimp only
      rw [ZEC hp (m1.mem_iff.mp (yCT hk))]
    have z := hu i j (yAF _) (yBW hij) (by rw [yAA]; omega)
    rw [at' i hi, at' j hj] at z
    have := (rank_lt (zs := zs) (v := ms[i].2) (m1.mem_iff.mp (yCT hj))).mpr hlt
    omega
end
theorem vals_refs : ∀ {zs : List PrA} {its : List Value}, Vals (zs.map fun z => V.ref z.1) its -> its = zs.map fun z => Value.ref z.1
  | [], _, .nil => rfl
  | z :: r, _, .cons a b => by
    have e := vals_refs b
    cases a
    rw [e]
    rfl
theorem refs_vals : ∀ ms : List PrA, Vals (ms.map fun z => V.ref z.1) (ms.map fun z => Value.ref z.1)
  | [] => .nil
  | _ :: r => .cons rfl (refs_vals r)
section
variable {X : Cx}
theorem call_sortedT : ZCb X (.builtin "sorted") (fun xs H Q => ∃ (p : Addr) (zs : List PrA), xs = [.ref p] /\ SqL X.K H p (zs.map fun z => V.ref z.1) /\ (∀ z ∈ zs, SqT X.K H z.1 [.int z.2.1, .int z.2.2]) /\ zs.length <= 1000 /\ ∀ (l : Addr) (ms : List PrA), H l = none -> ms.Perm zs -> ms.Pairwise (fun x y => ¬ lxP y.2 x.2) -> Q (.ref l) (upd H l (.lst (ms.map fun z => V.ref z.1)))) := by
  intro pins s σ H xs us Q I r h
  obtain ⟨p, zs, rfl, hq, hz, hn, q⟩ := h
  obtain ⟨u, rfl, rx⟩ := ZDF r
  cases rx
  obtain ⟨its, r', pl, hzl⟩ := I.list hq
  obtain rfl := vals_refs r'
  have hpa : ∀ z ∈ zs, PairAt s.heap z := fun z hzm => by
    obtain ⟨it, rt, pt, _⟩ := I.tuple (hz z hzm)
    obtain ⟨a, b, rfl, ⟨t, rfl⟩, ⟨t', rfl⟩⟩ := ZEl rt
    obtain ⟨o, ho, hc, n, hd⟩ := pt
    exact ⟨o, t, t', n, ho, hc, hd⟩
  refine sorted_pairs pl.isList hpa hn fun ms m1 m2 => ?_
  obtain ⟨e, he⟩ := sortedAll_at s.heap (zs.map fun z => Value.ref z.1) (ms.map fun z => Value.ref z.1).toArray
  have hln : ms.length = zs.length := m1.length_eq
  refine ⟨.ref (s.heap.objs.size + 1), _, I.laid (t' := s.toks) (fun b o e => sortedAll_old e) (yBC _) (o := .lst (ms.map fun z => V.ref z.1)) ⟨?_, (ms.map fun z => Value.ref z.1), e, refs_vals ms, he⟩, rfl, q _ ms (I.hok.fresh (yBC _)) m1 m2⟩
  rw [yAA]
  exact ZAV (by omega)
end
end L2
namespace Po
def st (acc h : Nat) : Nat := (((acc + h * 14029467366897019727) % 2 ^ 64 * 2 ^ 31 % 2 ^ 64 + (acc + h * 14029467366897019727) % 2 ^ 64 / 2 ^ 33) * 11400714785074694791) % 2 ^ 64
def G (a : Nat) : Nat := st 2870177450012600261 a * 839798700976720815 % 2 ^ 64
theorem ZEN (x : Nat) : x * 2 ^ 31 % 2 ^ 64 = x % 2 ^ 33 * 2 ^ 31 := by
  rw [show (2 : Nat) ^ 64 = 2 ^ 33 * 2 ^ 31 by decide, Nat.mul_mod_mul_right]
theorem rot_lt {x : Nat} (hx : x < 2 ^ 64) : x * 2 ^ 31 % 2 ^ 64 + x / 2 ^ 33 < 2 ^ 64 := by rw [ZEN]; omega
theorem rot_inj {x y : Nat} (hx : x < 2 ^ 64) (hy : y < 2 ^ 64) (h : x * 2 ^ 31 % 2 ^ 64 + x / 2 ^ 33 = y * 2 ^ 31 % 2 ^ 64 + y / 2 ^ 33) : x = y := by
  rw [ZEN, ZEN] at h
  have a1 := Nat.div_add_mod x (2 ^ 33)
  have a2 := Nat.div_add_mod y (2 ^ 33)
  have b1 : x / 2 ^ 33 < 2 ^ 31 := by omega
  have b2 : y / 2 ^ 33 < 2 ^ 31 := by omega
  generalize x / 2 ^ 33 = q at *
  generalize y / 2 ^ 33 = q' at *
  generalize x % 2 ^ 33 = r at *
  generalize y % 2 ^ 33 = r' at *
  omega
theorem back {x p i : Nat} (h : p * i % 2 ^ 64 = 1) (hx : x < 2 ^ 64) : x * p % 2 ^ 64 * i % 2 ^ 64 = x := by
  rw [Nat.mod_mul_mod, Nat.mul_assoc, Nat.mul_mod, h, Nat.mul_one, Nat.mod_mod, Nat.mod_eq_of_lt hx]
theorem st_inj {a b a' b' : Nat} (h : st a b = st a' b') : (a + b * 14029467366897019727) % 2 ^ 64 = (a' + b' * 14029467366897019727) % 2 ^ 64 := by
  unfold st at h
  have l1 : (a + b * 14029467366897019727) % 2 ^ 64 < 2 ^ 64 := Nat.mod_lt _ (by decide)
  have l2 : (a' + b' * 14029467366897019727) % 2 ^ 64 < 2 ^ 64 := Nat.mod_lt _ (by decide)
  generalize (a + b * 14029467366897019727) % 2 ^ 64 = x at *
  generalize (a' + b' * 14029467366897019727) % 2 ^ 64 = y at *
  have hi : 11400714785074694791 * 614540362697595703 % 2 ^ 64 = 1 := by decide
  have e := congrArg (fun z => z * 614540362697595703 % 2 ^ 64) h
  rw [back hi (rot_lt l1), back hi (rot_lt l2)] at e
  exact rot_inj l1 l2 e
theorem to_G {a b x : Nat} (h : (st 2870177450012600261 a + b * 14029467366897019727) % 2 ^ 64 = x % 2 ^ 64) : (G a + b) % 2 ^ 64 = x * 839798700976720815 % 2 ^ 64 := by
  have e := congrArg (fun z => z * 839798700976720815 % 2 ^ 64) h
  rw [Nat.mod_mul_mod, Nat.mod_mul_mod, Nat.add_mul, Nat.mul_assoc, Nat.add_mod, Nat.mul_mod b, show 14029467366897019727 * 839798700976720815 % 2 ^ 64 = 1 by decide, Nat.mul_one, Nat.mod_mod] at e
  unfold G
  rw [<- e, Nat.add_mod, Nat.mod_mod]
def far (x y : Nat) : Bool := decide (1000 < (x + 2 ^ 64 - y) % 2 ^ 64) && decide ((x + 2 ^ 64 - y) % 2 ^ 64 < 2 ^ 64 - 1000)
def ZDa : List Nat -> Bool
  | [] => true
  | x :: r => r.all (far x) && ZDa r
theorem ZCA : ∀ {l : List Nat} {i j x y : Nat}, ZDa l = true -> i < j -> l[i]? = some x -> l[j]? = some y -> far x y = true
  | x :: r, 0, j + 1, a, b, h, hij, h1, h2 => by
    unfold ZDa at h
    rw [yBQ, List.all_eq_true] at h
    cases h1
    exact h.1 b (yAM (by simpa using h2))
  | x :: r, i + 1, j + 1, a, b, h, hij, h1, h2 => by
    unfold ZDa at h
    rw [yBQ] at h
    exact ZCA (i := i) (j := j) h.2 (by omega) (by simpa using h1) (by simpa using h2)
  | [], i, j, a, b, h, hij, h1, h2 => by simp at h1
theorem farG : ZDa ((List.range 205).map G ++ [9148689060682678900 * 839798700976720815 % 2 ^ 64]) = true := by decide +kernel
theorem G_at {a : Nat} (h : a < 205) : ((List.range 205).map G ++ [9148689060682678900 * 839798700976720815 % 2 ^ 64])[a]? = some (G a) := by
  rw [yAV (by rw [yAA, List.length_range]; exact h), yAG, List.getElem?_range h]; rfl
theorem ZEW {x y : Nat} (h : far x y = true) {b b' : Nat} (hx : x < 2 ^ 64) (hy : y < 2 ^ 64) (hb : b <= 500) (hb' : b' <= 500) : (x + b) % 2 ^ 64 ≠ (y + b') % 2 ^ 64 := by
  unfold far at h
  rw [yBQ, decide_eq_true_iff, decide_eq_true_iff] at h
  omega
theorem G_lt (a : Nat) : G a < 2 ^ 64 := Nat.mod_lt _ (by decide)
def th (a b : Nat) : Nat := st (st 2870177450012600261 a) b
theorem th_lt (a b : Nat) : th a b < 2 ^ 64 := Nat.mod_lt _ (by decide)
theorem th_inj {a a' b b' : Nat} (ha : a < 205) (ha' : a' < 205) (hb : b <= 500) (hb' : b' <= 500) (h : th a b = th a' b') : a = a' /\ b = b' := by
  unfold th at h
  have e := st_inj (a := st 2870177450012600261 a) (b := b) (a' := st 2870177450012600261 a') (b' := b') h
  have e1 := to_G (a := a) (b := b) (x := st 2870177450012600261 a' + b' * 14029467366897019727) e
  have e2 := to_G (a := a') (b := b') (x := st 2870177450012600261 a' + b' * 14029467366897019727) (Eq.refl _)
  rw [<- e2] at e1
  clear e2 e h
  rcases Nat.lt_trichotomy a a' with z | z | z
  . exact absurd e1 (ZEW (ZCA farG z (G_at ha) (G_at ha')) (G_lt _) (G_lt _) hb hb')
  . subst z
    have := G_lt a
    generalize G a = g at *
    exact ⟨rfl, by omega⟩
  . exact absurd e1.symm (ZEW (ZCA farG z (G_at ha') (G_at ha)) (G_lt _) (G_lt _) hb' hb)
theorem th_ne {a b : Nat} (ha : a < 205) (hb : b <= 500) : th a b ≠ 15576566623696079691 := by
  intro h
  have e : st (st 2870177450012600261 a) b = st 9148689060682678900 0 := by
    rw [show st 9148689060682678900 0 = 15576566623696079691 by decide +kernel]; exact h
  have e1 := to_G (a := a) (b := b) (x := 9148689060682678900) (by
    have := st_inj (a := st 2870177450012600261 a) (b := b) (a' := 9148689060682678900) (b' := 0) e
    rw [Nat.zero_mul, yCA] at this
    exact this)
  have f := ZCA (i := a) (j := 205) farG ha (G_at ha) (y := 9148689060682678900 * 839798700976720815 % 2 ^ 64) (by
    rw [yAU (by rw [yAA, List.length_range]; exact yAB _), yAA, List.length_range, yBJ, List.getElem?_cons_zero])
  have := ZEW f (G_lt _) (Nat.mod_lt _ (by decide)) hb (b' := 0) (by decide)
  rw [yCA, Nat.mod_mod] at this
  exact this e1
def fin (acc : Nat) : Int := if (acc + 2870177450013471924) % 2 ^ 64 = 2 ^ 64 - 1 then 1546275796 else if (acc + 2870177450013471924) % 2 ^ 64 < 2 ^ 63 then (((acc + 2870177450013471924) % 2 ^ 64 : Nat) : Int) else (((acc + 2870177450013471924) % 2 ^ 64 : Nat) : Int) - 2 ^ 64
theorem fin_of {x : Nat} (hx : x < 2 ^ 64) (nx : x ≠ 15576566623696079691) : fin x = (((x + 2870177450013471924) % 2 ^ 64 : Nat) : Int) /\ (x + 2870177450013471924) % 2 ^ 64 < 2 ^ 63 ∨ fin x = (((x + 2870177450013471924) % 2 ^ 64 : Nat) : Int) - 2 ^ 64 /\ ¬ (x + 2870177450013471924) % 2 ^ 64 < 2 ^ 63 /\ (x + 2870177450013471924) % 2 ^ 64 ≠ 2 ^ 64 - 1 := by
  have h1 : ¬ (x + 2870177450013471924) % 2 ^ 64 = 2 ^ 64 - 1 := by omega
  unfold fin
  rw [if_neg h1]
  by_cases h2 : (x + 2870177450013471924) % 2 ^ 64 < 2 ^ 63
  . rw [if_pos h2]; exact .inl ⟨rfl, h2⟩
  . rw [if_neg h2]; exact .inr ⟨rfl, h2, h1⟩
theorem fin_inj {x y : Nat} (hx : x < 2 ^ 64) (hy : y < 2 ^ 64) (nx : x ≠ 15576566623696079691) (ny : y ≠ 15576566623696079691) (h : fin x = fin y) : x = y := by
  rcases fin_of hx nx with ⟨e1, l1⟩ | ⟨e1, l1, _⟩ <;> rcases fin_of hy ny with ⟨e2, l2⟩ | ⟨e2, l2, _⟩ <;> rw [e1, e2] at h <;> omega
end Po
namespace L2
open PySem PySem.Spec PyProof.Rows
theorem hash_small (n : Nat) (hn : n <= 500) : hashInt (n : Int) = n := by
  have e : rawHash (n : Int) = n := by
    unfold rawHash
    dsimp only
    rw [Int.natAbs_natCast, if_neg (show ¬ (n : Int) < 0 by omega), show (n : Int) % ((2 ^ 61 - 1 : Nat) : Int) = n by omega, if_neg (fun z => by have := eq_of_beq z; omega)]
  unfold hashInt
  rw [e, if_neg (fun z => by have := eq_of_beq z; omega)]
def stI (acc : Nat) (h : Int) : Nat := Po.st acc (h % ((2 ^ 64 : Nat) : Int)).toNat
theorem fold_eq (hs : List Int) : Builtin.Tuple.tupleHashOf hs = (if (hs.foldl stI 2870177450012600261 + (hs.length ^^^ (2870177450012600261 ^^^ 3527539))) % 2 ^ 64 == 2 ^ 64 - 1 then 1546275796 else if (hs.foldl stI 2870177450012600261 + (hs.length ^^^ (2870177450012600261 ^^^ 3527539))) % 2 ^ 64 < 2 ^ 63 then (((hs.foldl stI 2870177450012600261 + (hs.length ^^^ (2870177450012600261 ^^^ 3527539))) % 2 ^ 64 : Nat) : Int) else (((hs.foldl stI 2870177450012600261 + (hs.length ^^^ (2870177450012600261 ^^^ 3527539))) % 2 ^ 64 : Nat) : Int) - ((2 ^ 64 : Nat) : Int)) := by
  unfold Builtin.Tuple.tupleHashOf
  rfl
theorem pairH {a b : Nat} (ha : a < 205) (hb : b <= 500) : Builtin.Tuple.tupleHashOf [(a : Int), (b : Int)] = Po.fin (Po.th a b) := by
  have ea : ((a : Int) % ((2 ^ 64 : Nat) : Int)).toNat = a := by omega
  have eb : ((b : Int) % ((2 ^ 64 : Nat) : Int)).toNat = b := by omega
  have hC : ([(a : Int), (b : Int)].length ^^^ (2870177450012600261 ^^^ 3527539)) = 2870177450013471924 := by
    show (2 ^^^ (2870177450012600261 ^^^ 3527539) : Nat) = _
    decide +kernel
  have hf : [(a : Int), (b : Int)].foldl stI 2870177450012600261 = Po.th a b := by
    rw [List.foldl_cons, List.foldl_cons, List.foldl_nil]
    unfold stI Po.th
    rw [ea, eb]
  rw [fold_eq, hC, hf]
  unfold Po.fin
  by_cases h : (Po.th a b + 2870177450013471924) % 2 ^ 64 = 2 ^ 64 - 1
  . rw [if_pos h, if_pos (beq_iff_eq.mpr h)]
  . rw [if_neg h, if_neg (fun z => h (beq_iff_eq.mp z))]
    rfl
theorem hash_pair (P : Program) (w : World) {a b : Nat} (ha : a < 205) (hb : b <= 500) : (tupleKind (ZAT P w)).hash [.inl (a : Int), .inl (b : Int)] = Po.fin (Po.th a b) := by
  show reduceHash (Builtin.Tuple.tupleHashOf [hashInt (a : Int), hashInt (b : Int)]) = _
  rw [hash_small a (by omega), hash_small b hb]
  have e := pairH ha hb
  rw [e]
  unfold reduceHash
  have := Po.fin_of (Po.th_lt a b) (Po.th_ne ha hb)
  have h1 : -(2 ^ 63 : Int) <= Po.fin (Po.th a b) /\ Po.fin (Po.th a b) < 2 ^ 63 /\ Po.fin (Po.th a b) ≠ -1 := by omega
  rw [if_pos (by rw [yBQ, decide_eq_true_iff, decide_eq_true_iff]; exact ⟨h1.1, h1.2.1⟩), if_neg (fun z => h1.2.2 (eq_of_beq z))]
def ZEZ (kvs : List (List Key × V)) : Prop := ∀ kv ∈ kvs, ∃ a b : Nat, kv.1 = [.inl (a : Int), .inl (b : Int)] /\ a < 205 /\ b <= 500
section
variable {X : Cx} {pins : List (Addr × Obj)} {σ : St} {H : Hp} {A : Around} {E : Value -> Shared -> Prop} {s : Shared}
theorem hash_nodup {P : Program} {w : World} : ∀ {kvs : List (List Key × V)} {xs : List (List Key × Addr × Value)}, ZEZ kvs -> KT H kvs xs -> (xs.map (·.1)).Nodup -> xs.Pairwise (fun x y => (entryOfKey (tupleKind (ZAT P w)) x).hash ≠ (entryOfKey (tupleKind (ZAT P w)) y).hash) := by
  intro kvs xs hk kt nd
  have keys : ∀ x ∈ xs, ∃ a b : Nat, x.1 = [.inl (a : Int), .inl (b : Int)] /\ a < 205 /\ b <= 500 := by
    intro x hx
    obtain ⟨y, hy, e⟩ : ∃ y ∈ kvs, y.1 = x.1 := by
      clear nd hk
      induction kt with
      | nil => cases hx
      | @cons p q ps qs hq t ih =>
        rcases yAH.mp hx with e | hx
        . subst e; exact ⟨p, yAI, hq.1⟩
        . obtain ⟨y, h1, h2⟩ := ih hx; exact ⟨y, yAS _ h1, h2⟩
    obtain ⟨a, b, h1, h2, h3⟩ := hk y hy
    exact ⟨a, b, by rw [<- e, h1], h2, h3⟩
  rw [List.Nodup, List.pairwise_map] at nd
  refine nd.imp_of_mem fun {x y} hx hy ne e => ?_
  obtain ⟨a, b, e1, h1, h2⟩ := keys x hx
  obtain ⟨a', b', e1', h1', h2'⟩ := keys y hy
  have e : (tupleKind (ZAT P w)).hash x.1 = (tupleKind (ZAT P w)).hash y.1 := e
  rw [e1, e1', hash_pair P w h1 h2, hash_pair P w h1' h2'] at e
  have := Po.th_inj h1 h1' h2 h2' (Po.fin_inj (Po.th_lt _ _) (Po.th_lt _ _) (Po.th_ne h1 h2) (Po.th_ne h1' h2') e)
  exact ne (by rw [e1, e1', this.1, this.2])
theorem one_hash {α : Type} (f : α -> Int) (x : α) : ∀ {l : List α}, l.Pairwise (fun a b => f a ≠ f b) -> (l.filter (fun y => f y == f x)).length <= 1
  | [], _ => yAF _
  | a :: r, h => by
    obtain ⟨h1, h2⟩ := List.pairwise_cons.mp h
    by_cases e : f a = f x
    . rw [yBT (by simpa using e)]
      have : r.filter (fun y => f y == f x) = [] := List.filter_eq_nil_iff.mpr fun b hb z => h1 b hb (by rw [e]; exact (by simpa using z : f b = f x).symm)
      rw [this]
      exact yAB _
    . rw [yBK (by simpa using e)]
      exact one_hash f x h2
theorem entries_empty {id : String} {d : Addr} {o : Obj} {es ep} {kvs : List (List Key × V)} {xs : List (List Key × Addr × Value)} {Q : Array DictEntry -> Shared -> Prop} (ho : s.heap.get? d = some o) (hd : o.data = .dict es ep)
    (he : es.toList = xs.map (entryOfKey (tupleKind (ZAT X.prog X.w)))) (hk : ∀ x ∈ xs, (tupleKind (ZAT X.prog X.w)).is s.heap x.1 x.2.1) (hp : xs.Pairwise (fun x y => (entryOfKey (tupleKind (ZAT X.prog X.w)) x).hash ≠ (entryOfKey (tupleKind (ZAT X.prog X.w)) y).hash)) (h : Q es s) :
    wpAny (model X.prog X.w) A (Builtin.Dict.entriesForEmpty id d) Q E s := by
  unfold Builtin.Dict.entriesForEmpty
  refine wpAny_bind (wpAny_dictEntries ho hd ?_)
  refine wpAny_bind ?_
  rw [<- Array.forIn_toList]
  refine wpAny_forIn_list _ (fun rest _ s' => s' = s /\ ∀ e ∈ rest, e ∈ es.toList) _ ?_ ?_ _ _ ⟨rfl, fun e z => z⟩
  . rintro e rest b s' ⟨es', hall⟩
    rw [es']
    have hm := hall e yAI
    rw [he] at hm
    obtain ⟨x, hx, rfl⟩ := yBF.mp hm
    have hT : Shared.TypeIs s (.ref x.2.1) "tuple" := IsTupleKey.typeIs (hk x hx)
    have hsz : ¬ (es.filter (fun e' => e'.hash == (entryOfKey (tupleKind (ZAT X.prog X.w)) x).hash)).size > 1 := by
      have e1 : (es.filter (fun e' => e'.hash == (entryOfKey (tupleKind (ZAT X.prog X.w)) x).hash)).size = (es.toList.filter (fun e' => e'.hash == (entryOfKey (tupleKind (ZAT X.prog X.w)) x).hash)).length := by
        rw [<- Array.toList_filter, yAN]
      rw [e1, he]
      have := one_hash (fun y => (entryOfKey (tupleKind (ZAT X.prog X.w)) y).hash) x hp
      rw [List.filter_map, yAA]
      have this : (xs.filter (fun y => (entryOfKey (tupleKind (ZAT X.prog X.w)) y).hash == (entryOfKey (tupleKind (ZAT X.prog X.w)) x).hash)).length <= 1 := this
      exact Nat.not_lt.mpr this
    show wpAny _ _ (Builtin.Dict.quietEq (.ref x.2.1) >>= _) _ _ _
    refine wpAny_bind ?_
    unfold Builtin.Dict.quietEq
    refine wpAny_bind (wpAny_specialOf hT F.slot_tuple_eq.lookup (wpAny_pure ?_))
    rw [if_pos (by decide), if_neg hsz]
    exact wpAny_pure ⟨rfl, fun e z => hall e (yAS _ z)⟩
  . rintro b s' ⟨rfl, _⟩
    exact wpAny_pure h
theorem merge_copy {nm : String} {d o : Addr} {kvs : List (List Key × V)} {xs : List (List Key × Addr × Value)} {Q : Unit -> Shared -> Prop} (hdo : d ≠ o) (hoS : (o == sysModules) = false) (hd : s.heap.get? d = some { cls := .type "dict", data := .dict #[] })
    (ho : s.heap.DictOfH (tupleKind (ZAT X.prog X.w)) o xs) (hp : xs.Pairwise (fun x y => (entryOfKey (tupleKind (ZAT X.prog X.w)) x).hash ≠ (entryOfKey (tupleKind (ZAT X.prog X.w)) y).hash)) (hsz : xs.length <= sizeLine)
    (hQ : ∀ h', Heap.SameBut d s.heap h' -> (∃ od es ep, h'.get? d = some od /\ od.ExactDict /\ od.data = .dict es ep /\ es.toList = xs.map (entryOfKey (tupleKind (ZAT X.prog X.w)))) -> Q () { s with heap := h' }) :
    wpAny (model X.prog X.w) A (Builtin.Dict.mergeDict nm d o) Q E s := by
  obtain ⟨oo, eso, epo, hoo, hco, hdo', heo, hko, hno⟩ := id ho
  unfold Builtin.Dict.mergeDict
  rw [if_neg (by simpa using hdo)]
  unfold Builtin.Dict.showsAll
  rw [if_neg (by rw [hoS]; exact yAX)]
  refine wpAny_bind (wpAny_pure ?_)
  refine wpAny_bind (wpAny_dictEntries hoo hdo' ?_)
  have hdd : ({ cls := .type "dict", data := .dict #[] } : Obj).data = .dict #[] 0 := rfl
  dsimp only
  cases xs with
  | nil =>
    have h0 : eso = #[] := by
      have : eso.toList = [] := heo
      exact Array.toList_eq_nil_iff.mp this
    subst h0
    rw [if_neg (by rw [show (#[] : Array DictEntry).all (fun e => (keyPart e.key).isSome) = true by simp]; simp)]
    refine wpAny_bind (wpAny_dictEpoch hoo hdo' ?_)
    refine wpAny_bind (wpAny_dictEntries hoo hdo' ?_)
    refine wpAny_bind ?_
    rw [Std.Legacy.Range.forIn_eq_forIn_range']
    refine wpAny_pure (wpAny_pure (hQ s.heap (Heap.SameBut.refl _ _) ⟨_, _, _, hd, ⟨rfl, rfl, rfl⟩, hdd, rfl⟩))
  | cons x r =>
    have hne : (eso.all fun e => (keyPart e.key).isSome) = false := by
      rw [<- Array.all_toList, heo]
      rfl
    rw [if_pos (by rw [hne, Bool.and_false]; rfl)]
    refine wpAny_bind (wpAny_dictEntries hd hdd ?_)
    rw [if_pos (by rfl)]
    refine wpAny_bind (entries_empty (kvs := kvs) hoo hdo' heo hko hp ?_)
    have hsize : eso.size = (x :: r).length := by rw [<- yAN, heo, yAA]
    have hie : eso.isEmpty = false := by
      cases e0 : eso.isEmpty with
      | false => rfl
      | true => rw [Array.isEmpty_iff.mp e0] at hsize; cases hsize
    rw [if_pos (by rw [hie]; rfl)]
    refine wpAny_bind (wpAny_updateDictKeysTo hd hdd (wpAny_pure (hQ _ (Heap.SameBut.update ..) ⟨_, eso, 0 + 1, Heap.get?_update_self _ hd (Obj.isFreed_of_dict (Obj.data_mapDictKeys hdd _)), (show Obj.ExactDict _ from ⟨rfl, rfl, rfl⟩).mapDictKeys _, Obj.data_mapDictKeys hdd _, heo⟩)) (by omega))
theorem call_dictC : ZCb X (.type "dict") (fun xs H Q => ∃ (p : Addr) (kvs : List (List Key × V)), xs = [.ref p] /\ H p = some (.dT kvs) /\ ZEZ kvs /\ ∀ d, H d = none -> Q (.ref d) (upd H d (.dT kvs))) := by
  intro pins s σ H xs us Q I r h
  obtain ⟨p, kvs, rfl, hpd, hsm, q⟩ := h
  obtain ⟨u, rfl, rx⟩ := ZDF r
  cases rx
  obtain ⟨z, hoS, xs, kt, dd⟩ := dt_of I.hok hpd
  have hxl : xs.length = kvs.length := (Paired.length kt).symm
  have hnd : (xs.map (·.1)).Nodup := let ⟨_, _, _, _, _, _, _, _, hn⟩ := dd; hn
  have hpw := hash_nodup (P := X.prog) (w := X.w) hsm kt hnd
  refine callType_codes (Q₁ := fun obj s₁ => obj = .ref s.heap.objs.size /\ s₁ = { s with heap := s.heap.push { cls := .type "dict", data := .dict #[] } }) F.kt_called_dict (F.kt_typeCall_dict_1 _) F.entry_dict_init (kt_code_dict_new _ ⟨rfl, rfl⟩) ?_
  rintro obj s₁ ⟨rfl, rfl⟩
  have hdn : (s.heap.push { cls := .type "dict", data := .dict #[] }).get? s.heap.objs.size = some { cls := .type "dict", data := .dict #[] } := Heap.get?_push_size _ rfl
  have hk1 : ∀ b o, s.heap.get? b = some o -> (s.heap.push { cls := .type "dict", data := .dict #[] }).get? b = some o := fun b o hb => Heap.get?_push_of_some _ hb
  have hT : Shared.TypeIs { s with heap := s.heap.push { cls := .type "dict", data := .dict #[] } } (.ref s.heap.objs.size) "dict" := ⟨_, hdn, rfl⟩
  have dd' : (s.heap.push { cls := .type "dict", data := .dict #[] }).DictOfH (tupleKind (ZAT X.prog X.w)) p xs := by
    obtain ⟨o, es, ep, a1, a2, a3, a4, a5, a6⟩ := dd
    exact ⟨o, es, ep, hk1 _ _ a1, a2, a3, a4, fun x hx => key_mono hk1 (a5 x hx), a6⟩
  obtain ⟨oo, eso, epo, hoo, hco, hdo', heo, hko, hno⟩ := id dd'
  have hTp : Shared.TypeIs { s with heap := s.heap.push { cls := .type "dict", data := .dict #[] } } (.ref p) "dict" := ⟨oo, hoo, hco.1⟩
  have hdo : s.heap.objs.size ≠ p := by
    obtain ⟨_, _, _, hg, _⟩ := dd
    exact fun e => absurd (Heap.lt_size hg) (by rw [e]; exact yBG _)
  refine ⟨hT, F.args_dict_init_2 _ _, ?_⟩
  unfold Builtin.«dict.__init__»
  refine wpAny_bind ?_
  unfold Builtin.Dict.selfAndRest
  refine wpAny_bind (wpAny_notOrdered_dict hT ?_)
  show wpAny _ _ (pure (s.heap.objs.size, [Value.ref p])) _ _ _
  refine wpAny_pure ?_
  show wpAny _ _ (Builtin.Dict.updateFrom "dict.__init__" s.heap.objs.size (.ref p) [] .none) _ _ _
  unfold Builtin.Dict.updateFrom
  refine wpAny_bind (wpAny_typeOf hTp ?_)
  rw [if_neg (by decide)]
  refine wpAny_bind ?_
  unfold Builtin.Dict.merge
  refine wpAny_bind ?_
  unfold Builtin.Dict.readDirectly
  refine wpAny_bind (wpAny_isInstance hTp isSubtype_dict_dict ?_)
  simp only [Bool.not_true, yCS, if_false]
  refine wpAny_bind (wpAny_specialOf hTp F.slot_dict_iter.lookup (wpAny_pure ?_))
  simp only [beq_self_eq_true, if_true]
  refine wpAny_bind (wpAny_pure ?_)
  refine merge_copy (kvs := kvs) hdo hoS hdn dd' hpw (by omega) fun h' hs' hd' => ?_
  show wpAny _ _ (Builtin.Dict.addKeywords s.heap.objs.size [] >>= _) _ _ _
  refine wpAny_bind (wpAny_pure (wpAny_pure ⟨rfl, ?_⟩))
  obtain ⟨od, es, ep, g1, g2, g3, g4⟩ := hd'
  refine ⟨.ref s.heap.objs.size, _, I.laid (h' := h') (t' := s.toks) (o := .dT kvs) (fun b o hb => (hs'.2 b (yAL (Heap.lt_size hb))).trans (hk1 _ _ hb)) (yAB _) ⟨z, ?_, xs, kt.keeps fun c ys ec => ?_, od, es, ep, g1, g2, g3, g4, hnd⟩, rfl, q _ (I.hok.fresh (yAB _))⟩
  . have := I.big
    exact beq_eq_false_iff_ne.mpr (Nat.ne_of_gt this)
  . rw [ZAI (ZAE ec (I.hok.fresh (yAB _)))]
    exact ec
end
theorem ZEO {P : Program} {w : World} {K : W.Frag} {mg : Str -> Option Value} {base : Heap} {x : Str} {f : Addr} {fd : FuncData} {ps : List Str} {sp : Nat -> Sp} (h0 : ∀ vs H Q E, sp 0 vs H Q E -> False) (hb : Binds K fd ps []) (hk : W.keepIn K (.ref f) = true) (hm : mg x = some (.ref f))
    (step : ∀ n, Fn P w K mg base CX0 x n ps (sp n) -> FnOk P w K mg base CX0 (n + 1) f fd ps (sp (n + 1))) : ∀ n, Fn P w K mg base CX0 x n ps (sp n)
  | 0 => ⟨f, fd, ⟨fun vs H Q E h => (h0 vs H Q E h).elim, fun A outer s H args us vs Q E _ _ _ _ h => (h0 vs H Q E h).elim⟩, hb, hk, hm⟩
  | n + 1 => ⟨f, fd, step n (ZEO h0 hb hk hm step n), hb, hk, hm⟩
open PySem
theorem tVar_1 {v : V} {a0 : Option V} {σ : St} {H : Hp} {Q : VK} : tVar 1 (a0 :: some v :: σ) H Q = Q v H := by
  simp only [ZAj, ZAg]
theorem tVar_2 {v : V} {a0 a1 : Option V} {σ : St} {H : Hp} {Q : VK} : tVar 2 (a0 :: a1 :: some v :: σ) H Q = Q v H := by
  simp only [ZAj, ZAg]
theorem tVar_3 {v : V} {a0 a1 a2 : Option V} {σ : St} {H : Hp} {Q : VK} : tVar 3 (a0 :: a1 :: a2 :: some v :: σ) H Q = Q v H := by
  simp only [ZAj, ZAg]
theorem tVar_4 {v : V} {a0 a1 a2 a3 : Option V} {σ : St} {H : Hp} {Q : VK} : tVar 4 (a0 :: a1 :: a2 :: a3 :: some v :: σ) H Q = Q v H := by
  simp only [ZAj, ZAg]
theorem tVar_5 {v : V} {a0 a1 a2 a3 a4 : Option V} {σ : St} {H : Hp} {Q : VK} : tVar 5 (a0 :: a1 :: a2 :: a3 :: a4 :: some v :: σ) H Q = Q v H := by
  simp only [ZAj, ZAg]
theorem tVar_6 {v : V} {a0 a1 a2 a3 a4 a5 : Option V} {σ : St} {H : Hp} {Q : VK} : tVar 6 (a0 :: a1 :: a2 :: a3 :: a4 :: a5 :: some v :: σ) H Q = Q v H := by
  simp only [ZAj, ZAg]
theorem tVar_7 {v : V} {a0 a1 a2 a3 a4 a5 a6 : Option V} {σ : St} {H : Hp} {Q : VK} : tVar 7 (a0 :: a1 :: a2 :: a3 :: a4 :: a5 :: a6 :: some v :: σ) H Q = Q v H := by
  simp only [ZAj, ZAg]
theorem tVar_8 {v : V} {a0 a1 a2 a3 a4 a5 a6 a7 : Option V} {σ : St} {H : Hp} {Q : VK} : tVar 8 (a0 :: a1 :: a2 :: a3 :: a4 :: a5 :: a6 :: a7 :: some v :: σ) H Q = Q v H := by
  simp only [ZAj, ZAg]
theorem tVar_9 {v : V} {a0 a1 a2 a3 a4 a5 a6 a7 a8 : Option V} {σ : St} {H : Hp} {Q : VK} : tVar 9 (a0 :: a1 :: a2 :: a3 :: a4 :: a5 :: a6 :: a7 :: a8 :: some v :: σ) H Q = Q v H := by
  simp only [ZAj, ZAg]
theorem tVar_10 {v : V} {a0 a1 a2 a3 a4 a5 a6 a7 a8 a9 : Option V} {σ : St} {H : Hp} {Q : VK} : tVar 10 (a0 :: a1 :: a2 :: a3 :: a4 :: a5 :: a6 :: a7 :: a8 :: a9 :: some v :: σ) H Q = Q v H := by
  simp only [ZAj, ZAg]
theorem tVar_11 {v : V} {a0 a1 a2 a3 a4 a5 a6 a7 a8 a9 a10 : Option V} {σ : St} {H : Hp} {Q : VK} : tVar 11 (a0 :: a1 :: a2 :: a3 :: a4 :: a5 :: a6 :: a7 :: a8 :: a9 :: a10 :: some v :: σ) H Q = Q v H := by
  simp only [ZAj, ZAg]
theorem tVar_12 {v : V} {a0 a1 a2 a3 a4 a5 a6 a7 a8 a9 a10 a11 : Option V} {σ : St} {H : Hp} {Q : VK} : tVar 12 (a0 :: a1 :: a2 :: a3 :: a4 :: a5 :: a6 :: a7 :: a8 :: a9 :: a10 :: a11 :: some v :: σ) H Q = Q v H := by
  simp only [ZAj, ZAg]
theorem tVar_13 {v : V} {a0 a1 a2 a3 a4 a5 a6 a7 a8 a9 a10 a11 a12 : Option V} {σ : St} {H : Hp} {Q : VK} : tVar 13 (a0 :: a1 :: a2 :: a3 :: a4 :: a5 :: a6 :: a7 :: a8 :: a9 :: a10 :: a11 :: a12 :: some v :: σ) H Q = Q v H := by
  simp only [ZAj, ZAg]
theorem tVar_14 {v : V} {a0 a1 a2 a3 a4 a5 a6 a7 a8 a9 a10 a11 a12 a13 : Option V} {σ : St} {H : Hp} {Q : VK} : tVar 14 (a0 :: a1 :: a2 :: a3 :: a4 :: a5 :: a6 :: a7 :: a8 :: a9 :: a10 :: a11 :: a12 :: a13 :: some v :: σ) H Q = Q v H := by
  simp only [ZAj, ZAg]
theorem tVar_15 {v : V} {a0 a1 a2 a3 a4 a5 a6 a7 a8 a9 a10 a11 a12 a13 a14 : Option V} {σ : St} {H : Hp} {Q : VK} : tVar 15 (a0 :: a1 :: a2 :: a3 :: a4 :: a5 :: a6 :: a7 :: a8 :: a9 :: a10 :: a11 :: a12 :: a13 :: a14 :: some v :: σ) H Q = Q v H := by
  simp only [ZAj, ZAg]
theorem tVar_16 {v : V} {a0 a1 a2 a3 a4 a5 a6 a7 a8 a9 a10 a11 a12 a13 a14 a15 : Option V} {σ : St} {H : Hp} {Q : VK} : tVar 16 (a0 :: a1 :: a2 :: a3 :: a4 :: a5 :: a6 :: a7 :: a8 :: a9 :: a10 :: a11 :: a12 :: a13 :: a14 :: a15 :: some v :: σ) H Q = Q v H := by
  simp only [ZAj, ZAg]
theorem tVar_17 {v : V} {a0 a1 a2 a3 a4 a5 a6 a7 a8 a9 a10 a11 a12 a13 a14 a15 a16 : Option V} {σ : St} {H : Hp} {Q : VK} : tVar 17 (a0 :: a1 :: a2 :: a3 :: a4 :: a5 :: a6 :: a7 :: a8 :: a9 :: a10 :: a11 :: a12 :: a13 :: a14 :: a15 :: a16 :: some v :: σ) H Q = Q v H := by
  simp only [ZAj, ZAg]
theorem tVar_18 {v : V} {a0 a1 a2 a3 a4 a5 a6 a7 a8 a9 a10 a11 a12 a13 a14 a15 a16 a17 : Option V} {σ : St} {H : Hp} {Q : VK} : tVar 18 (a0 :: a1 :: a2 :: a3 :: a4 :: a5 :: a6 :: a7 :: a8 :: a9 :: a10 :: a11 :: a12 :: a13 :: a14 :: a15 :: a16 :: a17 :: some v :: σ) H Q = Q v H := by
  simp only [ZAj, ZAg]
theorem tVar_19 {v : V} {a0 a1 a2 a3 a4 a5 a6 a7 a8 a9 a10 a11 a12 a13 a14 a15 a16 a17 a18 : Option V} {σ : St} {H : Hp} {Q : VK} : tVar 19 (a0 :: a1 :: a2 :: a3 :: a4 :: a5 :: a6 :: a7 :: a8 :: a9 :: a10 :: a11 :: a12 :: a13 :: a14 :: a15 :: a16 :: a17 :: a18 :: some v :: σ) H Q = Q v H := by
  simp only [ZAj, ZAg]
theorem tVar_20 {v : V} {a0 a1 a2 a3 a4 a5 a6 a7 a8 a9 a10 a11 a12 a13 a14 a15 a16 a17 a18 a19 : Option V} {σ : St} {H : Hp} {Q : VK} : tVar 20 (a0 :: a1 :: a2 :: a3 :: a4 :: a5 :: a6 :: a7 :: a8 :: a9 :: a10 :: a11 :: a12 :: a13 :: a14 :: a15 :: a16 :: a17 :: a18 :: a19 :: some v :: σ) H Q = Q v H := by
  simp only [ZAj, ZAg]
theorem tVar_21 {v : V} {a0 a1 a2 a3 a4 a5 a6 a7 a8 a9 a10 a11 a12 a13 a14 a15 a16 a17 a18 a19 a20 : Option V} {σ : St} {H : Hp} {Q : VK} : tVar 21 (a0 :: a1 :: a2 :: a3 :: a4 :: a5 :: a6 :: a7 :: a8 :: a9 :: a10 :: a11 :: a12 :: a13 :: a14 :: a15 :: a16 :: a17 :: a18 :: a19 :: a20 :: some v :: σ) H Q = Q v H := by
  simp only [ZAj, ZAg]
theorem tVar_22 {v : V} {a0 a1 a2 a3 a4 a5 a6 a7 a8 a9 a10 a11 a12 a13 a14 a15 a16 a17 a18 a19 a20 a21 : Option V} {σ : St} {H : Hp} {Q : VK} : tVar 22 (a0 :: a1 :: a2 :: a3 :: a4 :: a5 :: a6 :: a7 :: a8 :: a9 :: a10 :: a11 :: a12 :: a13 :: a14 :: a15 :: a16 :: a17 :: a18 :: a19 :: a20 :: a21 :: some v :: σ) H Q = Q v H := by
  simp only [ZAj, ZAg]
theorem tVar_23 {v : V} {a0 a1 a2 a3 a4 a5 a6 a7 a8 a9 a10 a11 a12 a13 a14 a15 a16 a17 a18 a19 a20 a21 a22 : Option V} {σ : St} {H : Hp} {Q : VK} : tVar 23 (a0 :: a1 :: a2 :: a3 :: a4 :: a5 :: a6 :: a7 :: a8 :: a9 :: a10 :: a11 :: a12 :: a13 :: a14 :: a15 :: a16 :: a17 :: a18 :: a19 :: a20 :: a21 :: a22 :: some v :: σ) H Q = Q v H := by
  simp only [ZAj, ZAg]
theorem tVar_24 {v : V} {a0 a1 a2 a3 a4 a5 a6 a7 a8 a9 a10 a11 a12 a13 a14 a15 a16 a17 a18 a19 a20 a21 a22 a23 : Option V} {σ : St} {H : Hp} {Q : VK} : tVar 24 (a0 :: a1 :: a2 :: a3 :: a4 :: a5 :: a6 :: a7 :: a8 :: a9 :: a10 :: a11 :: a12 :: a13 :: a14 :: a15 :: a16 :: a17 :: a18 :: a19 :: a20 :: a21 :: a22 :: a23 :: some v :: σ) H Q = Q v H := by
  simp only [ZAj, ZAg]
theorem tVar_25 {v : V} {a0 a1 a2 a3 a4 a5 a6 a7 a8 a9 a10 a11 a12 a13 a14 a15 a16 a17 a18 a19 a20 a21 a22 a23 a24 : Option V} {σ : St} {H : Hp} {Q : VK} : tVar 25 (a0 :: a1 :: a2 :: a3 :: a4 :: a5 :: a6 :: a7 :: a8 :: a9 :: a10 :: a11 :: a12 :: a13 :: a14 :: a15 :: a16 :: a17 :: a18 :: a19 :: a20 :: a21 :: a22 :: a23 :: a24 :: some v :: σ) H Q = Q v H := by
  simp only [ZAj, ZAg]
theorem tVar_26 {v : V} {a0 a1 a2 a3 a4 a5 a6 a7 a8 a9 a10 a11 a12 a13 a14 a15 a16 a17 a18 a19 a20 a21 a22 a23 a24 a25 : Option V} {σ : St} {H : Hp} {Q : VK} : tVar 26 (a0 :: a1 :: a2 :: a3 :: a4 :: a5 :: a6 :: a7 :: a8 :: a9 :: a10 :: a11 :: a12 :: a13 :: a14 :: a15 :: a16 :: a17 :: a18 :: a19 :: a20 :: a21 :: a22 :: a23 :: a24 :: a25 :: some v :: σ) H Q = Q v H := by
  simp only [ZAj, ZAg]
theorem tVar_27 {v : V} {a0 a1 a2 a3 a4 a5 a6 a7 a8 a9 a10 a11 a12 a13 a14 a15 a16 a17 a18 a19 a20 a21 a22 a23 a24 a25 a26 : Option V} {σ : St} {H : Hp} {Q : VK} : tVar 27 (a0 :: a1 :: a2 :: a3 :: a4 :: a5 :: a6 :: a7 :: a8 :: a9 :: a10 :: a11 :: a12 :: a13 :: a14 :: a15 :: a16 :: a17 :: a18 :: a19 :: a20 :: a21 :: a22 :: a23 :: a24 :: a25 :: a26 :: some v :: σ) H Q = Q v H := by
  simp only [ZAj, ZAg]
theorem tVar_28 {v : V} {a0 a1 a2 a3 a4 a5 a6 a7 a8 a9 a10 a11 a12 a13 a14 a15 a16 a17 a18 a19 a20 a21 a22 a23 a24 a25 a26 a27 : Option V} {σ : St} {H : Hp} {Q : VK} : tVar 28 (a0 :: a1 :: a2 :: a3 :: a4 :: a5 :: a6 :: a7 :: a8 :: a9 :: a10 :: a11 :: a12 :: a13 :: a14 :: a15 :: a16 :: a17 :: a18 :: a19 :: a20 :: a21 :: a22 :: a23 :: a24 :: a25 :: a26 :: a27 :: some v :: σ) H Q = Q v H := by
  simp only [ZAj, ZAg]
theorem tVar_29 {v : V} {a0 a1 a2 a3 a4 a5 a6 a7 a8 a9 a10 a11 a12 a13 a14 a15 a16 a17 a18 a19 a20 a21 a22 a23 a24 a25 a26 a27 a28 : Option V} {σ : St} {H : Hp} {Q : VK} : tVar 29 (a0 :: a1 :: a2 :: a3 :: a4 :: a5 :: a6 :: a7 :: a8 :: a9 :: a10 :: a11 :: a12 :: a13 :: a14 :: a15 :: a16 :: a17 :: a18 :: a19 :: a20 :: a21 :: a22 :: a23 :: a24 :: a25 :: a26 :: a27 :: a28 :: some v :: σ) H Q = Q v H := by
  simp only [ZAj, ZAg]
theorem tVar_30 {v : V} {a0 a1 a2 a3 a4 a5 a6 a7 a8 a9 a10 a11 a12 a13 a14 a15 a16 a17 a18 a19 a20 a21 a22 a23 a24 a25 a26 a27 a28 a29 : Option V} {σ : St} {H : Hp} {Q : VK} : tVar 30 (a0 :: a1 :: a2 :: a3 :: a4 :: a5 :: a6 :: a7 :: a8 :: a9 :: a10 :: a11 :: a12 :: a13 :: a14 :: a15 :: a16 :: a17 :: a18 :: a19 :: a20 :: a21 :: a22 :: a23 :: a24 :: a25 :: a26 :: a27 :: a28 :: a29 :: some v :: σ) H Q = Q v H := by
  simp only [ZAj, ZAg]
open PySem
def Cut (t : TS) : TS := t
theorem ZAU {X : Cx} {rest : List Stmt} {u : TS} (h : PSs X rest u) : PSs X rest (Cut u) := h
theorem ZAd {u : TS} {D : Ends} {σ : St} {H : Hp} (h : u D σ H) : Cut u D σ H := h
theorem us0 {l : List Value} (h : l.length = 0) : l = [] := List.length_eq_zero_iff.mp h
theorem us1 {l : List Value} (h : l.length = 1) : ∃ a0, l = [a0] := by
  cases l with
  | nil => cases h
  | cons a l =>
    obtain rfl := us0 (l := l) (Nat.succ.inj h)
    exact ⟨a, rfl⟩
theorem us2 {l : List Value} (h : l.length = 2) : ∃ a0 a1, l = [a0, a1] := by
  cases l with
  | nil => cases h
  | cons a l =>
    obtain ⟨b0, rfl⟩ := us1 (l := l) (Nat.succ.inj h)
    exact ⟨a, b0, rfl⟩
theorem us3 {l : List Value} (h : l.length = 3) : ∃ a0 a1 a2, l = [a0, a1, a2] := by
  cases l with
  | nil => cases h
  | cons a l =>
    obtain ⟨b0, b1, rfl⟩ := us2 (l := l) (Nat.succ.inj h)
    exact ⟨a, b0, b1, rfl⟩
theorem us4 {l : List Value} (h : l.length = 4) : ∃ a0 a1 a2 a3, l = [a0, a1, a2, a3] := by
  cases l with
  | nil => cases h
  | cons a l =>
    obtain ⟨b0, b1, b2, rfl⟩ := us3 (l := l) (Nat.succ.inj h)
    exact ⟨a, b0, b1, b2, rfl⟩
theorem us5 {l : List Value} (h : l.length = 5) : ∃ a0 a1 a2 a3 a4, l = [a0, a1, a2, a3, a4] := by
  cases l with
  | nil => cases h
  | cons a l =>
    obtain ⟨b0, b1, b2, b3, rfl⟩ := us4 (l := l) (Nat.succ.inj h)
    exact ⟨a, b0, b1, b2, b3, rfl⟩
def tMakeN (C : Addr) : TE := fun σ H Q => ∀ x dx, H x = none -> H dx = none -> dx ≠ x -> Q (.ref x) (upd (upd H dx (.own x)) x (.ins C dx []))
def ZDh (t u : TE) : TE := fun σ H Q => t σ H Q ∨ u σ H Q
theorem ZCQ {X : Cx} {e : Expr} {t u : TE} (h : PE X e t) (k : PE X e u) : PE X e (ZDh t u) := fun pins s σ H Q I z => z.elim (h pins s σ H Q I) (k pins s σ H Q I)
section
variable {X : Cx}
def rRemove : V -> List V -> Hp -> VK -> Prop := fun x vs H Q => ∃ (l : Addr) (ns : List Int) (i : Int) (k : Nat), x = .ref l /\ vs = [.int i] /\ H l = some (.lst (ns.map V.int)) /\ ns[k]? = some i /\ (∀ m, m < k -> ns[m]? ≠ some i) /\ Q .non (upd H l (.lst ((ns.eraseIdx k).map V.int)))
theorem ZBi {α β : Type} (f : α -> β) : ∀ (l : List α) (k : Nat), (l.eraseIdx k).map f = (l.map f).eraseIdx k
  | [], _ => rfl
  | _ :: _, 0 => rfl
  | a :: r, k + 1 => by rw [List.eraseIdx_cons_succ, yAP, yAP, List.eraseIdx_cons_succ, ZBi f r k]
def eqI (i : Int) : Value -> Bool
  | .int a _ => a == i
  | _ => false
theorem mt_remove : MtM X "list.remove" rRemove := by
  intro pins s σ H x vs v us Q I rx rv h
  obtain ⟨l, ns, i, k, rfl, rfl, hH, hk, hno, q⟩ := h
  cases rx
  obtain ⟨u, rfl, ru⟩ := rv.one
  obtain ⟨t, rfl⟩ := ru
  obtain ⟨z, its, n, r, hl, e⟩ := I.lstM hH
  have hat : ∀ m a, ns[m]? = some a -> ∃ t', its[m]? = some (Value.int a t') := fun m a hm => by
    obtain ⟨w, hw, t', e'⟩ := r.get (show (ns.map V.int)[m]? = some (V.int a) by rw [yAG, hm]; rfl)
    exact ⟨t', by rw [hw, e']⟩
  have hl' : ns.length = its.length := by rw [<- hl, yAA]
  obtain ⟨t', ht'⟩ := hat k i hk
  obtain ⟨k1, k2⟩ := yAJ.mp ht'
  have hit : ∀ m (hm : m < its.toArray.size), ∃ a t2, ns[m]? = some a /\ its.toArray[m] = Value.int a t2 := fun m hm => by
    rw [yAO] at hm
    have h1 : ns[m]? = some (ns[m]'(by omega)) := yAC (by omega)
    obtain ⟨t2, h2⟩ := hat m _ h1
    obtain ⟨_, h3⟩ := yAJ.mp h2
    exact ⟨_, t2, h1, by rw [List.getElem_toArray]; exact h3⟩
  refine call_meets F.slot_list_remove ⟨_, e, rfl⟩ F.entry_list_remove (F.args_list_remove_2 _ _)
    (MeetsSeq.list_remove l its.toArray n (.int i t) (eqI i) (fun y hy => ?_) k (by rw [yAO]; exact k1) ?_ (fun m hm h => ?_) (by rw [yAO]; omega)) ⟨e, ?_⟩
  . obtain ⟨m, hm, e1⟩ := Array.getElem_of_mem hy
    obtain ⟨a, t2, _, e2⟩ := hit m hm
    rw [<- e1, e2]
    exact MeetsSeq.EqGives.int a i t2 t
  . rw [List.getElem_toArray, k2]
    show (i == i) = true
    simp
  . obtain ⟨a, t2, h1, e2⟩ := hit m hm
    rw [e2]
    show (a == i) = false
    have : a ≠ i := fun z => hno m h (by rw [h1, z])
    simpa using this
  refine ⟨.non, _, I.lset (its' := its.eraseIdx k) hH e ?_ (by rw [ZBi]; exact r.eraseIdx k) ?_, rfl, q⟩
  . show its.toArray.eraseIdxIfInBounds k = (its.eraseIdx k).toArray
    rw [List.eraseIdxIfInBounds_toArray]
  . have h1 := ZCt (ns.map V.int) k
    rw [ZBi]
    omega
end
end L2
namespace Po
abbrev Fr := Option (Nat × Nat)
abbrev W := Nat -> Nat -> Option Fr
abbrev Mt := Nat × Nat × Nat
def mid (f b : Nat) : Nat := f + (b - f + 1) / 2
theorem mid_lt {f b : Nat} (h : ¬ b - f < 2) : f < mid f b /\ mid f b < b := by unfold mid; omega
def mts (f b : Nat) : List Mt := if h : b - f < 2 then [] else mts f (mid f b) ++ mts (mid f b) b ++ [(f, mid f b, b)]
termination_by b - f
decreasing_by
  . have := mid_lt h; omega
  . have := mid_lt h; omega
theorem mts_leaf {f b : Nat} (h : b - f < 2) : mts f b = [] := by rw [mts, dif_pos h]
theorem mts_node {f b : Nat} (h : ¬ b - f < 2) : mts f b = mts f (mid f b) ++ mts (mid f b) b ++ [(f, mid f b, b)] := by rw [mts, dif_neg h]
theorem tree {P : Nat -> Nat -> Prop} (h1 : ∀ f b, b - f < 2 -> P f b) (h2 : ∀ f b, ¬ b - f < 2 -> P f (mid f b) -> P (mid f b) b -> P f b) (f b : Nat) : P f b := by
  suffices ∀ n f b, b - f <= n -> P f b from this _ f b (yAB _)
  intro n
  induction n with
  | zero => intro f b h; exact h1 f b (by omega)
  | succ n ih =>
    intro f b h
    by_cases z : b - f < 2
    . exact h1 f b z
    . have := mid_lt z
      exact h2 f b z (ih _ _ (by omega)) (ih _ _ (by omega))
theorem mts_len (f b : Nat) : (mts f b).length = b - f - 1 := by
  refine tree (P := fun f b => (mts f b).length = b - f - 1) (fun f b h => ?_) (fun f b h h1 h2 => ?_) f b
  . rw [mts_leaf h]; simp; omega
  . have := mid_lt h
    rw [mts_node h, yAD, yAD, h1, h2, yBN]
    omega
theorem mts_mem {a m c : Nat} (f b : Nat) : (a, m, c) ∈ mts f b -> m = mid a c /\ f <= a /\ c <= b /\ ¬ c - a < 2 := by
  refine tree (P := fun f b => (a, m, c) ∈ mts f b -> m = mid a c /\ f <= a /\ c <= b /\ ¬ c - a < 2) (fun f b h => ?_) (fun f b h h1 h2 => ?_) f b
  . rw [mts_leaf h]; intro z; cases z
  . have := mid_lt h
    rw [mts_node h]
    intro z
    rcases yBB.mp z with z | z
    . rcases yBB.mp z with z | z
      . have := h1 z; omega
      . have := h2 z; omega
    . cases yAK.mp z
      exact ⟨rfl, yAB _, yAB _, h⟩
def met (ah : Nat -> Nat -> Bool) : Fr -> Fr -> Fr
  | none, o => o
  | some x, none => some x
  | some x, some y => if ah x.1 y.1 = true then some x else some y
def put (w : W) (a c : Nat) (v : Fr) : W := fun a' c' => if a' = a /\ c' = c then some v else w a' c'
theorem met_some {ah : Nat -> Nat -> Bool} (x y : Fr) : (met ah x y).isSome = (x.isSome || y.isSome) := by
  cases x with
  | none => cases y <;> rfl
  | some x => cases y with
    | none => rfl
    | some y => show (if _ then _ else _ : Fr).isSome = true; split <;> rfl
def onWay (p : Nat) (m : Mt) : Bool := decide (m.1 <= p) && decide (p < m.2.2)
end Po
namespace Po
abbrev Asked := List (Nat × Nat × Bool)
def metB (b : Bool) (x y : Fr) : Fr := met (fun _ _ => b) x y
def maskB (b : Bool) : Fr -> Fr -> Asked
  | some x, some y => [(x.1, y.1, b)]
  | _, _ => []
theorem metB_some {b : Bool} (x y : Fr) : (metB b x y).isSome = (x.isSome || y.isSome) := met_some x y
theorem metB_or {b : Bool} {x y : Fr} {z : Nat × Nat} (h : metB b x y = some z) : x = some z ∨ y = some z := by
  cases x with
  | none => exact .inr h
  | some x => cases y with
    | none => exact .inl h
    | some y =>
      cases b with
      | true => exact .inl h
      | false => exact .inr h
theorem maskB_len {b : Bool} {x y : Fr} : (maskB b x y).length <= 1 := by
  cases x with
  | none => exact yAF _
  | some x => cases y with
    | none => exact yAF _
    | some y => exact yAB _
def Safe (ok : Fr -> Fr -> Prop) (G : W -> Asked -> Prop) : List Mt -> W -> Asked -> Prop
  | [], w, l => G w l
  | m :: r, w, l => ∃ x y, w m.1 m.2.1 = some x /\ w m.2.1 m.2.2 = some y /\ ok x y /\ ∀ b, Safe ok G r (put w m.1 m.2.2 (metB b x y)) (l ++ maskB b x y)
theorem Safe.mono {ok : Fr -> Fr -> Prop} {G G' : W -> Asked -> Prop} (hG : ∀ w l, G w l -> G' w l) : ∀ {ms : List Mt} {w : W} {l : Asked}, Safe ok G ms w l -> Safe ok G' ms w l
  | [], w, l, h => hG w l h
  | m :: r, w, l, ⟨x, y, h1, h2, h3, h4⟩ => ⟨x, y, h1, h2, h3, fun b => (h4 b).mono hG⟩
theorem Safe.app {ok : Fr -> Fr -> Prop} {G : W -> Asked -> Prop} {ns : List Mt} : ∀ {ms : List Mt} {w : W} {l : Asked}, Safe ok (fun w l => Safe ok G ns w l) ms w l -> Safe ok G (ms ++ ns) w l
  | [], w, l, h => h
  | m :: r, w, l, ⟨x, y, h1, h2, h3, h4⟩ => ⟨x, y, h1, h2, h3, fun b => (h4 b).app⟩
def Node (w : W) (m : Mt) : Prop := ∃ x y b, w m.1 m.2.1 = some x /\ w m.2.1 m.2.2 = some y /\ w m.1 m.2.2 = some (metB b x y)
structure RR (fr : Nat -> Fr) (w : W) (f b : Nat) : Prop where
  lf : ∀ i, f <= i -> i < b -> w i (i + 1) = some (fr i)
  nd : ∀ m ∈ mts f b, Node w m
theorem RR.left {fr : Nat -> Fr} {w : W} {f b : Nat} (h : RR fr w f b) (z : ¬ b - f < 2) : RR fr w f (mid f b) :=
  have hm := mid_lt z
  ⟨fun i a c => h.lf i a (by omega), fun m hm => h.nd m (by rw [mts_node z]; exact yBX _ (yBX _ hm))⟩
theorem RR.right {fr : Nat -> Fr} {w : W} {f b : Nat} (h : RR fr w f b) (z : ¬ b - f < 2) : RR fr w (mid f b) b :=
  have hm := mid_lt z
  ⟨fun i a c => h.lf i (by omega) c, fun m hm => h.nd m (by rw [mts_node z]; exact yBX _ (yAY _ hm))⟩
theorem RR.root {fr : Nat -> Fr} {w : W} {f b : Nat} (h : RR fr w f b) (z : ¬ b - f < 2) : Node w (f, mid f b, b) := h.nd _ (by rw [mts_node z]; exact yAY _ (yAK.mpr rfl))
theorem RR.top {fr : Nat -> Fr} {w : W} (f b : Nat) : f < b -> RR fr w f b -> ∃ v, w f b = some v /\ (∀ x, v = some x -> ∃ i, f <= i /\ i < b /\ fr i = some x) /\ (v = none -> ∀ i, f <= i -> i < b -> fr i = none) := by
  refine tree (P := fun f b => f < b -> RR fr w f b -> ∃ v, w f b = some v /\ (∀ x, v = some x -> ∃ i, f <= i /\ i < b /\ fr i = some x) /\ (v = none -> ∀ i, f <= i -> i < b -> fr i = none)) (fun f b h hf hR => ?_) (fun f b h i1 i2 hf hR => ?_) f b
  . have e : b = f + 1 := by omega
    subst e
    exact ⟨fr f, hR.lf f (yAB _) hf, fun x hx => ⟨f, yAB _, hf, hx⟩, fun hv i a c => by rw [show i = f by omega]; exact hv⟩
  . have hm := mid_lt h
    obtain ⟨v1, a1, a2, a3⟩ := i1 hm.1 (hR.left h)
    obtain ⟨v2, c1, c2, c3⟩ := i2 hm.2 (hR.right h)
    obtain ⟨x, y, bb, e1, e2, e3⟩ := hR.root h
    dsimp only at e1 e2 e3
    rw [a1] at e1
    rw [c1] at e2
    cases e1
    cases e2
    refine ⟨_, e3, fun z hz => ?_, fun hz i h1 h2 => ?_⟩
    . rcases metB_or hz with e | e
      . obtain ⟨i, p, q, r⟩ := a2 z e
        exact ⟨i, p, by omega, r⟩
      . obtain ⟨i, p, q, r⟩ := c2 z e
        exact ⟨i, by omega, q, r⟩
    . have hs := metB_some (b := bb) v1 v2
      rw [hz] at hs
      have n1 : v1 = none := by cases v1 with
        | none => rfl
        | some u => cases hs
      have n2 : v2 = none := by cases v2 with
        | none => rfl
        | some u => subst n1; cases hs
      by_cases hi : i < mid f b
      . exact a3 n1 i h1 hi
      . exact c3 n2 i (by omega) h2
def Fine (n : Nat) (x y : Fr) : Prop := ∀ p q, x = some p -> y = some q -> p.1 ≠ q.1 /\ p.1 < n /\ q.1 < n
def FineA (n : Nat) (e : Asked) : Prop := ∀ c ∈ e, c.1 ≠ c.2.1 /\ c.1 < n /\ c.2.1 < n
theorem maskB_fine {n : Nat} {b : Bool} {x y : Fr} (h : Fine n x y) : FineA n (maskB b x y) := fun c hc => by
  cases x with
  | none => cases hc
  | some x => cases y with
    | none => cases hc
    | some y => cases yAK.mp hc; exact h x y rfl rfl
theorem Node.keep {w w' : W} {m : Mt} (h : Node w m) (e1 : w' m.1 m.2.1 = w m.1 m.2.1) (e2 : w' m.2.1 m.2.2 = w m.2.1 m.2.2) (e3 : w' m.1 m.2.2 = w m.1 m.2.2) : Node w' m := by
  obtain ⟨x, y, b, a1, a2, a3⟩ := h
  exact ⟨x, y, b, by rw [e1]; exact a1, by rw [e2]; exact a2, by rw [e3]; exact a3⟩
theorem safe_runs {n : Nat} (D : Mt -> Bool) (hD : ∀ f b, D (f, mid f b, b) = false -> ∀ m ∈ mts f b, D m = false) (fr : Nat -> Fr) (hfr : ∀ i j, i ≠ j -> Fine n (fr i) (fr j)) (f b : Nat) : ∀ (w : W) (l : Asked), f < b -> (∀ i, f <= i -> i < b -> w i (i + 1) = some (fr i)) -> (∀ m ∈ mts f b, D m = false -> Node w m) ->
    Safe (Fine n) (fun w' l' => RR fr w' f b /\ (∀ a c, (c <= a + 1 ∨ a < f ∨ b < c) -> w' a c = w a c) /\ ∃ e, l' = l ++ e /\ e.length <= ((mts f b).filter D).length /\ FineA n e) ((mts f b).filter D) w l := by
  refine tree (P := fun f b => ∀ (w : W) (l : Asked), f < b -> (∀ i, f <= i -> i < b -> w i (i + 1) = some (fr i)) -> (∀ m ∈ mts f b, D m = false -> Node w m) ->
    Safe (Fine n) (fun w' l' => RR fr w' f b /\ (∀ a c, (c <= a + 1 ∨ a < f ∨ b < c) -> w' a c = w a c) /\ ∃ e, l' = l ++ e /\ e.length <= ((mts f b).filter D).length /\ FineA n e) ((mts f b).filter D) w l) (fun f b h w l hf hl hc => ?_) (fun f b h i1 i2 w l hf hl hc => ?_) f b
  . rw [mts_leaf h]
    exact ⟨⟨hl, fun m hm => by rw [mts_leaf h] at hm; cases hm⟩, fun _ _ _ => rfl, [], (yAZ _).symm, yAB _, fun c hc => by cases hc⟩
  by_cases hr : D (f, mid f b, b) = false
  . have e : (mts f b).filter D = [] := List.filter_eq_nil_iff.mpr fun m hm => by rw [hD f b hr m hm]; exact yAX
    rw [e]
    exact ⟨⟨hl, fun m hm => hc m hm (hD f b hr m hm)⟩, fun _ _ _ => rfl, [], (yAZ _).symm, yAB _, fun c hc => by cases hc⟩
  have hr : D (f, mid f b, b) = true := by simpa using hr
  have hm := mid_lt h
  have ef : (mts f b).filter D = ((mts f (mid f b)).filter D ++ (mts (mid f b) b).filter D) ++ [(f, mid f b, b)] := by
    rw [mts_node h, yBO, yBO, yBT hr, yCX]
  rw [mts_node h] at hc
  rw [ef]
  refine Safe.app (Safe.app ((i1 w l hm.1 (fun i a c => hl i a (by omega)) fun m z d => hc m (yBX _ (yBX _ z)) d).mono fun w1 l1 ⟨r1, k1, e1, el1, en1, ef1⟩ => ?_))
  refine (i2 w1 l1 hm.2 (fun i a c => by rw [k1 i (i + 1) (.inl (yAB _))]; exact hl i (by omega) c) fun m z d => by
    have g := mts_mem (a := m.1) (m := m.2.1) (c := m.2.2) _ _ z
    have g2 := mid_lt g.2.2.2
    exact (hc m (yBX _ (yAY _ z)) d).keep (k1 _ _ (by omega)) (k1 _ _ (by omega)) (k1 _ _ (by omega))).mono fun w2 l2 ⟨r2, k2, e2, el2, en2, ef2⟩ => ?_
  have r1' : RR fr w2 f (mid f b) := ⟨fun i a c => by rw [k2 i (i + 1) (.inl (yAB _))]; exact r1.lf i a c, fun m z => by
    have g := mts_mem (a := m.1) (m := m.2.1) (c := m.2.2) _ _ z
    have g2 := mid_lt g.2.2.2
    exact (r1.nd m z).keep (k2 _ _ (by omega)) (k2 _ _ (by omega)) (k2 _ _ (by omega))⟩
  obtain ⟨v1, a1, a2, _⟩ := RR.top f (mid f b) hm.1 r1'
  obtain ⟨v2, c1, c2, _⟩ := RR.top (mid f b) b hm.2 r2
  have hfine : Fine n v1 v2 := fun p q hp hq => by
    obtain ⟨i, p1, p2, p3⟩ := a2 p hp
    obtain ⟨j, q1, q2, q3⟩ := c2 q hq
    exact hfr i j (by omega) p q p3 q3
  refine ⟨v1, v2, a1, c1, hfine, fun bb => ⟨⟨fun i a c => ?_, fun m z => ?_⟩, fun a c z => ?_, e1 ++ e2 ++ maskB bb v1 v2, ?_, ?_, ?_⟩⟩
  . unfold put
    rw [if_neg (by dsimp only; omega), k2 _ _ (.inl (yAB _)), k1 _ _ (.inl (yAB _))]
    exact hl i a c
  . rw [mts_node h] at z
    have keep : ∀ a c, (a ≠ f ∨ c ≠ b) -> put w2 f b (metB bb v1 v2) a c = w2 a c := fun a c z => by unfold put; rw [if_neg (by omega)]
    rcases yBB.mp z with z | z
    . rcases yBB.mp z with z | z
      . have g := mts_mem (a := m.1) (m := m.2.1) (c := m.2.2) _ _ z
        have g2 := mid_lt g.2.2.2
        exact (r1'.nd m z).keep (keep _ _ (by omega)) (keep _ _ (by omega)) (keep _ _ (by omega))
      . have g := mts_mem (a := m.1) (m := m.2.1) (c := m.2.2) _ _ z
        have g2 := mid_lt g.2.2.2
        exact (r2.nd m z).keep (keep _ _ (by omega)) (keep _ _ (by omega)) (keep _ _ (by omega))
    . rw [yAK.mp z]
      refine ⟨v1, v2, bb, ?_, ?_, ?_⟩
      . show put w2 f b _ f (mid f b) = _
        rw [keep _ _ (by omega)]; exact a1
      . show put w2 f b _ (mid f b) b = _
        rw [keep _ _ (by omega)]; exact c1
      . show put w2 f b _ f b = _
        unfold put; rw [if_pos ⟨rfl, rfl⟩]
  . show put w2 f b _ a c = _
    unfold put
    rw [if_neg (by omega), k2 _ _ (by omega), k1 _ _ (by omega)]
  . rw [el2, el1, yBA, yBA, yBA]
  . have := maskB_len (b := bb) (x := v1) (y := v2)
    rw [yAD, yAD, yAD, yAD, yBN]
    omega
  . intro c hc'
    rcases yBB.mp hc' with z | z
    . rcases yBB.mp z with z | z
      . exact ef1 c z
      . exact ef2 c z
    . exact maskB_fine hfine c z
theorem onWay_out {i : Nat} : ∀ f b, onWay i (f, mid f b, b) = false -> ∀ m ∈ mts f b, onWay i m = false := fun f b h m hm => by
  have g := mts_mem (a := m.1) (m := m.2.1) (c := m.2.2) _ _ hm
  unfold onWay at *
  dsimp only at h
  by_cases z : m.1 <= i /\ i < m.2.2
  . rw [decide_eq_true (by omega : f <= i), decide_eq_true (by omega : i < b)] at h
    cases h
  . by_cases y : m.1 <= i
    . rw [decide_eq_false (show ¬ i < m.2.2 by omega), Bool.and_false]
    . rw [decide_eq_false y, Bool.false_and]
theorem safe_take {n N i : Nat} {fr fr' : Nat -> Fr} {w : W} (hi : i < N) (hR : RR fr w 0 N) (hf : ∀ j, j ≠ i -> fr' j = fr j) (hfr : ∀ i j, i ≠ j -> Fine n (fr' i) (fr' j)) :
    Safe (Fine n) (fun w' l' => RR fr' w' 0 N /\ l'.length <= ((mts 0 N).filter (onWay i)).length /\ FineA n l') ((mts 0 N).filter (onWay i)) (put w i (i + 1) (fr' i)) [] := by
  refine (safe_runs (onWay i) onWay_out fr' hfr 0 N _ [] (by omega) (fun j _ hj => ?_) fun m hm hd => ?_).mono fun w' l' ⟨h1, _, e, h2, h3, h4⟩ => ⟨h1, by rw [h2, yBP]; exact h3, by rw [h2, yBP]; exact h4⟩
  . unfold put
    by_cases z : j = i
    . rw [if_pos ⟨z, by rw [z]⟩, z]
    . rw [if_neg (by omega), hR.lf j (yAF _) hj, hf j z]
  . have g := mts_mem (a := m.1) (m := m.2.1) (c := m.2.2) _ _ hm
    have g2 := mid_lt g.2.2.2
    have hn : ¬ (m.1 <= i /\ i < m.2.2) := fun z => by
      unfold onWay at hd
      rw [decide_eq_true z.1, decide_eq_true z.2] at hd
      cases hd
    have keep : ∀ a c, (a ≠ i ∨ c ≠ i + 1) -> put w i (i + 1) (fr' i) a c = w a c := fun a c z => by unfold put; rw [if_neg (by omega)]
    exact (hR.nd m hm).keep (keep _ _ (by omega)) (keep _ _ (by omega)) (keep _ _ (by omega))
theorem safe_make {n N : Nat} {fr : Nat -> Fr} {w : W} (hw : ∀ i, i < N -> w i (i + 1) = some (fr i)) (hfr : ∀ i j, i ≠ j -> Fine n (fr i) (fr j)) :
    Safe (Fine n) (fun w' l' => (0 < N -> RR fr w' 0 N) /\ l'.length <= N - 1 /\ FineA n l') (mts 0 N) w [] := by
  by_cases hz : 0 < N
  . have h := safe_runs (fun _ => true) (fun _ _ z => by cases z) fr hfr 0 N w [] hz (fun i _ h => hw i h) fun m _ z => by cases z
    rw [List.filter_eq_self.mpr (fun _ _ => rfl)] at h
    refine h.mono fun w' l' ⟨h1, _, e, h2, h3, h4⟩ => ⟨fun _ => h1, by rw [h2, yBP]; rw [mts_len] at h3; omega, by rw [h2, yBP]; exact h4⟩
  . rw [mts_leaf (by omega)]
    exact ⟨fun z => absurd z hz, yAF _, fun c hc => by cases hc⟩
end Po
namespace Po
def Tr : List Mt -> W -> Asked -> W -> Prop
  | [], w, e, w' => e = [] /\ w' = w
  | m :: r, w, e, w' => ∃ x y b e', w m.1 m.2.1 = some x /\ w m.2.1 m.2.2 = some y /\ e = maskB b x y ++ e' /\ Tr r (put w m.1 m.2.2 (metB b x y)) e' w'
theorem Safe.tr {ok : Fr -> Fr -> Prop} {G : W -> Asked -> Prop} : ∀ {ms : List Mt} {w : W} {l : Asked}, Safe ok G ms w l -> Safe ok (fun w' l' => G w' l' /\ ∃ e, l' = l ++ e /\ Tr ms w e w') ms w l
  | [], w, l, h => ⟨h, [], (yAZ _).symm, rfl, rfl⟩
  | m :: r, w, l, ⟨x, y, h1, h2, h3, h4⟩ => ⟨x, y, h1, h2, h3, fun b => (h4 b).tr.mono fun w' l' ⟨g, e, he, tr⟩ => ⟨g, maskB b x y ++ e, by rw [he, yBA], x, y, b, e, h1, h2, rfl, tr⟩⟩
end Po
namespace Law
open PySem L2
local macro_rules | `(tactic| walk_at "o") => `(tactic| first | exact Or.inl rfl | exact Or.inr rfl)
local macro_rules | `(tactic| walk_at "rd") => `(tactic| ((try dsimp only [cx_K, ZEG, tDNewK, tDNotIn, tDIn, ZEs, ZEu, tChain, tForZ_eq, ZEn, tCompR2_eq, sFldAug_eq, cx_cloK, ZEH, ZCL, tForE_eq, tCompE_eq, tMaxD, tAug_eq, ipI_int, gSub, gCons_eq, gNil_eq, tSeq, tIfS, ZEm, tB, tOr, tAnd, tNot, tOp, tUn, tC, ZAg, ZDh, tMakeN, tVar_1, tVar_2, tVar_3, tVar_4, tVar_5, tVar_6, tVar_7, tVar_8, tVar_9, tVar_10, tVar_11, tVar_12, tVar_13, tVar_14, tVar_15, tVar_16, tVar_17, tVar_18, tVar_19, tVar_20, tVar_21, tVar_22, tVar_23, tVar_24, tVar_25, tVar_26, tVar_27, tVar_28, tVar_29, tVar_30, rI0_int, rI_int, rU_int, rEq_int, rNe_int, rEq_bl, rNe_bl, rEq_str, rNe_str, ex_bl, ex_int, tAsg, ZDv, tRet, tRetN, ZEr, ZEq, ZEE, ZEt, tOrV, ZEp, tIf, List.set_cons_zero, List.set_cons_succ, ZEd, ZD9, ZCT, tNil, List.cons_append, yBP, yAZ, tCB, tFld_eq, sFld_eq, tForL_eq, tForR1_eq, tForR2_eq, tCompL_eq, tCompR1_eq, tYes, tBM, tBM0, tLst, tTup, ZEF, true_and, tSl, ZEo, ZDg, decide_eq_true_eq, Bool.not_eq_true', decide_eq_false_iff_not, L2.start, yAP, List.map_nil, yAR, yCH, Nat.reduceAdd, Nat.reduceSub, yCK, yBJ, List.replicate_zero, List.replicate_succ, if_true, if_false, yCS, Bool.true_eq_false, Bool.not_true, Bool.not_false]); (try simp only [cx_K, ZEG, tDNewK, tDNotIn, tDIn, ZEs, ZEu, tChain, tForZ_eq, ZEn, tCompR2_eq, sFldAug_eq, cx_cloK, ZEH, ZCL, tForE_eq, tCompE_eq, tMaxD, tAug_eq, ipI_int, gSub, gCons_eq, gNil_eq, tSeq, tIfS, ZEm, tB, tOr, tAnd, tNot, tOp, tUn, tC, ZAg, ZDh, tMakeN, tVar_1, tVar_2, tVar_3, tVar_4, tVar_5, tVar_6, tVar_7, tVar_8, tVar_9, tVar_10, tVar_11, tVar_12, tVar_13, tVar_14, tVar_15, tVar_16, tVar_17, tVar_18, tVar_19, tVar_20, tVar_21, tVar_22, tVar_23, tVar_24, tVar_25, tVar_26, tVar_27, tVar_28, tVar_29, tVar_30, rI0_int, rI_int, rU_int, rEq_int, rNe_int, rEq_bl, rNe_bl, rEq_str, rNe_str, ex_bl, ex_int, tAsg, ZDv, tRet, tRetN, ZEr, ZEq, ZEE, ZEt, tOrV, ZEp, tIf, List.set_cons_zero, List.set_cons_succ, ZEd, ZD9, ZCT, tNil, List.cons_append, yBP, yAZ, tCB, tFld_eq, sFld_eq, tForL_eq, tForR1_eq, tForR2_eq, tCompL_eq, tCompR1_eq, tYes, tBM, tBM0, tLst, tTup, ZEF, true_and, tSl, ZEo, ZDg, decide_eq_true_eq, Bool.not_eq_true', decide_eq_false_iff_not, L2.start, yAP, List.map_nil, yAR, yCH, Nat.reduceAdd, Nat.reduceSub, yCK, yBJ, List.replicate_zero, List.replicate_succ, if_true, if_false, yCS, Bool.true_eq_false, Bool.not_true, Bool.not_false])))
local macro_rules | `(tactic| walk_at "up") => `(tactic| first | assumption | (refine Same.get (by assumption) ?_; walk_at "up"))
local macro_rules | `(tactic| walk_at "lk") => `(tactic| ((repeat (first | rw [lkc, if_pos rfl] | rw [lkc, if_neg (by decide +kernel)])); first | done | rfl))
def top (i : Nat) : Stmt := PySem.Challenge.pw_sorthall_k69_whole_asks_by_the_tree.main.body.getD i (.Pass ⟨0, 0, 0, 0⟩)
abbrev ZA0 : Stmt := top 2
abbrev ZBH : Stmt := ZA6 (top 3) 0
abbrev ZAo : Stmt := ZA6 (top 3) 1
abbrev ZAx : Stmt := ZA6 (top 3) 2
abbrev ZBQ : Stmt := ZA6 (top 3) 3
abbrev ZBI : Stmt := ZA6 (top 3) 4
abbrev ZBP : Stmt := ZA6 (top 3) 5
abbrev ZA7 : Stmt := ZA6 (top 3) 6
abbrev ZBF : Stmt := ZA6 (top 3) 7
abbrev ZBG : Stmt := ZA6 (top 3) 8
abbrev ZAc : Stmt := ZA6 (top 4) 0
abbrev ZAe : Stmt := ZA6 (top 4) 1
abbrev ZA8 : Stmt := ZA6 (top 9) 0
abbrev ZA1 : Stmt := ZA6 (top 9) 2
abbrev ZAk : Stmt := ZA6 (top 12) 0
abbrev ZAf : Stmt := ZA6 (top 12) 1
abbrev ZBd : Stmt := top 14
abbrev ZB5 : Stmt := top 15
abbrev ZB3 : Stmt := top 16
abbrev ZB6 : Stmt := top 17
abbrev ZB4 : Stmt := top 18
abbrev ZC7 : Stmt := top 19
abbrev ZDA : Stmt := top 20
abbrev ZBm : Stmt := top 21
abbrev ZCX : Stmt := top 22
abbrev ZCW : Stmt := top 23
abbrev ZC9 : Stmt := top 24
abbrev ZC8 : Stmt := top 25
abbrev ZB2 : Stmt := top 26
abbrev ZDJ : Stmt := top 27
theorem sc_meetings_of : FnScope ["first", "beyond", "middle"] ["first", "beyond"] (ZAC ZA0) := ⟨rfl, rfl, rfl, by decide +kernel, rfl, by decide +kernel, by decide +kernel⟩
theorem sc_Pour_init : FnScope ["self", "asker", "pieces", "piece"] ["self", "asker", "pieces"] (ZAC ZBH) := ⟨rfl, rfl, rfl, by decide +kernel, rfl, by decide +kernel, by decide +kernel⟩
theorem sc_Pour_front_of : FnScope ["self", "piece", "taken", "places"] ["self", "piece", "taken"] (ZAC ZAo) := ⟨rfl, rfl, rfl, by decide +kernel, rfl, by decide +kernel, by decide +kernel⟩
theorem sc_Pour_goes_on : FnScope ["self", "p", "q"] ["self", "p", "q"] (ZAC ZAx) := ⟨rfl, rfl, rfl, by decide +kernel, rfl, by decide +kernel, by decide +kernel⟩
theorem sc_Pour_met : FnScope ["self", "one", "other"] ["self", "one", "other"] (ZAC ZBQ) := ⟨rfl, rfl, rfl, by decide +kernel, rfl, by decide +kernel, by decide +kernel⟩
theorem sc_Pour_held : FnScope ["self", "meetings", "went_on", "told", "first", "middle", "beyond"] ["self", "meetings", "went_on"] (ZAC ZBI) := ⟨rfl, rfl, rfl, by decide +kernel, rfl, by decide +kernel, by decide +kernel⟩
theorem sc_Pour_top : FnScope ["self"] ["self"] (ZAC ZBP) := ⟨rfl, rfl, rfl, by decide +kernel, rfl, by decide +kernel, by decide +kernel⟩
theorem sc_Pour_first : FnScope ["self", "top"] ["self"] (ZAC ZA7) := ⟨rfl, rfl, rfl, by decide +kernel, rfl, by decide +kernel, by decide +kernel⟩
theorem sc_Pour_take : FnScope ["self", "top", "piece", "taken", "way", "went_on"] ["self"] (ZAC ZBF) := ⟨rfl, rfl, rfl, by decide +kernel, rfl, by decide +kernel, by decide +kernel⟩
theorem sc_Pour_left : FnScope ["self"] ["self"] (ZAC ZBG) := ⟨rfl, rfl, rfl, by decide +kernel, rfl, by decide +kernel, by decide +kernel⟩
theorem sc_LastPour_front_of : FnScope ["self", "piece", "taken", "places"] ["self", "piece", "taken"] (ZAC ZAc) := ⟨rfl, rfl, rfl, by decide +kernel, rfl, by decide +kernel, by decide +kernel⟩
theorem sc_LastPour_goes_on : FnScope ["self", "p", "q"] ["self", "p", "q"] (ZAC ZAe) := ⟨rfl, rfl, rfl, by decide +kernel, rfl, by decide +kernel, by decide +kernel⟩
theorem sc_Asker_init : FnScope ["self", "row", "rule", "most"] ["self", "row", "rule", "most"] (ZAC ZA8) := ⟨rfl, rfl, rfl, by decide +kernel, rfl, by decide +kernel, by decide +kernel⟩
theorem sc_Asker_ahead : FnScope ["self", "p", "q", "later", "earlier", "said"] ["self", "p", "q"] (ZAC ZA1) := ⟨rfl, rfl, rfl, by decide +kernel, rfl, by decide +kernel, by decide +kernel⟩
theorem sc_AskedRule_init : FnScope ["self", "teller"] ["self", "teller"] (ZAC ZAk) := ⟨rfl, rfl, rfl, by decide +kernel, rfl, by decide +kernel, by decide +kernel⟩
theorem sc_AskedRule_before : FnScope ["self", "x", "y", "teller"] ["self", "x", "y"] (ZAC ZAf) := ⟨rfl, rfl, rfl, by decide +kernel, rfl, by decide +kernel, by decide +kernel⟩
theorem sc_cell_at : FnScope ["_law_script", "_law_k"] ["_law_script", "_law_k"] (ZAC ZBd) := ⟨rfl, rfl, rfl, by decide +kernel, rfl, by decide +kernel, by decide +kernel⟩
theorem sc_digits : FnScope ["_law_script", "_law_k", "_law_base", "_law_spare_ones", "_law_found", "_law_cell", "_law_turn"] ["_law_script", "_law_k", "_law_base"] (ZAC ZB5) := ⟨rfl, rfl, rfl, by decide +kernel, rfl, by decide +kernel, by decide +kernel⟩
theorem sc_stream : FnScope ["_law_cell", "_law_many", "_law_found", "_law_number", "_law_k"] ["_law_cell", "_law_many"] (ZAC ZB3) := ⟨rfl, rfl, rfl, by decide +kernel, rfl, by decide +kernel, by decide +kernel⟩
theorem sc_blocks : FnScope ["_law_keys_here", "_law_cell", "_law_row", "_law_number", "_law_part"] ["_law_keys_here", "_law_cell"] (ZAC ZB6) := ⟨rfl, rfl, rfl, by decide +kernel, rfl, by decide +kernel, by decide +kernel⟩
theorem sc_nearly : FnScope ["_law_keys_here", "_law_cell", "_law_row", "_law_number", "_law_at", "_law_key"] ["_law_keys_here", "_law_cell"] (ZAC ZB4) := ⟨rfl, rfl, rfl, by decide +kernel, rfl, by decide +kernel, by decide +kernel⟩
theorem sc_keys : FnScope ["_law_script", "_law_most", "_law_mode", "_law_mix", "_law_width", "_law_keys_here", "_law_way"] ["_law_script", "_law_most"] (ZAC ZC7) := ⟨rfl, rfl, rfl, by decide +kernel, rfl, by decide +kernel, by decide +kernel⟩
theorem sc_bits : FnScope ["_law_script", "_law_mix"] ["_law_script", "_law_mix"] (ZAC ZDA) := ⟨rfl, rfl, rfl, by decide +kernel, rfl, by decide +kernel, by decide +kernel⟩
theorem sc_teller : FnScope ["_law_log", "_law_bits_here", "_law_teller_here"] ["_law_log", "_law_bits_here"] (ZAC ZBm) := ⟨rfl, rfl, rfl, by decide +kernel, rfl, by decide +kernel, by decide +kernel⟩
theorem sc_dealt : FnScope ["_law_keys_here", "_law_script", "_law_cell", "_law_mix", "_law_digits_here", "_law_many", "_law_pieces", "_law_some", "_law_place", "_law_number"] ["_law_keys_here", "_law_script"] (ZAC ZCX) := ⟨rfl, rfl, rfl, by decide +kernel, rfl, by decide +kernel, by decide +kernel⟩
theorem sc_spans : FnScope ["_law_low", "_law_high", "_law_middle"] ["_law_low", "_law_high"] (ZAC ZCW) := ⟨rfl, rfl, rfl, by decide +kernel, rfl, by decide +kernel, by decide +kernel⟩
theorem sc_from : FnScope ["_law_won", "_law_rest", "_law_low", "_law_high", "_law_last"] ["_law_won", "_law_rest", "_law_low", "_law_high", "_law_last"] (ZAC ZC9) := ⟨rfl, rfl, rfl, by decide +kernel, rfl, by decide +kernel, by decide +kernel⟩
theorem sc_held : FnScope ["_law_asks", "_law_spans_here", "_law_won", "_law_rest", "_law_last", "_law_at", "_law_low", "_law_high", "_law_middle", "_law_one", "_law_other"] ["_law_asks", "_law_spans_here", "_law_won", "_law_rest", "_law_last"] (ZAC ZC8) := ⟨rfl, rfl, rfl, by decide +kernel, rfl, by decide +kernel, by decide +kernel⟩
theorem sc_walked : FnScope ["_law_pour", "_law_log", "_law_spans_here", "_law_rest", "_law_last", "_law_won", "_law_turn", "_law_top", "_law_made", "_law_number", "_law_way"] ["_law_pour", "_law_log", "_law_spans_here", "_law_rest", "_law_last"] (ZAC ZB2) := ⟨rfl, rfl, rfl, by decide +kernel, rfl, by decide +kernel, by decide +kernel⟩
theorem sc_law : FnScope ["_law_script", "_law_keys_here", "_law_mix", "_law_pieces", "_law_bits_here", "_law_log", "_law_asker", "_law_last", "_law_pour", "_law_spans_here"] ["_law_script"] (ZAC ZDJ) := ⟨rfl, rfl, rfl, by decide +kernel, rfl, by decide +kernel, by decide +kernel⟩
abbrev ZAM : Stmt := inBody ZBm 0
theorem csc_teller : CloScope ["_law_x", "_law_y", "_law_said", "_law_bits_here", "_law_log"] ["_law_x", "_law_y"] ["_law_bits_here", "_law_log"] (ZAC ZAM) := ⟨rfl, rfl, rfl, by decide +kernel, rfl, rfl, by decide, by decide +kernel, by decide +kernel, by decide +kernel, fun x h => (show ∀ y ∈ (ZAC ZAM).names, y.2 = .free -> y.1 ∈ (["_law_bits_here", "_law_log"] : List Str) by decide +kernel) _ (PySem.mem_of_lookup h) rfl⟩
structure Bt (K : W.Frag) (mg : Str -> Option Value) (C_Pour C_LastPour C_Asker C_AskedRule : Addr) : Prop where
  b_len : mg "len" = none
  b_range : mg "range" = none
  b_list : mg "list" = none
  b_max : mg "max" = none
  b_min : mg "min" = none
  b_sum : mg "sum" = none
  b_sorted : mg "sorted" = none
  b_reversed : mg "reversed" = none
  b_enumerate : mg "enumerate" = none
  b_dict : mg "dict" = none
  b_ValueError : mg "ValueError" = none
  m_Pour : mg "Pour" = some (.ref C_Pour)
  cl_Pour : Cls K C_Pour
  n_Pour_asker : NoAttr K C_Pour "asker"
  n_Pour_pieces : NoAttr K C_Pour "pieces"
  n_Pour_taken : NoAttr K C_Pour "taken"
  n_Pour_meetings : NoAttr K C_Pour "meetings"
  n_Pour_went_on : NoAttr K C_Pour "went_on"
  m_LastPour : mg "LastPour" = some (.ref C_LastPour)
  cl_LastPour : Cls K C_LastPour
  n_LastPour_asker : NoAttr K C_LastPour "asker"
  n_LastPour_pieces : NoAttr K C_LastPour "pieces"
  n_LastPour_taken : NoAttr K C_LastPour "taken"
  n_LastPour_meetings : NoAttr K C_LastPour "meetings"
  n_LastPour_went_on : NoAttr K C_LastPour "went_on"
  m_Asker : mg "Asker" = some (.ref C_Asker)
  cl_Asker : Cls K C_Asker
  n_Asker_row : NoAttr K C_Asker "row"
  n_Asker_rule : NoAttr K C_Asker "rule"
  n_Asker_most : NoAttr K C_Asker "most"
  n_Asker_asked : NoAttr K C_Asker "asked"
  n_Asker_told : NoAttr K C_Asker "told"
  m_AskedRule : mg "AskedRule" = some (.ref C_AskedRule)
  cl_AskedRule : Cls K C_AskedRule
  n_AskedRule_teller : NoAttr K C_AskedRule "teller"
  kit_int_bool : PySem.W.kitOne K (.type "int") (.type "bool") = some false
structure BtX (K : W.Frag) (C_PX : Addr) : Prop where
  cl_PX : Cls K C_PX
  n_PX_asker : NoAttr K C_PX "asker"
  n_PX_pieces : NoAttr K C_PX "pieces"
  n_PX_taken : NoAttr K C_PX "taken"
  n_PX_meetings : NoAttr K C_PX "meetings"
  n_PX_went_on : NoAttr K C_PX "went_on"
def cellOf (ns : List Int) (k : Int) : Int := if k < (ns.length : Int) then (ns[k.toNat]?).getD 0 else 0
def ZCp (K : W.Frag) : Sp := fun vs H Q _ => ∃ (a : Addr) (ns : List Int) (k : Int), vs = [.ref a, .int k] /\ SqL K H a (ns.map V.int) /\ 0 <= k /\ Q (.int (cellOf ns k)) H
def ZBS : Sp := fun vs H Q _ => ∃ (c m : Int), vs = [.int c, .int m] /\ 0 <= m /\ m <= 900 /\ ∀ l H' (zs : List Int), Same H H' -> H l = none -> H' l = some (.lst (zs.map V.int)) -> (zs.length : Int) = m -> (∀ z ∈ zs, 0 <= z /\ z < 2 ^ 31) -> Q (.ref l) H'
def ZBl : Sp := fun vs H Q _ => ∃ (a : Addr) (ks : List Int) (c : Int), vs = [.ref a, .int c] /\ H a = some (.lst (ks.map V.int)) /\ ks.length <= 63 /\ ∀ l H' (zs : List Int), Same H H' -> H l = none -> H' l = some (.lst (zs.map V.int)) -> zs.length <= 63 -> Q (.ref l) H'
def ZEK (K : W.Frag) : Sp := fun vs H Q _ => ∃ (a : Addr) (ns : List Int), vs = [.ref a, .int 60] /\ SqL K H a (ns.map V.int) /\ ns.length <= 63 /\ ∀ l H' (zs : List Int), Same H H' -> H l = none -> H' l = some (.lst (zs.map V.int)) -> zs.length <= 119 -> Q (.ref l) H'
def ZCN (K : W.Frag) : Sp := fun vs H Q _ => ∃ (a : Addr) (ns : List Int) (k b : Int), vs = [.ref a, .int k, .int b] /\ SqL K H a (ns.map V.int) /\ ns.length <= 63 /\ 0 <= k /\ 0 < b /\ b <= 1000 /\ ∀ l H' (zs : List Int), Same H H' -> H l = none -> H' l = some (.lst (zs.map V.int)) -> zs.length = 120 -> (∀ z ∈ zs, 0 <= z /\ z < b) -> Q (.ref l) H'
theorem ZEL {n : Nat} (h : n <= 90000) : n < sizeLine := Nat.lt_of_le_of_lt h (by decide)
abbrev fA (rl ru : Addr) (m : V) (n : Int) (tl : Addr) : List (Str × V) := [("told", .ref tl), ("asked", .int n), ("most", m), ("rule", .ref ru), ("row", .ref rl)]
abbrev fR (g : Addr) : List (Str × V) := [("teller", .ref g)]
def ZCF (CA : Addr) : Sp := fun vs H Q _ => ∃ (x dx r : Addr) (ru : Addr) (m : V) (xs : List V), vs = [.ref x, .ref r, .ref ru, m] /\ H x = some (.ins CA dx []) /\ H r = some (.lst xs) /\
  ∀ rl tl H', (∀ b o, b ≠ x -> H b = some o -> H' b = some o) -> H rl = none -> H tl = none -> rl ≠ tl -> Ins H' x CA (fA rl ru m 0 tl) -> H' rl = some (.lst xs) -> H' tl = some (.lst []) -> Q .non H'
def ZCV (CR : Addr) : Sp := fun vs H Q _ => ∃ (x dx g : Addr), vs = [.ref x, .ref g] /\ H x = some (.ins CR dx []) /\ ∀ H', (∀ b o, b ≠ x -> H b = some o -> H' b = some o) -> Ins H' x CR (fR g) -> Q .non H'
def ZCg (CR : Addr) (r : V -> List V -> Hp -> VK -> Prop) : Sp := fun vs H Q _ => ∃ (ru g : Addr) (x y : V), vs = [.ref ru, x, y] /\ Ins H ru CR (fR g) /\ (∃ o, H g = some (FZ o) /\ ∃ fd, o.data = .func fd) /\ r (.ref g) [x, y] H Q
def ZCq (CA CR : Addr) (r : V -> List V -> Hp -> VK -> Prop) : Sp := fun vs H Q _ => ∃ (a rl ru tl : Addr) (n p q : Int) (xs ts : List V) (x y : V), vs = [.ref a, .int p, .int q] /\ Ins H a CA (fA rl ru .non n tl) /\ H rl = some (.lst xs) /\ p ≠ q /\ 0 <= p /\ 0 <= q /\
  xs[(max p q).toNat]? = some x /\ xs[(min p q).toNat]? = some y /\ ZCg CR r [.ref ru, x, y] H (fun v H1 => ∃ b, v = .bl b /\ Ins H1 a CA (fA rl ru .non n tl) /\ H1 tl = some (.lst ts) /\ ts.length <= 90000 /\
    ∀ t H2, H1 t = none -> Ins H2 a CA (fA rl ru .non (n + 1) tl) -> H2 tl = some (.lst (ts ++ [.ref t])) -> H2 t = some (.tup [.int (max p q), .int (min p q), .bl b]) -> (∀ c, c ≠ a -> c ≠ tl -> c ≠ t -> H2 c = H1 c) -> Q (.bl (if q < p then b else !b)) H2) E0
theorem fA_canon {rl ru tl : Addr} {m : V} {n : Int} : ∀ f, (putF "told" (.ref tl) (putF "asked" (.int n) (putF "most" m (putF "rule" (.ref ru) (putF "row" (.ref rl) []))))).lookup f = (fA rl ru m n tl).lookup f := fun f => by
  simp only [ZAa, lkc]
theorem fA_asked {rl ru tl : Addr} {m : V} {n k : Int} : ∀ f, (putF "asked" (.int k) (fA rl ru m n tl)).lookup f = (fA rl ru m k tl).lookup f := fun f => by
  rw [ZAa]
  by_cases h : f = ("asked" : Str)
  . subst h
    rw [if_pos rfl]
    exact (show List.lookup _ (fA rl ru m k tl) = some (.int k) by walk_at "lk").symm
  . simp only [lkc, h, if_false]
def kat (ks : List Int) (p : Nat) : Int := (ks[p]?).getD 0
theorem ZCR {H H' : Hp} {S : List Addr} {a C : Addr} {fl : List (Str × V)} (e : Fr S H H') (n : a ∉ S) (h : Ins H a C fl) : Ins H' a C fl := let ⟨dx, fs, h1, h2, h3⟩ := h.ex; ⟨dx, fs, e _ _ n h1, h2, h3⟩
def rTO (iname iq : Str) (ip : Arguments) (ib : List Stmt) (isc : Scope) (fr : List Str) : V -> List V -> Hp -> VK -> Prop := fun f vs H Q => ∃ (g x y lg bl : Addr) (k k' : Int) (i j : Nat) (bs : List Int) (ws : List V), f = .ref g /\ vs = [.ref x, .ref y] /\ Clo H g iname iq ip ib isc fr [.ref bl, .ref lg] /\ H bl = some (.lst (bs.map V.int)) /\ bs.length <= 1000 /\ H x = some (.tup [.int k, .int i]) /\ H y = some (.tup [.int k', .int j]) /\ i <= 1000 /\ j <= 1000 /\ H lg = some (.lst ws) /\ ws.length <= 90000 /\
  ∀ H1 t b, Same H H1 -> H1 t = none -> Q (.bl b) (upd (upd H1 t (.tup [.int i, .int j, .bl b])) lg (.lst (ws ++ [.ref t])))
theorem rTO_mono {iname iq : Str} {ip : Arguments} {ib : List Stmt} {isc : Scope} {fr : List Str} {f : V} {vs : List V} {H : Hp} {Q Q' : VK} (m : ∀ v H, Q v H -> Q' v H) (h : rTO iname iq ip ib isc fr f vs H Q) : rTO iname iq ip ib isc fr f vs H Q' :=
  let ⟨g, x, y, lg, bl, k, k', i, j, bs, ws, e1, e2, h1, h2, h4, h5, h6, h7, h8, h9, h10, q⟩ := h; ⟨g, x, y, lg, bl, k, k', i, j, bs, ws, e1, e2, h1, h2, h4, h5, h6, h7, h8, h9, h10, fun H1 t b s ht => m _ _ (q H1 t b s ht)⟩
abbrev ZBB : V -> List V -> Hp -> VK -> Prop := rTO "_law_teller_here" "_law_teller.<locals>._law_teller_here" (ZAQ ZAM) (ZAL ZAM) (ZAC ZAM) ["_law_bits_here", "_law_log"]
theorem rT_mono {f : V} {vs : List V} {H : Hp} {Q Q' : VK} (m : ∀ v H, Q v H -> Q' v H) (h : ZBB f vs H Q) : ZBB f vs H Q' := rTO_mono m h
def TlO (H : Hp) (g lg bl : Addr) : Prop := Clo H g "_law_teller_here" "_law_teller.<locals>._law_teller_here" (ZAQ ZAM) (ZAL ZAM) (ZAC ZAM) ["_law_bits_here", "_law_log"] [.ref bl, .ref lg]
theorem TlO.mono {H H' : Hp} {g lg bl : Addr} (e : ZDc H H') (h : TlO H g lg bl) : TlO H' g lg bl := Clo.mono e h
theorem TlO.fn {H : Hp} {g lg bl : Addr} (h : TlO H g lg bl) : ∃ o, H g = some (FZ o) /\ ∃ fd, o.data = .func fd := by
  obtain ⟨cl, C⟩ := h
  obtain ⟨d1, d2, d3, d4, ho, _⟩ := C.obj
  exact ⟨_, ho, _, rfl⟩
theorem TlO.tells {H : Hp} {g lg bl : Addr} (h : TlO H g lg bl) {Q : VK} {x y : Addr} {k k' : Int} {i j : Nat} {bs : List Int} {ws : List V} (h2 : H bl = some (.lst (bs.map V.int))) (h4 : bs.length <= 1000) (h5 : H x = some (.tup [.int k, .int i])) (h6 : H y = some (.tup [.int k', .int j])) (h7 : i <= 1000) (h8 : j <= 1000) (h9 : H lg = some (.lst ws)) (h10 : ws.length <= 90000)
    (q : ∀ H1 t b, Same H H1 -> H1 t = none -> Q (.bl b) (upd (upd H1 t (.tup [.int i, .int j, .bl b])) lg (.lst (ws ++ [.ref t])))) : ZBB (.ref g) [.ref x, .ref y] H Q :=
  ⟨g, x, y, lg, bl, k, k', i, j, bs, ws, rfl, rfl, h, h2, h4, h5, h6, h7, h8, h9, h10, q⟩
theorem back_same {cl : List (Str × Addr)} {H H0 : Hp} (s : Same (hid cl H) H0) : Same H (back cl H H0) := fun b o h => by
  by_cases q : ∃ x, cl.lookup x = some b
  . obtain ⟨x, q⟩ := q; rw [ZDE q]; exact h
  . rw [ZBv q]; exact s b o (by rw [ZC6 q]; exact h)
structure ToldO (H : Hp) (pr : List (Nat × Nat × Bool)) (ts : List V) : Prop where
  len : ts.length = pr.length
  get : ∀ (j p q : Nat) (b : Bool), pr[j]? = some (p, q, b) -> ∃ t, ts[j]? = some (V.ref t) /\ H t = some (.tup [.int p, .int q, .bl b])
theorem ToldO.keep {H H' : Hp} {pr : List (Nat × Nat × Bool)} {ts : List V} (e : ∀ t x, H t = some (.tup x) -> H' t = some (.tup x)) (h : ToldO H pr ts) : ToldO H' pr ts :=
  ⟨h.len, fun j p q b hj => let ⟨t, a, b⟩ := h.get j p q b hj; ⟨t, a, e _ _ b⟩⟩
theorem ToldO.snoc {H : Hp} {pr : List (Nat × Nat × Bool)} {ts : List V} {p q : Nat} {b : Bool} {t : Addr} (h : ToldO H pr ts) (ht : H t = some (.tup [.int p, .int q, .bl b])) : ToldO H (pr ++ [(p, q, b)]) (ts ++ [.ref t]) := by
  refine ⟨by rw [yAD, yAD, h.len]; rfl, fun j p' q' b' hj => ?_⟩
  by_cases hl : j < pr.length
  . rw [yAV hl] at hj
    obtain ⟨t', a, b⟩ := h.get j p' q' b' hj
    exact ⟨t', by rw [yAV (by rw [h.len]; exact hl)]; exact a, b⟩
  . have e := (yAJ.mp hj).1
    rw [yAD] at e
    have hj' : j = pr.length := by have : ([(p, q, b)] : List (Nat × Nat × Bool)).length = 1 := rfl; omega
    subst hj'
    rw [yAU (yAB _), yBJ] at hj
    cases hj
    exact ⟨t, by rw [<- h.len, yAU (yAB _), yBJ]; rfl, ht⟩
structure SitO (CA CR : Addr) (H : Hp) (ks : List Int) (xs : List V) (a rl ru tl g lg bl : Addr) (pr : List (Nat × Nat × Bool)) : Prop where
  ha : Ins H a CA (fA rl ru .non pr.length tl)
  hrl : H rl = some (.lst xs)
  hru : Ins H ru CR (fR g)
  clo : TlO H g lg bl
  hbl : ∃ bs : List Int, H bl = some (.lst (bs.map V.int)) /\ bs.length <= 1000
  len : xs.length = ks.length
  row : ∀ (i : Nat) k, ks[i]? = some k -> ∃ r, xs[i]? = some (V.ref r) /\ H r = some (.tup [.int k, .int i])
  hlg : ∃ ws, H lg = some (.lst ws) /\ ToldO H pr ws
  htl : ∃ ts, H tl = some (.lst ts) /\ ToldO H pr ts
  ne : lg ≠ tl /\ rl ∉ [a, lg, tl] /\ ru ≠ a /\ bl ∉ [a, lg, tl]
section
variable {CA CR : Addr} {H H' : Hp} {ks : List Int} {xs : List V} {a rl ru tl g lg bl : Addr} {pr : List (Nat × Nat × Bool)}
theorem SitO.tupS (h : SitO CA CR H ks xs a rl ru tl g lg bl pr) {b : Addr} {o : HO} (hb : H b = some o) (n1 : ∀ x, o ≠ .lst x) (n2 : ∀ C d f, o ≠ .ins C d f) : b ∉ [a, lg, tl] := by
  obtain ⟨ws, hlg, _⟩ := h.hlg
  obtain ⟨ts, htl, _⟩ := h.htl
  intro z
  rcases yAH.mp z with z | z
  . exact h.ha.ne hb n2 z
  rcases yAH.mp z with z | z
  . rw [z, hlg] at hb; exact n1 _ (Option.some.inj hb).symm
  . rw [yAK.mp z, htl] at hb; exact n1 _ (Option.some.inj hb).symm
theorem SitO.ruS (h : SitO CA CR H ks xs a rl ru tl g lg bl pr) : ru ∉ [a, lg, tl] := by
  obtain ⟨ws, hlg, _⟩ := h.hlg
  obtain ⟨ts, htl, _⟩ := h.htl
  obtain ⟨d1, f1, e1, _⟩ := h.hru.ex
  intro z
  rcases yAH.mp z with z | z
  . exact h.ne.2.2.1 z
  rcases yAH.mp z with z | z
  . rw [z, hlg] at e1; cases e1
  . rw [yAK.mp z, htl] at e1; cases e1
theorem SitO.keep (h : SitO CA CR H ks xs a rl ru tl g lg bl pr) (e : Fr [a, lg, tl] H H') {pr' : List (Nat × Nat × Bool)} {ts' ws' : List V} (h1 : Ins H' a CA (fA rl ru .non pr'.length tl)) (h2 : H' tl = some (.lst ts')) (h3 : ToldO H' pr' ts') (h4 : H' lg = some (.lst ws')) (h5 : ToldO H' pr' ws') : SitO CA CR H' ks xs a rl ru tl g lg bl pr' where
  ha := h1
  hrl := e _ _ h.ne.2.1 h.hrl
  hru := ZCR e h.ruS h.hru
  clo := h.clo.mono fun b o hb => e _ _ (h.tupS hb (fun _ z => by cases z) (fun _ _ _ z => by cases z)) hb
  hbl := let ⟨bs, e1, e2⟩ := h.hbl; ⟨bs, e _ _ h.ne.2.2.2 e1, e2⟩
  len := h.len
  row := fun i k hk => let ⟨r, a1, a2⟩ := h.row i k hk; ⟨r, a1, e _ _ (h.tupS a2 (fun _ z => by cases z) (fun _ _ _ z => by cases z)) a2⟩
  hlg := ⟨_, h4, h5⟩
  htl := ⟨_, h2, h3⟩
  ne := h.ne
theorem SitO.mono (h : SitO CA CR H ks xs a rl ru tl g lg bl pr) (e : Same H H') : SitO CA CR H' ks xs a rl ru tl g lg bl pr :=
  let ⟨_, h2, h3⟩ := h.htl; let ⟨_, h4, h5⟩ := h.hlg; h.keep e.fr (h.ha.mono e) (e _ _ h2) (h3.keep fun _ _ z => e _ _ z) (e _ _ h4) (h5.keep fun _ _ z => e _ _ z)
theorem SitO.ahead (h : SitO CA CR H ks xs a rl ru tl g lg bl pr) {p q : Nat} (hpq : p ≠ q) (hp : p < ks.length) (hq : q < ks.length) (hk : ks.length <= 1000) (hpr : pr.length <= 80000) {Q : VK}
    (fin : ∀ b H', Fr [a, lg, tl] H H' -> SitO CA CR H' ks xs a rl ru tl g lg bl (pr ++ [(max p q, min p q, b)]) -> Q (.bl (if q < p then b else !b)) H') : ZCq CA CR ZBB [.ref a, .int p, .int q] H Q E0 := by
  obtain ⟨ws, hlg, hws⟩ := h.hlg
  obtain ⟨ts, htl, hts⟩ := h.htl
  have hmx : max p q < ks.length := by omega
  have hmn : min p q < ks.length := by omega
  obtain ⟨x, hx, tx⟩ := h.row (max p q) _ (yAC hmx)
  obtain ⟨y, hy, ty⟩ := h.row (min p q) _ (yAC hmn)
  have emx : (max (p : Int) q).toNat = max p q := by omega
  have emn : (min (p : Int) q).toNat = min p q := by omega
  refine ⟨a, rl, ru, tl, pr.length, p, q, xs, ts, .ref x, .ref y, rfl, h.ha, h.hrl, by omega, by omega, by omega, by rw [emx]; exact hx, by rw [emn]; exact hy, ?_⟩
  obtain ⟨bs, hbs, hbz⟩ := h.hbl
  refine ⟨ru, g, .ref x, .ref y, rfl, h.hru, h.clo.fn, ?_⟩
  refine h.clo.tells hbs hbz tx ty (by omega) (by omega) hlg (by rw [hws.len]; omega) fun H1 t b s1 ht => ?_
  clear tx ty
  replace hlg := s1 _ _ hlg
  replace htl := s1 _ _ htl
  replace hws := hws.keep (H' := H1) fun _ _ z => s1 _ _ z
  replace hts := hts.keep (H' := H1) fun _ _ z => s1 _ _ z
  replace fin : ∀ b H', Fr [a, lg, tl] H1 H' -> SitO CA CR H' ks xs a rl ru tl g lg bl (pr ++ [(max p q, min p q, b)]) -> Q (.bl (if q < p then b else !b)) H' := fun b H' f => fin b H' (s1.fr.trans f)
  replace h := h.mono s1
  have nta : t ≠ a := h.ha.neN ht
  have ntg : lg ≠ t := ZAE hlg ht
  have ntl : tl ≠ t := ZAE htl ht
  have nlg : lg ≠ tl := h.ne.1
  have nga : lg ≠ a := h.ha.ne hlg fun _ _ _ z => by cases z
  refine ⟨_, rfl, h.ha.keep (by rw [ZAI (Ne.symm nga), ZAI (Ne.symm nta)]), by rw [ZAI (Ne.symm nlg), ZAI ntl]; exact htl, by rw [hts.len]; omega, fun t2 H2 hn2 ha2 htl2 ht2 k2 => ?_⟩
  have n2l : t2 ≠ lg := fun z => by rw [z, ZAG] at hn2; cases hn2
  have n2t : t2 ≠ t := fun z => by rw [z, ZAI (Ne.symm ntg), ZAG] at hn2; cases hn2
  have fr : Fr [a, lg, tl] H1 H2 := fun c o n hb => by
    have m1 : c ≠ a := fun z => n (by rw [z]; exact yAI)
    have m2 : c ≠ lg := fun z => n (by rw [z]; exact yAS _ yAI)
    have m3 : c ≠ tl := fun z => n (by rw [z]; exact yAS _ (yAS _ yAI))
    have e1 : (upd (upd H1 t (.tup [.int ((max p q : Nat) : Int), .int ((min p q : Nat) : Int), .bl (b)])) lg (.lst (ws ++ [.ref t]))) c = some o := by rw [ZAI m2, ZAI (ZAE hb ht)]; exact hb
    rw [k2 c m1 m3 (ZAE e1 hn2)]
    exact e1
  have tk : ∀ b x, H1 b = some (.tup x) -> H2 b = some (.tup x) := fun b x hb => fr _ _ (h.tupS hb (fun _ z => by cases z) (fun _ _ _ z => by cases z)) hb
  have hlg2 : H2 lg = some (.lst (ws ++ [.ref t])) := by rw [k2 lg nga nlg (Ne.symm n2l), ZAG]
  have ht' : H2 t = some (.tup [.int ((max p q : Nat) : Int), .int ((min p q : Nat) : Int), .bl (b)]) := by rw [k2 t nta (Ne.symm ntl) (Ne.symm n2t), ZAI (Ne.symm ntg), ZAG]
  have ht2' : H2 t2 = some (.tup [.int ((max p q : Nat) : Int), .int ((min p q : Nat) : Int), .bl (b)]) := by
    rw [show (((max p q : Nat) : Int)) = max (p : Int) q by omega, show (((min p q : Nat) : Int)) = min (p : Int) q by omega]
    exact ht2
  have st := h.keep fr (pr' := pr ++ [(max p q, min p q, b)]) (by rw [yAD]; exact ha2) htl2 ((hts.keep tk).snoc ht2') hlg2 ((hws.keep tk).snoc ht')
  have g' := fin b H2 fr st
  by_cases hlt : q < p
  . rw [if_pos hlt] at g'
    rw [if_pos (by omega)]
    exact g'
  . rw [if_neg hlt] at g'
    rw [if_neg (by omega)]
    exact g'
end
abbrev nL (l : List Nat) : List V := l.map fun (x : Nat) => V.int (x : Int)
theorem ZDo (l : List Nat) : nL l = (l.map fun (x : Nat) => (x : Int)).map V.int := by rw [List.map_map]; rfl
def lx (ks : List Int) (x y : Nat) : Prop := kat ks x < kat ks y ∨ (kat ks x = kat ks y /\ x < y)
theorem sqL_fr {K : W.Frag} {H H' : Hp} {S : List Addr} {a : Addr} {xs : List V} (e : Fr S H H') (n : ∀ o, (∀ t, o ≠ .tbl t) -> H a = some o -> a ∉ S) (h : SqL K H a xs) : SqL K H' a xs := by
  rcases h with (h | ⟨o, h⟩) | h
  . exact .inl (.inl (e _ _ (n _ (fun _ z => by cases z) h) h))
  . exact .inl (.inr ⟨o, e _ _ (n _ (fun _ z => by cases z) h) h⟩)
  . exact .inr h
theorem ZE3 {a lg tl b : Addr} (n1 : b ≠ a) (n2 : b ≠ lg) (n3 : b ≠ tl) : b ∉ [a, lg, tl] := fun z => by
  rcases yAH.mp z with z | z
  . exact n1 z
  rcases yAH.mp z with z | z
  . exact n2 z
  . exact n3 (yAK.mp z)
theorem lx_asym {ks : List Int} {x y : Nat} (a : lx ks x y) : ¬ lx ks y x := by unfold lx at *; omega
instance (ks : List Int) (x y : Nat) : Decidable (lx ks x y) := by unfold lx; exact inferInstance
def rv (bb : Bool) (xs : List Nat) : List Nat := cond bb xs.reverse xs
theorem ZD1 (bb : Bool) (xs : List Nat) : (rv bb xs).length = xs.length := by cases bb; rfl; exact yBZ
abbrev fP (ak pl tk ml wd : Addr) : List (Str × V) := [("went_on", .ref wd), ("meetings", .ref ml), ("taken", .ref tk), ("pieces", .ref pl), ("asker", .ref ak)]
theorem ZEY {os : List Nat} {m o : Nat} (h : os[m]? = some o) : atI (nL os) (m : Int) = some (.int o) := ZAb (by omega) (by rw [Int.toNat_natCast, yAG, h]; rfl)
abbrev kQ (p q : Nat) : List Key := [Sum.inl (p : Int), Sum.inl (q : Int)]
theorem kQ_inj {p q p' q' : Nat} (h : kQ p q = kQ p' q') : p = p' /\ q = q' := by
  injection h with h1 h2
  injection h2 with h2 _
  injection h1 with h1
  injection h2 with h2
  omega
def mxo (bb : Bool) (c : Nat × Nat × Bool) : Nat × Nat × Bool := (max c.1 c.2.1, min c.1 c.2.1, if c.2.1 < c.1 then (c.2.2 != bb) else !(c.2.2 != bb))
theorem mxo_f {x y : Nat} {b : Bool} : mxo false (x, y, if y < x then b else !b) = (max x y, min x y, b) := by
  unfold mxo
  dsimp only
  by_cases h : y < x
  . rw [if_pos h, if_pos h]; cases b <;> rfl
  . rw [if_neg h, if_neg h]; cases b <;> rfl
theorem mxo_t {x y : Nat} {b : Bool} : mxo true (x, y, !(if y < x then b else !b)) = (max x y, min x y, b) := by
  unfold mxo
  dsimp only
  by_cases h : y < x
  . rw [if_pos h, if_pos h]; cases b <;> rfl
  . rw [if_neg h, if_neg h]; cases b <;> rfl
def FrV (H : Hp) (u : V) : Po.Fr -> Prop
  | none => u = .non
  | some x => ∃ t, u = .ref t /\ H t = some (.tup [.int (x.1 : Int), .int (x.2 : Int)])
theorem FrV.keep {H H' : Hp} {u : V} {v : Po.Fr} (h : FrV H u v) (e : ∀ t x, H t = some (.tup x) -> H' t = some (.tup x)) : FrV H' u v := by
  cases v with
  | none => exact h
  | some x => obtain ⟨t, a, b⟩ := h; exact ⟨t, a, e _ _ b⟩
def ZBa (xs : List Nat) (t i : Nat) : Po.Fr := (xs[t]?).map fun x => (x, i)
structure PB (bb : Bool) (CP : Addr) (H : Hp) (p ak pl tk ml wd : Addr) (pls : List Addr) (pcs : List (List Nat)) : Prop where
  hp : Ins H p CP (fP ak pl tk ml wd)
  hpl : H pl = some (.lst (pls.map V.ref))
  len : pls.length = pcs.length
  pc : ∀ (i : Nat) l xs, pls[i]? = some l -> pcs[i]? = some xs -> H l = some (.lst (nL (rv bb xs)))
theorem PB.at {bb : Bool} {CP : Addr} {H : Hp} {p ak pl tk ml wd : Addr} {pls : List Addr} {pcs : List (List Nat)} (h : PB bb CP H p ak pl tk ml wd pls pcs) {i : Nat} {xs : List Nat} (e : pcs[i]? = some xs) : ∃ l, pls[i]? = some l /\ H l = some (.lst (nL (rv bb xs))) := by
  have hi := (yAJ.mp e).1
  have hi' : i < pls.length := by rw [h.len]; exact hi
  have e1 : pls[i]? = some pls[i] := yAC hi'
  exact ⟨_, e1, h.pc i _ xs e1 e⟩
theorem PB.fr {bb : Bool} {CP : Addr} {H H' : Hp} {S : List Addr} {p ak pl tk ml wd : Addr} {pls : List Addr} {pcs : List (List Nat)} (h : PB bb CP H p ak pl tk ml wd pls pcs) (e : Fr S H H') (n1 : p ∉ S) (n2 : pl ∉ S) (n3 : ∀ l ∈ pls, l ∉ S) : PB bb CP H' p ak pl tk ml wd pls pcs :=
  ⟨ZCR e n1 h.hp, e _ _ n2 h.hpl, h.len, fun i l xs a b => e _ _ (n3 l (yAM a)) (h.pc i l xs a b)⟩
theorem PB.mono {bb : Bool} {CP : Addr} {H H' : Hp} {p ak pl tk ml wd : Addr} {pls : List Addr} {pcs : List (List Nat)} (h : PB bb CP H p ak pl tk ml wd pls pcs) (e : Same H H') : PB bb CP H' p ak pl tk ml wd pls pcs :=
  h.fr (S := []) e.fr yBM yBM fun _ _ => yBM
structure MsAt (H : Hp) (vs : List V) (ms : List Po.Mt) : Prop where
  len : vs.length = ms.length
  get : ∀ (i : Nat) m, ms[i]? = some m -> ∃ t, vs[i]? = some (V.ref t) /\ H t = some (.tup [.int (m.1 : Int), .int (m.2.1 : Int), .int (m.2.2 : Int)])
theorem MsAt.keep {H H' : Hp} {vs : List V} {ms : List Po.Mt} (h : MsAt H vs ms) (e : ∀ t x, H t = some (.tup x) -> H' t = some (.tup x)) : MsAt H' vs ms := ⟨h.len, fun i m hm => let ⟨t, a, b⟩ := h.get i m hm; ⟨t, a, e _ _ b⟩⟩
theorem MsAt.app {H : Hp} {vs us : List V} {ms ns : List Po.Mt} (h : MsAt H vs ms) (g : MsAt H us ns) : MsAt H (vs ++ us) (ms ++ ns) := by
  refine ⟨by rw [yAD, yAD, h.len, g.len], fun j m hj => ?_⟩
  by_cases hl : j < ms.length
  . rw [yAV hl] at hj
    rw [yAV (by rw [h.len]; exact hl)]
    exact h.get j m hj
  . rw [yAU (by omega)] at hj
    rw [yAU (by rw [h.len]; omega), h.len]
    exact g.get _ m hj
theorem MsAt.one {H : Hp} {m : Po.Mt} {t : Addr} (ht : H t = some (.tup [.int (m.1 : Int), .int (m.2.1 : Int), .int (m.2.2 : Int)])) : MsAt H [.ref t] [m] := ⟨rfl, fun j a hj => by
  cases j with
  | zero => cases hj; exact ⟨t, rfl, ht⟩
  | succ j => simp at hj⟩
theorem MsAt.nil {H : Hp} : MsAt H [] [] := ⟨rfl, fun j a hj => by simp at hj⟩
def ZBO (n : Nat) : Sp := fun vs H Q _ => ∃ (f b : Nat), vs = [.int f, .int b] /\ f <= b /\ b <= 600 /\ 0 < n /\ b - f <= 2 ^ (n - 1) /\ ∀ l H' ws, Same H H' -> H l = none -> H' l = some (.lst ws) -> MsAt H' ws (Po.mts f b) -> Q (.ref l) H'
theorem spMeetings_no {vs : List V} {H : Hp} {Q : VK} {E : XK} (h : ZBO 0 vs H Q E) : False := by
  obtain ⟨_, _, _, _, _, h0, _⟩ := h
  omega
def ZBc (bb : Bool) (CP : Addr) : Sp := fun vs H Q _ => ∃ (p ak pl tk ml wd : Addr) (pls : List Addr) (pcs : List (List Nat)) (i t : Nat) (xs : List Nat), vs = [.ref p, .int i, .int t] /\ PB bb CP H p ak pl tk ml wd pls pcs /\ pcs[i]? = some xs /\ ∀ u H', Same H H' -> FrV H' u (ZBa xs t i) -> Q u H'
def ZCM (CA CR : Addr) (bb : Bool) (CP : Addr) : Sp := fun vs H Q _ => ∃ (ks : List Int) (xs : List V) (a rl ru tl g lg bl p pl tk ml wd : Addr) (pr : List (Nat × Nat × Bool)) (x y : Nat), vs = [.ref p, .int x, .int y] /\ SitO CA CR H ks xs a rl ru tl g lg bl pr /\ Ins H p CP (fP a pl tk ml wd) /\ x ≠ y /\ x < ks.length /\ y < ks.length /\ ks.length <= 1000 /\ pr.length <= 70000 /\
  ∀ b H', Fr [a, lg, tl] H H' -> SitO CA CR H' ks xs a rl ru tl g lg bl (pr ++ [mxo bb (x, y, b)]) -> Q (.bl b) H'
def ZEe (CA CR : Addr) (bb : Bool) (CP : Addr) : Sp := fun vs H Q _ => ∃ (ks : List Int) (xs : List V) (a rl ru tl g lg bl p pl tk ml wd : Addr) (pr : List (Nat × Nat × Bool)) (u1 u2 : V) (one other : Po.Fr), vs = [.ref p, u1, u2] /\ SitO CA CR H ks xs a rl ru tl g lg bl pr /\ Ins H p CP (fP a pl tk ml wd) /\ FrV H u1 one /\ FrV H u2 other /\ Po.Fine ks.length one other /\ ks.length <= 1000 /\ pr.length <= 70000 /\
  ∀ b u H', Fr [a, lg, tl] H H' -> SitO CA CR H' ks xs a rl ru tl g lg bl (pr ++ (Po.maskB b one other).map (mxo bb)) -> FrV H' u (Po.metB b one other) -> Q u H'
structure DT (H : Hp) (d : Addr) (w : Po.W) (B : Nat) (kvs : List (List Key × V)) : Prop where
  hd : H d = some (.dT kvs)
  sm : ZEZ kvs
  len : kvs.length <= B
  val : ∀ a c v, w a c = some v -> ∃ u, valV kvs (kQ a c) = some u /\ FrV H u v
theorem DT.fr {H H' : Hp} {S : List Addr} {d : Addr} {w : Po.W} {B : Nat} {kvs : List (List Key × V)} (h : DT H d w B kvs) (e : Fr S H H') (n : d ∉ S) (t : ∀ t x, H t = some (.tup x) -> t ∉ S) : DT H' d w B kvs :=
  ⟨e _ _ n h.hd, h.sm, h.len, fun a c v z => let ⟨u, x, y⟩ := h.val a c v z; ⟨u, x, y.keep fun b o q => e _ _ (t _ _ q) q⟩⟩
theorem DT.mono {H H' : Hp} {d : Addr} {w : Po.W} {B : Nat} {kvs : List (List Key × V)} (h : DT H d w B kvs) (e : Same H H') : DT H' d w B kvs := h.fr (S := []) e.fr yBM fun _ _ _ => yBM
theorem mem_putK {kvs : List (List Key × V)} {k : List Key} {v : V} {kv : List Key × V} (h : kv ∈ putK kvs k v) : kv.1 = k ∨ ∃ kv' ∈ kvs, kv'.1 = kv.1 := by
  unfold putK at h
  split at h
  . obtain ⟨kv', h1, h2⟩ := yBF.mp h
    split at h2
    . rename_i e; rw [<- h2]; exact .inl e
    . rw [<- h2]; exact .inr ⟨kv', h1, rfl⟩
  . rcases yBB.mp h with h | h
    . exact .inr ⟨kv, h, rfl⟩
    . rw [yAK.mp h]; exact .inl rfl
theorem len_putK {kvs : List (List Key × V)} {k : List Key} {v u : V} (h : valV kvs k = some u) : (putK kvs k v).length = kvs.length := by
  unfold putK
  rw [if_pos (by rw [ZCK, h]; rfl), yAA]
theorem DT.put {H : Hp} {d : Addr} {w : Po.W} {B : Nat} {kvs : List (List Key × V)} (h : DT H d w B kvs) {a c : Nat} {u : V} {v : Po.Fr} (ha : a < 205) (hc : c <= 500) (hu : FrV H u v) {k : Nat} (hk : k = 1 ∨ (w a c).isSome = true) : DT (upd H d (.dT (putK kvs (kQ a c) u))) d (Po.put w a c v) (B + k) (putK kvs (kQ a c) u) := by
  have e : ∀ t x, H t = some (.tup x) -> upd H d (.dT (putK kvs (kQ a c) u)) t = some (.tup x) := fun t x ht => by rw [ZAI (fun z => by rw [z, h.hd] at ht; cases ht)]; exact ht
  refine ⟨ZAG, fun kv hkv => ?_, ?_, fun a' c' v' hv => ?_⟩
  . rcases mem_putK hkv with z | ⟨kv', h1, h2⟩
    . exact ⟨a, c, z, ha, hc⟩
    . rw [<- h2]; exact h.sm kv' h1
  . have := h.len
    rcases hk with rfl | z
    . exact yAE (ZBp _ _ _) (by omega)
    . obtain ⟨v0, hv0⟩ := Option.isSome_iff_exists.mp z
      obtain ⟨u0, hu0, _⟩ := h.val a c v0 hv0
      rw [len_putK hu0]; omega
  . unfold Po.put at hv
    rw [valV_put]
    by_cases z : a' = a /\ c' = c
    . rw [if_pos z] at hv
      rw [if_pos (by rw [z.1, z.2])]
      cases hv
      exact ⟨u, rfl, hu.keep e⟩
    . rw [if_neg z] at hv
      rw [if_neg (fun y => z (kQ_inj y))]
      obtain ⟨u', x, y⟩ := h.val a' c' v' hv
      exact ⟨u', x, y.keep e⟩
theorem SitO.newS {CA CR : Addr} {H : Hp} {ks : List Int} {xs : List V} {a rl ru tl g lg bl b : Addr} {pr : List (Nat × Nat × Bool)} (h : SitO CA CR H ks xs a rl ru tl g lg bl pr) (hb : H b = none) : b ∉ [a, lg, tl] := fun z => by
  obtain ⟨_, h2, _⟩ := h.hlg
  obtain ⟨_, h3, _⟩ := h.htl
  rcases yAH.mp z with z | z
  . exact h.ha.neN hb z
  rcases yAH.mp z with z | z
  . rw [z, h2] at hb; cases hb
  . rw [yAK.mp z, h3] at hb; cases hb
theorem SitO.but {CA CR : Addr} {H H' : Hp} {ks : List Int} {xs : List V} {a rl ru tl g lg bl : Addr} {pr : List (Nat × Nat × Bool)} (h : SitO CA CR H ks xs a rl ru tl g lg bl pr) (e : ∀ b o, H b = some o -> (∀ k, o ≠ .dT k) -> H' b = some o) : SitO CA CR H' ks xs a rl ru tl g lg bl pr := by
  have ki : ∀ {b C : Addr} {fl : List (Str × V)}, Ins H b C fl -> Ins H' b C fl := fun hi => let ⟨dx, fs, h1, h2, h3⟩ := hi.ex; ⟨dx, fs, e _ _ h1 (fun _ z => by cases z), h2, h3⟩
  obtain ⟨ws, h4, h5⟩ := h.hlg
  obtain ⟨us, h6, h7⟩ := h.htl
  exact ⟨ki h.ha, e _ _ h.hrl (fun _ z => by cases z), ki h.hru, h.clo.mono (fun b o hb => e _ _ hb (fun _ z => by cases z)), (let ⟨bs, z1, z2⟩ := h.hbl; ⟨bs, e _ _ z1 (fun _ z => by cases z), z2⟩), h.len, fun i k hk => let ⟨r, a1, a2⟩ := h.row i k hk; ⟨r, a1, e _ _ a2 (fun _ z => by cases z)⟩, ⟨ws, e _ _ h4 (fun _ z => by cases z), h5.keep fun _ _ z => e _ _ z (fun _ y => by cases y)⟩, ⟨us, e _ _ h6 (fun _ z => by cases z), h7.keep fun _ _ z => e _ _ z (fun _ y => by cases y)⟩, h.ne⟩
theorem drop_consG {α : Type} {os : List α} {i : Nat} {x : α} (h : os[i]? = some x) : os.drop i = x :: os.drop (i + 1) := by
  obtain ⟨h1, h2⟩ := yAJ.mp h
  rw [yCJ h1, h2]
def ZDW (CA CR : Addr) (bb : Bool) (CP : Addr) : Sp := fun vs H Q _ => ∃ (ks : List Int) (xs : List V) (a rl ru tl g lg bl p pl tk ml wd mt wo : Addr) (pr : List (Nat × Nat × Bool)) (mvs : List V) (ms : List Po.Mt) (w : Po.W) (G : Po.W -> Po.Asked -> Prop) (B c : Nat) (kvs : List (List Key × V)), vs = [.ref p, .ref mt, .ref wo] /\ SitO CA CR H ks xs a rl ru tl g lg bl pr /\ Ins H p CP (fP a pl tk ml wd) /\ p ∉ [a, lg, tl] /\ mt ∉ [a, lg, tl] /\ H mt = some (.lst mvs) /\ MsAt H mvs ms /\ ms.length <= 400 /\ (∀ m ∈ ms, m.1 < 205 /\ m.2.2 <= 500) /\ DT H wo w B kvs /\ B <= 500 /\ Po.Safe (Po.Fine ks.length) G ms w [] /\ (c = 1 ∨ c = 0 /\ ∀ m ∈ ms, (w m.1 m.2.2).isSome = true) /\ ks.length <= 1000 /\ pr.length <= 60000 /\
  ∀ d H' kvs' w' l, G w' l -> Fr [a, lg, tl] H H' -> H d = none -> DT H' d w' (B + c * ms.length) kvs' -> SitO CA CR H' ks xs a rl ru tl g lg bl (pr ++ l.map (mxo bb)) -> Q (.ref d) H'
def ZEI (bb : Bool) (CP : Addr) : Sp := fun vs H Q _ => ∃ (p ak pl tk ml wd : Addr) (pls : List Addr) (pcs : List (List Nat)) (w : Po.W) (B : Nat) (kvs : List (List Key × V)) (top : Po.Fr), vs = [.ref p] /\ PB bb CP H p ak pl tk ml wd pls pcs /\ DT H wd w B kvs /\ (w 0 pcs.length = some top ∨ B = 0 /\ top = none) /\ ∀ u H', Same H H' -> FrV H' u top -> Q u H'
def ZBk (bb : Bool) (CP : Addr) : Sp := fun vs H Q _ => ∃ (p ak pl tk ml wd : Addr) (pls : List Addr) (pcs : List (List Nat)) (w : Po.W) (B : Nat) (kvs : List (List Key × V)) (top : Po.Fr), vs = [.ref p] /\ PB bb CP H p ak pl tk ml wd pls pcs /\ DT H wd w B kvs /\ (w 0 pcs.length = some top ∨ B = 0 /\ top = none) /\ ∀ H', Same H H' -> Q (match top with | none => V.non | some x => .int (x.1 : Int)) H'
def ZCd (bb : Bool) (CP : Addr) : Sp := fun vs H Q _ => ∃ (p ak pl tk ml wd : Addr) (pls : List Addr) (pcs : List (List Nat)) (ts : List Nat), vs = [.ref p] /\ PB bb CP H p ak pl tk ml wd pls pcs /\ H tk = some (.lst (nL ts)) /\ pcs.length <= 500 /\ ts.length <= 500 /\ (∀ xs ∈ pcs, xs.length <= 500) /\ (∀ t ∈ ts, t <= 500) /\ ∀ H', Same H H' -> Q (.int (((pcs.map List.length).sum : Nat) - (ts.sum : Nat))) H'
theorem ZDj (l : List Nat) : (l.map fun (n : Nat) => (n : Int)).sum = ((l.sum : Nat) : Int) := by
  induction l with
  | nil => rfl
  | cons a r ih => rw [yAP, yBR, yBR, ih]; omega
def frs (pcs : List (List Nat)) (ts : List Nat) (i : Nat) : Po.Fr := ZBa (pcs.getD i []) (ts.getD i 0) i
structure PourAt (bb : Bool) (CP : Addr) (H : Hp) (p ak pl tk ml wd : Addr) (pls : List Addr) (pcs : List (List Nat)) (ts : List Nat) (w : Po.W) (kvs : List (List Key × V)) : Prop where
  pb : PB bb CP H p ak pl tk ml wd pls pcs
  htk : H tk = some (.lst (nL ts))
  hml : ∃ mvs, H ml = some (.lst mvs) /\ MsAt H mvs (Po.mts 0 pcs.length)
  hwd : DT H wd w (2 * pcs.length - 1) kvs
  tlen : ts.length = pcs.length
  ne : tk ≠ pl /\ tk ≠ ml /\ ∀ l ∈ pls, l ≠ tk
def ZBb (CA CR : Addr) (bb : Bool) (CP : Addr) : Sp := fun vs H Q _ => ∃ (ks : List Int) (xs : List V) (a rl ru tl g lg bl x dx hl : Addr) (pr : List (Nat × Nat × Bool)) (hls : List Addr) (pcs : List (List Nat)) (G : Po.W -> Po.Asked -> Prop), vs = [.ref x, .ref a, .ref hl] /\ H x = some (.ins CP dx []) /\ SitO CA CR H ks xs a rl ru tl g lg bl pr /\ H hl = some (.lst (hls.map V.ref)) /\ hls.length = pcs.length /\ (∀ (i : Nat) l ys, hls[i]? = some l -> pcs[i]? = some ys -> H l = some (.lst (nL (rv bb ys)))) /\ pcs.length <= 200 /\ (∀ w, (∀ i, i < pcs.length -> w i (i + 1) = some (frs pcs (List.replicate pcs.length 0) i)) -> (∀ a c, ¬ c - a < 2 -> w a c = none) -> Po.Safe (Po.Fine ks.length) G (Po.mts 0 pcs.length) w []) /\ x ∉ [a, lg, tl] /\ ks.length <= 1000 /\ pr.length <= 50000 /\
  ∀ pl tk ml wd pls w l H' kvs, (∀ b o, b ≠ x -> b ∉ [a, lg, tl] -> H b = some o -> H' b = some o) -> PourAt bb CP H' x a pl tk ml wd pls pcs (List.replicate pcs.length 0) w kvs -> G w l -> (H pl = none /\ H tk = none /\ H ml = none /\ H wd = none /\ ∀ l ∈ pls, H l = none) -> SitO CA CR H' ks xs a rl ru tl g lg bl (pr ++ l.map (mxo bb)) -> Q .non H'
theorem SitO.butN {CA CR C d x : Addr} {f : List (Str × V)} {H H' : Hp} {ks : List Int} {xs : List V} {a rl ru tl g lg bl : Addr} {pr : List (Nat × Nat × Bool)} (h : SitO CA CR H ks xs a rl ru tl g lg bl pr) (hx : H x = some (.ins C d f)) (nx : x ∉ [a, lg, tl]) (nru : ru ≠ x) (e : ∀ b o, b ≠ x -> H b = some o -> H' b = some o) : SitO CA CR H' ks xs a rl ru tl g lg bl pr := by
  have k : ∀ {b : Addr} {o : HO}, H b = some o -> (∀ C d f, o ≠ .ins C d f) -> H' b = some o := fun {b o} hb z => e b o (fun m => by rw [m, hx] at hb; exact z _ _ _ (Option.some.inj hb).symm) hb
  have ki : ∀ {b C : Addr} {fl : List (Str × V)}, b ≠ x -> Ins H b C fl -> Ins H' b C fl := fun n hi => let ⟨dx, fs, h1, h2, h3⟩ := hi.ex; ⟨dx, fs, e _ _ n h1, h2, h3⟩
  have na : a ≠ x := fun z => nx (by rw [<- z]; exact yAI)
  obtain ⟨ws, h4, h5⟩ := h.hlg
  obtain ⟨us, h6, h7⟩ := h.htl
  exact ⟨ki na h.ha, k h.hrl (fun _ _ _ z => by cases z), ki nru h.hru, h.clo.mono (fun b o hb => k hb (fun _ _ _ z => by cases z)), (let ⟨bs, z1, z2⟩ := h.hbl; ⟨bs, k z1 (fun _ _ _ z => by cases z), z2⟩), h.len, fun i kk hk => let ⟨r, a1, a2⟩ := h.row i kk hk; ⟨r, a1, k a2 (fun _ _ _ z => by cases z)⟩, ⟨ws, k h4 (fun _ _ _ z => by cases z), h5.keep fun _ _ z => k z (fun _ _ _ y => by cases y)⟩, ⟨us, k h6 (fun _ _ _ z => by cases z), h7.keep fun _ _ z => k z (fun _ _ _ y => by cases y)⟩, h.ne⟩
theorem SitO.butX {CA CR CP dx x : Addr} {H H' : Hp} {ks : List Int} {xs : List V} {a rl ru tl g lg bl : Addr} {pr : List (Nat × Nat × Bool)} (h : SitO CA CR H ks xs a rl ru tl g lg bl pr) (hx : H x = some (.ins CP dx [])) (nx : x ∉ [a, lg, tl]) (e : ∀ b o, b ≠ x -> H b = some o -> H' b = some o) : SitO CA CR H' ks xs a rl ru tl g lg bl pr :=
  h.butN hx nx (fun z => by
    obtain ⟨d1, f1, e1, _, e3⟩ := h.hru.ex
    rw [z, hx] at e1
    cases e1
    have := e3 ("teller" : Str)
    cases this) e
theorem SitO.butI {CA CR CP x p2 p3 p4 p5 p6 : Addr} {H H' : Hp} {ks : List Int} {xs : List V} {a rl ru tl g lg bl : Addr} {pr : List (Nat × Nat × Bool)} (h : SitO CA CR H ks xs a rl ru tl g lg bl pr) (hx : Ins H x CP (fP p2 p3 p4 p5 p6)) (nx : x ∉ [a, lg, tl]) (e : ∀ b o, b ≠ x -> H b = some o -> H' b = some o) : SitO CA CR H' ks xs a rl ru tl g lg bl pr :=
  let ⟨d2, f2, e2, _, e5⟩ := hx.ex
  h.butN e2 nx (fun z => by
    obtain ⟨d1, f1, e1, _, e3⟩ := h.hru.ex
    rw [z, e2] at e1
    cases e1
    have := (e3 ("teller" : Str)).symm.trans (e5 ("teller" : Str))
    cases this) e
theorem front_mem {xs : List Nat} {t i : Nat} {y : Nat × Nat} (h : ZBa xs t i = some y) : y.1 ∈ xs /\ y.2 = i := by
  unfold ZBa at h
  obtain ⟨a, h1, h2⟩ := yBU.mp h
  rw [<- h2]
  exact ⟨yAM h1, rfl⟩
theorem ZD6 {pcs : List (List Nat)} {ts : List Nat} {i t : Nat} {zs : List Nat} (h : pcs[i]? = some zs) (ht : ts[i]? = some t) : frs pcs ts i = ZBa zs t i := by
  unfold frs
  rw [yBL, yBL, h, ht]; rfl
theorem ZDP {pcs : List (List Nat)} {ts : List Nat} {i : Nat} {y : Nat × Nat} (h : frs pcs ts i = some y) : ∃ zs, pcs[i]? = some zs /\ y.1 ∈ zs /\ y.2 = i := by
  unfold frs at h
  obtain ⟨h1, h2⟩ := front_mem h
  rw [yBL] at h1
  cases e : pcs[i]? with
  | none => rw [e] at h1; cases h1
  | some zs => rw [e] at h1; exact ⟨zs, rfl, h1, h2⟩
def Things (H : Hp) (ks : List Int) (xs : List V) : Prop := xs.length = ks.length /\ ∀ (i : Nat) k, ks[i]? = some k -> ∃ r, xs[i]? = some (V.ref r) /\ H r = some (.tup [.int k, .int i])
theorem Things.zz {H : Hp} {ks : List Int} {xs : List V} (h : Things H ks xs) : ∃ zz : List PrA, xs = zz.map (fun z => V.ref z.1) /\ zz.length = ks.length /\ ∀ (i : Nat) z, zz[i]? = some z -> z.2 = (kat ks i, (i : Int)) /\ H z.1 = some (.tup [.int (kat ks i), .int i]) := by
  have key : ∀ n, n <= ks.length -> ∃ zz : List PrA, xs.take n = zz.map (fun z => V.ref z.1) /\ zz.length = n /\ ∀ (i : Nat) z, zz[i]? = some z -> z.2 = (kat ks i, (i : Int)) /\ H z.1 = some (.tup [.int (kat ks i), .int i]) := by
    intro n
    induction n with
    | zero => intro _; exact ⟨[], rfl, rfl, fun i z e => by simp at e⟩
    | succ n ih =>
      intro hn
      obtain ⟨zz, a1, a2, a3⟩ := ih (by omega)
      obtain ⟨r, b1, b2⟩ := h.2 n _ (yAC (show n < ks.length by omega))
      have ek : ks[n] = kat ks n := by unfold kat; rw [yAC (show n < ks.length by omega)]; rfl
      rw [ek] at b2
      refine ⟨zz ++ [(r, kat ks n, (n : Int))], ?_, by rw [yAD, a2]; rfl, fun i z e => ?_⟩
      . rw [yCB, b1, a1, yAQ]
        rfl
      . by_cases hi : i < zz.length
        . rw [yAV hi] at e
          exact a3 i z e
        . have h1 := (yAJ.mp e).1
          rw [yAD, yBN] at h1
          have : i = n := by omega
          subst this
          rw [yAU (by omega), show i - zz.length = 0 by omega] at e
          cases e
          exact ⟨rfl, b2⟩
  obtain ⟨zz, a1, a2, a3⟩ := key ks.length (yAB _)
  rw [yBI (by rw [h.1]; exact yAB _)] at a1
  exact ⟨zz, a1, a2, a3⟩
theorem onceS {α : Type} {P : TS} {D : Ends} {H : Hp} (σ : α -> St) (p : α -> Prop) {G : Prop} (h : (∀ x, p x -> Cut P D (σ x) H) -> G) (t : ∀ x, p x -> Cut P D (σ x) H) : G := h t
structure PL (H : Hp) (hls : List Addr) (pcs : List (List Nat)) : Prop where
  len : hls.length = pcs.length
  at' : ∀ (i : Nat) l ys, hls[i]? = some l -> pcs[i]? = some ys -> H l = some (.lst (nL ys))
  nd : hls.Nodup
def ZCe (n : Nat) (num : Nat -> Nat) (os : List Nat) : List (List Nat) := (List.range n).map fun i => os.filter fun p => decide (num p = i)
theorem ZBJ (n : Nat) (num : Nat -> Nat) (os : List Nat) : (ZCe n num os).length = n := by unfold ZCe; rw [yAA, List.length_range]
theorem ZBo {n : Nat} {num : Nat -> Nat} {os : List Nat} {i : Nat} (h : i < n) : (ZCe n num os)[i]? = some (os.filter fun p => decide (num p = i)) := by
  unfold ZCe
  rw [yAG, List.getElem?_range h]; rfl
theorem pcsOf_snoc {n : Nat} {num : Nat -> Nat} {os : List Nat} {p : Nat} : ZCe n num (os ++ [p]) = if num p < n then (ZCe n num os).set (num p) ((os.filter fun q => decide (num q = num p)) ++ [p]) else ZCe n num os := by
  have hf : ∀ i, (os ++ [p]).filter (fun q => decide (num q = i)) = if num p = i then (os.filter fun q => decide (num q = i)) ++ [p] else os.filter fun q => decide (num q = i) := fun i => by
    rw [yBO]
    by_cases e : num p = i
    . rw [if_pos e, yBT (by simpa using e)]; rfl
    . rw [if_neg e, yBK (by simpa using e), yCX, yAZ]
  refine List.ext_getElem? fun i => ?_
  by_cases hi : i < n
  . rw [ZBo hi, hf]
    by_cases hp : num p < n
    . rw [if_pos hp, yCY, ZBJ]
      by_cases e : num p = i
      . rw [if_pos e, if_pos e, if_pos (by omega), e]
      . rw [if_neg e, if_neg e, ZBo hi]
    . rw [if_neg hp, if_neg (by omega), ZBo hi]
  . rw [yBE (by rw [ZBJ]; omega), yBE]
    split
    . rw [yCQ, ZBJ]; omega
    . rw [ZBJ]; omega
theorem nd_inj {l : List Addr} (h : l.Nodup) {i j : Nat} (hi : i < l.length) (hj : j < l.length) (e : l[i] = l[j]) : i = j := by
  have hp := List.pairwise_iff_getElem.mp h
  rcases Nat.lt_trichotomy i j with z | z | z
  . exact absurd e (hp i j hi hj z)
  . exact z
  . exact absurd e.symm (hp j i hj hi z)
theorem PL.push {H : Hp} {hls : List Addr} {pcs : List (List Nat)} {j : Nat} {b : Addr} {ys : List Nat} (h : PL H hls pcs) (hb : hls[j]? = some b) (zs : List Nat) : PL (upd H b (.lst (nL zs))) hls (pcs.set j zs) := by
  refine ⟨by rw [yCQ]; exact h.len, fun i l us h1 h2 => ?_, h.nd⟩
  rw [yCY] at h2
  have hj := (yAJ.mp hb).1
  by_cases e : j = i
  . rw [if_pos e] at h2
    subst e
    rw [hb] at h1
    cases h1
    split at h2
    . cases h2; exact ZAG
    . cases h2
  . rw [if_neg e] at h2
    have : l ≠ b := fun z => by
      have hi := (yAJ.mp h1)
      have hk := (yAJ.mp hb)
      obtain ⟨i1, i2⟩ := hi
      obtain ⟨k1, k2⟩ := hk
      rw [<- k2] at z
      rw [<- i2] at z
      exact e (nd_inj h.nd i1 k1 z).symm
    rw [ZAI this]
    exact h.at' i l us h1 h2
theorem kat_gt {ks : List Int} {j : Nat} (h : j < ks.length) : ks[j]? = some (kat ks j) := by unfold kat; rw [yAC h]; rfl
theorem SitO.apartP {CA CR : Addr} {H H' : Hp} {ks : List Int} {xs : List V} {a rl ru tl g lg bl : Addr} {pr : List (Nat × Nat × Bool)} {S : List Addr} (h : SitO CA CR H ks xs a rl ru tl g lg bl pr) (e : Fr S H H') (hS : ∀ b ∈ S, ∃ l, H b = some (.lst l)) (n : rl ∉ S /\ lg ∉ S /\ tl ∉ S /\ bl ∉ S) : SitO CA CR H' ks xs a rl ru tl g lg bl pr := by
  have k : ∀ {b : Addr} {o : HO}, H b = some o -> (∀ l, o ≠ .lst l) -> H' b = some o := fun {b o} hb z => e _ _ (fun m => by obtain ⟨l, hl⟩ := hS b m; rw [hl] at hb; exact z _ (Option.some.inj hb).symm) hb
  have ki : ∀ {b C : Addr} {fl : List (Str × V)}, Ins H b C fl -> Ins H' b C fl := fun hi => let ⟨dx, fs, h1, h2, h3⟩ := hi.ex; ⟨dx, fs, k h1 (fun _ z => by cases z), h2, h3⟩
  obtain ⟨ws, h4, h5⟩ := h.hlg
  obtain ⟨us, h6, h7⟩ := h.htl
  have hrow : ∀ (i : Nat) kk, ks[i]? = some kk -> ∃ r, xs[i]? = some (V.ref r) /\ H' r = some (.tup [.int kk, .int i]) := fun i kk hk => by
    obtain ⟨r, a1, a2⟩ := h.row i kk hk
    exact ⟨r, a1, k a2 (fun _ z => by cases z)⟩
  have hclo := h.clo.mono (H' := H') (fun b o hb => k hb (fun _ z => by cases z))
  have hl := h5.keep (H' := H') (fun _ _ z => k z (fun _ y => by cases y))
  have ht := h7.keep (H' := H') (fun _ _ z => k z (fun _ y => by cases y))
  exact ⟨ki h.ha, e _ _ n.1 h.hrl, ki h.hru, hclo, (let ⟨bs, z1, z2⟩ := h.hbl; ⟨bs, e _ _ n.2.2.2 z1, z2⟩), h.len, hrow, ⟨ws, e _ _ n.2.1 h4, hl⟩, ⟨us, e _ _ n.2.2.1 h6, ht⟩, h.ne⟩
theorem PourAt.fr {bb : Bool} {CP : Addr} {H H' : Hp} {S : List Addr} {p ak pl tk ml wd : Addr} {pls : List Addr} {pcs : List (List Nat)} {ts : List Nat} {w : Po.W} {kvs : List (List Key × V)} (h : PourAt bb CP H p ak pl tk ml wd pls pcs ts w kvs) (e : Fr S H H') (hS : ∀ b ∈ S, ∃ l, H b = some (.lst l)) (n : pl ∉ S /\ tk ∉ S /\ ml ∉ S /\ ∀ l ∈ pls, l ∉ S) : PourAt bb CP H' p ak pl tk ml wd pls pcs ts w kvs := by
  have nt : ∀ b o, H b = some o -> (∀ l, o ≠ .lst l) -> b ∉ S := fun b o hb z m => by
    obtain ⟨l, hl⟩ := hS b m
    rw [hl] at hb; exact z _ (Option.some.inj hb).symm
  obtain ⟨dx, fs, e1, _⟩ := h.pb.hp.ex
  obtain ⟨mvs, h1, h2⟩ := h.hml
  exact ⟨h.pb.fr e (nt _ _ e1 fun _ z => by cases z) n.1 n.2.2.2, e _ _ n.2.1 h.htk, ⟨mvs, e _ _ n.2.2.1 h1, h2.keep fun t z y => e _ _ (nt _ _ y fun _ z => by cases z) y⟩, h.hwd.fr e (nt _ _ h.hwd.hd fun _ z => by cases z) (fun t z y => nt _ _ y fun _ z => by cases z), h.tlen, h.ne⟩
theorem PourAt.mono {bb : Bool} {CP : Addr} {H H' : Hp} {p ak pl tk ml wd : Addr} {pls : List Addr} {pcs : List (List Nat)} {ts : List Nat} {w : Po.W} {kvs : List (List Key × V)} (h : PourAt bb CP H p ak pl tk ml wd pls pcs ts w kvs) (e : Same H H') : PourAt bb CP H' p ak pl tk ml wd pls pcs ts w kvs :=
  h.fr (S := []) e.fr (fun b z => by cases z) ⟨yBM, yBM, yBM, fun _ _ => yBM⟩
structure PX (a rl bl lg tl p pl tk ml : Addr) (pls : List Addr) : Prop where
  r : rl ≠ tk /\ bl ≠ tk
  p : p ∉ [a, lg, tl]
  pl : pl ∉ [a, lg, tl]
  tk : tk ∉ [a, lg, tl]
  ml : ml ∉ [a, lg, tl]
  ls : ∀ l ∈ pls, l ∉ [a, lg, tl]
theorem frs_set {pcs : List (List Nat)} {ts : List Nat} {i t j : Nat} (h : j ≠ i) : frs pcs (ts.set i t) j = frs pcs ts j := by
  unfold frs
  rw [yBL (l := ts.set i t), yCY, if_neg (fun z => h z.symm), <- yBL]
def ZCc (CA CR : Addr) (bb : Bool) (CP : Addr) : Sp := fun vs H Q _ => ∃ (ks : List Int) (xs : List V) (a rl ru tl g lg bl p pl tk ml wd : Addr) (pr : List (Nat × Nat × Bool)) (pls : List Addr) (pcs : List (List Nat)) (ts : List Nat) (w : Po.W) (kvs : List (List Key × V)) (G : Nat -> Nat -> Po.W -> Po.Asked -> Prop), vs = [.ref p] /\ SitO CA CR H ks xs a rl ru tl g lg bl pr /\ PourAt bb CP H p a pl tk ml wd pls pcs ts w kvs /\ PX a rl bl lg tl p pl tk ml pls /\ pcs.length <= 200 /\ (0 < pcs.length -> Po.RR (frs pcs ts) w 0 pcs.length) /\ (∀ x i t, 0 < pcs.length -> w 0 pcs.length = some (some (x, i)) -> i < pcs.length -> ts[i]? = some t -> Po.Safe (Po.Fine ks.length) (G x i) ((Po.mts 0 pcs.length).filter (Po.onWay i)) (Po.put w i (i + 1) (frs pcs (ts.set i (t + 1)) i)) []) /\ ks.length <= 1000 /\ pr.length <= 50000 /\
  ((pcs.length = 0 ∨ w 0 pcs.length = some none) -> ∀ H', Same H H' -> Q .non H') /\
  (∀ x i t, 0 < pcs.length -> w 0 pcs.length = some (some (x, i)) -> i < pcs.length -> ts[i]? = some t -> frs pcs ts i = some (x, i) -> ∀ wd' w' l H' kvs', H wd' = none -> G x i w' l -> Fr [p, tk, a, lg, tl] H H' -> PourAt bb CP H' p a pl tk ml wd' pls pcs (ts.set i (t + 1)) w' kvs' -> SitO CA CR H' ks xs a rl ru tl g lg bl (pr ++ l.map (mxo bb)) -> Q (.int (x : Int)) H')
theorem ZE1 {α : Type} {P : TS} {D : Ends} (σ : α -> St) (X : α -> Hp) (p : α -> Prop) {G : Prop} (h : (∀ x, p x -> Cut P D (σ x) (X x)) -> G) (t : ∀ x, p x -> Cut P D (σ x) (X x)) : G := h t
theorem split_lt (num : Nat -> Nat) (n : Nat) : ∀ os : List Nat, (os.filter fun p => decide (num p < n + 1)).length = (os.filter fun p => decide (num p < n)).length + (os.filter fun p => decide (num p = n)).length
  | [] => rfl
  | a :: r => by
    have ih := split_lt num n r
    by_cases h1 : num a < n
    . rw [yBT (by simp; omega), yBT (by simpa using h1), yBK (by simp; omega), yAR, yAR]; omega
    . by_cases h2 : num a = n
      . rw [yBT (by simp; omega), yBK (by simpa using h1), yBT (by simpa using h2), yAR, yAR]; omega
      . rw [yBK (by simp; omega), yBK (by simpa using h1), yBK (by simpa using h2)]; exact ih
theorem pcs_sum (num : Nat -> Nat) (os : List Nat) : ∀ n, ((ZCe n num os).map List.length).sum = (os.filter fun p => decide (num p < n)).length
  | 0 => by
    unfold ZCe
    rw [List.filter_eq_nil_iff.mpr (by simp)]; rfl
  | n + 1 => by
    have ih := pcs_sum num os n
    unfold ZCe at ih ⊢
    rw [List.range_succ, yAQ, yAQ, List.sum_append, ih, split_lt]
    simp
def ZCo (K : W.Frag) : Sp := fun vs H Q _ => ∃ (ky a : Addr) (ks ns : List Int), vs = [.ref ky, .ref a] /\ H ky = some (.lst (ks.map V.int)) /\ ks.length <= 119 /\ SqL K H a (ns.map V.int) /\ ns.length <= 63 /\
  ∀ l hls pcs H', Same H H' -> H l = none -> H' l = some (.lst (hls.map V.ref)) -> PL H' hls pcs -> (∀ b ∈ hls, H b = none) -> pcs.length <= 40 -> (∀ ys ∈ pcs, ys.Pairwise (lx ks) /\ (∀ y ∈ ys, y < ks.length) /\ ys.length <= 119) -> (∀ (i j : Nat) xi xj y, i ≠ j -> pcs[i]? = some xi -> pcs[j]? = some xj -> y ∈ xi -> y ∉ xj) -> (pcs.map List.length).sum <= 119 -> Q (.ref l) H'
structure SpAt (H : Hp) (vs : List V) (ms : List Po.Mt) : Prop where
  len : vs.length = ms.length
  get : ∀ (i : Nat) m, ms[i]? = some m -> ∃ t, vs[i]? = some (V.ref t) /\ H t = some (.tup [.int (m.1 : Int), .int (m.2.2 : Int)])
theorem SpAt.keep {H H' : Hp} {vs : List V} {ms : List Po.Mt} (h : SpAt H vs ms) (e : ∀ t x, H t = some (.tup x) -> H' t = some (.tup x)) : SpAt H' vs ms := ⟨h.len, fun i m hm => let ⟨t, a, b⟩ := h.get i m hm; ⟨t, a, e _ _ b⟩⟩
theorem SpAt.app {H : Hp} {vs us : List V} {ms ns : List Po.Mt} (h : SpAt H vs ms) (g : SpAt H us ns) : SpAt H (vs ++ us) (ms ++ ns) := by
  refine ⟨by rw [yAD, yAD, h.len, g.len], fun j m hj => ?_⟩
  by_cases hl : j < ms.length
  . rw [yAV hl] at hj
    rw [yAV (by rw [h.len]; exact hl)]
    exact h.get j m hj
  . rw [yAU (by omega)] at hj
    rw [yAU (by rw [h.len]; omega), h.len]
    exact g.get _ m hj
theorem SpAt.one {H : Hp} {m : Po.Mt} {t : Addr} (ht : H t = some (.tup [.int (m.1 : Int), .int (m.2.2 : Int)])) : SpAt H [.ref t] [m] := ⟨rfl, fun j a hj => by
  cases j with
  | zero => cases hj; exact ⟨t, rfl, ht⟩
  | succ j => simp at hj⟩
theorem SpAt.nil {H : Hp} : SpAt H [] [] := ⟨rfl, fun j a hj => by simp at hj⟩
def ZCU (n : Nat) : Sp := fun vs H Q _ => ∃ (f b : Nat), vs = [.int f, .int b] /\ f <= b /\ b <= 600 /\ 0 < n /\ b - f <= 2 ^ (n - 1) /\ ∀ l H' ws, Same H H' -> H l = none -> H' l = some (.lst ws) -> SpAt H' ws (Po.mts f b) -> Q (.ref l) H'
theorem spSpans_no {vs : List V} {H : Hp} {Q : VK} {E : XK} (h : ZCU 0 vs H Q E) : False := by
  obtain ⟨_, _, _, _, _, h0, _⟩ := h
  omega
def plv : Po.Fr -> V
  | none => .non
  | some x => .int (x.1 : Int)
structure WD (H : Hp) (d : Addr) (w : Po.W) (B : Nat) (kvs : List (List Key × V)) : Prop where
  hd : H d = some (.dT kvs)
  len : kvs.length <= B
  val : ∀ a c v, ¬ c - a < 2 -> w a c = some v -> valV kvs (kQ a c) = some (plv v)
theorem WD.fr {H H' : Hp} {S : List Addr} {d : Addr} {w : Po.W} {B : Nat} {kvs : List (List Key × V)} (h : WD H d w B kvs) (e : Fr S H H') (n : d ∉ S) : WD H' d w B kvs := ⟨e _ _ n h.hd, h.len, h.val⟩
theorem WD.mono {H H' : Hp} {d : Addr} {w : Po.W} {B : Nat} {kvs : List (List Key × V)} (h : WD H d w B kvs) (e : Same H H') : WD H' d w B kvs := ⟨e _ _ h.hd, h.len, h.val⟩
theorem WD.put {H : Hp} {d : Addr} {w : Po.W} {B : Nat} {kvs : List (List Key × V)} (h : WD H d w B kvs) {a c : Nat} {v : Po.Fr} (hac : ¬ c - a < 2) {k : Nat} (hk : k = 1 ∨ (w a c).isSome = true) : WD (upd H d (.dT (putK kvs (kQ a c) (plv v)))) d (Po.put w a c v) (B + k) (putK kvs (kQ a c) (plv v)) := by
  refine ⟨ZAG, ?_, fun a' c' v' hn hv => ?_⟩
  . have := h.len
    rcases hk with rfl | z
    . exact yAE (ZBp _ _ _) (by omega)
    . obtain ⟨v0, hv0⟩ := Option.isSome_iff_exists.mp z
      rw [len_putK (h.val a c v0 hac hv0)]; omega
  . unfold Po.put at hv
    rw [valV_put]
    by_cases z : a' = a /\ c' = c
    . rw [if_pos z] at hv
      rw [if_pos (by rw [z.1, z.2])]
      cases hv
      rfl
    . rw [if_neg z] at hv
      rw [if_neg (fun y => z (kQ_inj y))]
      exact h.val a' c' v' hn hv
theorem put_put {w : Po.W} {a c : Nat} {x y : Po.Fr} : Po.put (Po.put w a c x) a c y = Po.put w a c y := by
  funext a' c'
  unfold Po.put
  split <;> rfl
structure RS (bb : Bool) (H : Hp) (rs : Addr) (rls : List Addr) (pcs : List (List Nat)) (ts : List Nat) : Prop where
  h : H rs = some (.lst (rls.map V.ref))
  len : rls.length = pcs.length
  tl : ts.length = pcs.length
  pc : ∀ (i : Nat) l xs t, rls[i]? = some l -> pcs[i]? = some xs -> ts[i]? = some t -> H l = some (.lst (nL (rv bb (xs.drop t))))
theorem RS.fr {bb : Bool} {H H' : Hp} {S : List Addr} {rs : Addr} {rls : List Addr} {pcs : List (List Nat)} {ts : List Nat} (h : RS bb H rs rls pcs ts) (e : Fr S H H') (n1 : rs ∉ S) (n2 : ∀ l ∈ rls, l ∉ S) : RS bb H' rs rls pcs ts :=
  ⟨e _ _ n1 h.h, h.len, h.tl, fun i l xs t a b c => e _ _ (n2 l (yAM a)) (h.pc i l xs t a b c)⟩
theorem RS.mono {bb : Bool} {H H' : Hp} {rs : Addr} {rls : List Addr} {pcs : List (List Nat)} {ts : List Nat} (h : RS bb H rs rls pcs ts) (e : Same H H') : RS bb H' rs rls pcs ts := h.fr (S := []) e.fr yBM fun _ _ => yBM
theorem RS.at {bb : Bool} {H : Hp} {rs : Addr} {rls : List Addr} {pcs : List (List Nat)} {ts : List Nat} (h : RS bb H rs rls pcs ts) {i : Nat} (hi : i < pcs.length) : ∃ l xs t, rls[i]? = some l /\ pcs[i]? = some xs /\ ts[i]? = some t /\ H l = some (.lst (nL (rv bb (xs.drop t)))) /\ frs pcs ts i = ZBa xs t i := by
  have e1 : rls[i]? = some (rls[i]'(by rw [h.len]; exact hi)) := yAC _
  have e2 : pcs[i]? = some pcs[i] := yAC hi
  have e3 : ts[i]? = some (ts[i]'(by rw [h.tl]; exact hi)) := yAC _
  exact ⟨_, _, _, e1, e2, e3, h.pc i _ _ _ e1 e2 e3, ZD6 e2 e3⟩
def ZDz : Sp := fun vs H Q _ => ∃ (bb : Bool) (wd rs : Addr) (rls : List Addr) (pcs : List (List Nat)) (ts : List Nat) (w : Po.W) (B : Nat) (kvs : List (List Key × V)) (lo hi : Nat) (v : Po.Fr), vs = [.ref wd, .ref rs, .int (lo : Int), .int (hi : Int), .bl bb] /\ WD H wd w B kvs /\ RS bb H rs rls pcs ts /\ lo < hi /\ hi <= pcs.length /\ (∀ i, i < pcs.length -> w i (i + 1) = some (frs pcs ts i)) /\ w lo hi = some v /\ ∀ H', Same H H' -> Q (plv v) H'
theorem getL_snoc {xs : List V} {x : V} : atI (xs ++ [x]) (-1) = some x := by
  unfold atI ixN
  rw [yAD, yBN, if_neg (by decide), if_pos (by omega)]
  rw [show ((-1 : Int) + ((xs.length + 1 : Nat) : Int)).toNat = xs.length by omega]
  simp
def ZDk : Sp := fun vs H Q _ => ∃ (bb : Bool) (al sp wd rs : Addr) (avs svs : List V) (rls : List Addr) (pcs : List (List Nat)) (ts : List Nat) (ms : List Po.Mt) (w w' : Po.W) (e : Po.Asked) (B c : Nat) (kvs : List (List Key × V)), vs = [.ref al, .ref sp, .ref wd, .ref rs, .bl bb] /\ H al = some (.lst avs) /\ ToldO H (e.map (mxo bb)) avs /\ H sp = some (.lst svs) /\ SpAt H svs ms /\ WD H wd w B kvs /\ RS bb H rs rls pcs ts /\ (∀ i, i < pcs.length -> w i (i + 1) = some (frs pcs ts i)) /\ Po.Tr ms w e w' /\ (∀ c ∈ e, c.1 ≠ c.2.1) /\ (∀ m ∈ ms, m.2.1 = Po.mid m.1 m.2.2 /\ m.2.2 <= pcs.length /\ ¬ m.2.2 - m.1 < 2) /\ pcs.length <= 200 /\ ms.length <= 200 /\ B <= 200 /\ (c = 1 ∨ c = 0 /\ ∀ m ∈ ms, (w m.1 m.2.2).isSome = true) /\
  ∀ H' kvs', Fr [wd] H H' -> WD H' wd w' (B + c * ms.length) kvs' -> Q (.bl true) H'
theorem ZDQ {n : Nat} {pcs : List (List Nat)} {ts : List Nat} (hpc : ∀ ys ∈ pcs, ∀ y ∈ ys, y < n) (hdj : ∀ (i j : Nat) xi xj y, i ≠ j -> pcs[i]? = some xi -> pcs[j]? = some xj -> y ∈ xi -> y ∉ xj) (i j : Nat) (h : i ≠ j) : Po.Fine n (frs pcs ts i) (frs pcs ts j) := fun p q hp hq => by
  obtain ⟨z1, a1, a2, _⟩ := ZDP hp
  obtain ⟨z2, b1, b2, _⟩ := ZDP hq
  exact ⟨fun e => hdj i j z1 z2 p.1 h a1 b1 a2 (by rw [e]; exact b2), hpc z1 (yAM a1) _ a2, hpc z2 (yAM b1) _ b2⟩
theorem ToldO.drop {H : Hp} {pr l : List (Nat × Nat × Bool)} {ws : List V} (h : ToldO H (pr ++ l) ws) : ToldO H l (ws.drop pr.length) := by
  refine ⟨by rw [yBH, h.len, yAD]; omega, fun j p q b hj => ?_⟩
  obtain ⟨t, h1, h2⟩ := h.get (pr.length + j) p q b (by rw [yAU (by omega), Nat.add_sub_cancel_left]; exact hj)
  exact ⟨t, by rw [List.getElem?_drop]; exact h1, h2⟩
theorem WD.leaf {H : Hp} {d : Addr} {w : Po.W} {B i : Nat} {v : Po.Fr} {kvs : List (List Key × V)} (h : WD H d w B kvs) : WD H d (Po.put w i (i + 1) v) B kvs := ⟨h.hd, h.len, fun a c v' hn hv => h.val a c v' hn (by unfold Po.put at hv; rw [if_neg (by omega)] at hv; exact hv)⟩
theorem rv_mem {bb : Bool} {x : Nat} {xs : List Nat} : x ∈ rv bb xs ↔ x ∈ xs := by cases bb; exact Iff.rfl; exact List.mem_reverse
theorem rm69 {bb : Bool} {xs : List Nat} {t : Nat} (hz : t < xs.length) (hnd : xs.Nodup) : ∃ k, (rv bb (xs.drop t))[k]? = some xs[t] /\ (∀ m, m < k -> (rv bb (xs.drop t))[m]? ≠ some xs[t]) /\ (rv bb (xs.drop t)).eraseIdx k = rv bb (xs.drop (t + 1)) := by
  have ed : xs.drop t = xs[t] :: xs.drop (t + 1) := yCJ hz
  have hn : (xs[t] :: xs.drop (t + 1)).Nodup := by rw [<- ed]; exact hnd.sublist (List.drop_sublist _ _)
  rw [ed]
  cases bb with
  | false => exact ⟨0, rfl, fun m h => by omega, rfl⟩
  | true =>
    have el : rv true (xs[t] :: xs.drop (t + 1)) = (xs.drop (t + 1)).reverse ++ [xs[t]] := by show (_ :: _).reverse = _; rw [List.reverse_cons]
    rw [el]
    refine ⟨(xs.drop (t + 1)).reverse.length, by rw [yAU (yAB _), yBJ]; rfl, fun m h e => ?_, ?_⟩
    . rw [yAV h] at e
      exact (yCL.mp hn).1 (List.mem_reverse.mp (yAM e))
    . rw [List.eraseIdx_append_of_length_le (yAB _), yBJ]
      show _ ++ [] = _
      rw [yAZ]; rfl
theorem ZED : ∀ (ts : List Nat) (pcs : List (List Nat)), ts.length = pcs.length -> (∀ (i : Nat) t zs, ts[i]? = some t -> pcs[i]? = some zs -> t <= zs.length) -> ts.sum <= (pcs.map List.length).sum /\ (ts.sum < (pcs.map List.length).sum ↔ ∃ (i : Nat) (t : Nat) (zs : List Nat), ts[i]? = some t /\ pcs[i]? = some zs /\ t < zs.length)
  | [], [], _, _ => ⟨yAB _, ⟨fun h => absurd h (yBG _), fun ⟨i, t, zs, h, _⟩ => by simp at h⟩⟩
  | [], _ :: _, h, _ => by cases h
  | _ :: _, [], h, _ => by cases h
  | t0 :: ts, z0 :: pcs, h, hb => by
    obtain ⟨i1, i2⟩ := ZED ts pcs (by simpa using h) fun i t zs a b => hb (i + 1) t zs (by simpa using a) (by simpa using b)
    have h0 := hb 0 t0 z0 rfl rfl
    rw [yAP, yBR, yBR]
    refine ⟨by omega, ⟨fun hlt => ?_, fun ⟨i, t, zs, a, b, c⟩ => ?_⟩⟩
    . by_cases z : t0 < z0.length
      . exact ⟨0, t0, z0, rfl, rfl, z⟩
      . obtain ⟨i, t, zs, a, b, c⟩ := i2.mp (by omega)
        exact ⟨i + 1, t, zs, by simpa using a, by simpa using b, c⟩
    . cases i with
      | zero =>
        rw [List.getElem?_cons_zero] at a b
        cases a
        cases b
        omega
      | succ i =>
        have := i2.mpr ⟨i, t, zs, by simpa using a, by simpa using b, c⟩
        omega
theorem sum_set1 : ∀ {ts : List Nat} {i t : Nat}, ts[i]? = some t -> (ts.set i (t + 1)).sum = ts.sum + 1
  | [], i, t, h => by simp at h
  | a :: ts, 0, t, h => by
    rw [List.getElem?_cons_zero] at h
    cases h
    rw [List.set_cons_zero, yBR, yBR]; omega
  | a :: ts, i + 1, t, h => by
    rw [List.set_cons_succ, yBR, yBR, sum_set1 (by simpa using h)]; omega
theorem PourAt.fr2 {bb : Bool} {CP : Addr} {H H' : Hp} {S : List Addr} {p ak pl tk ml wd : Addr} {pls : List Addr} {pcs : List (List Nat)} {ts : List Nat} {w : Po.W} {kvs : List (List Key × V)} (h : PourAt bb CP H p ak pl tk ml wd pls pcs ts w kvs) (e : Fr S H H') (n : p ∉ S /\ pl ∉ S /\ tk ∉ S /\ ml ∉ S /\ wd ∉ S /\ ∀ l ∈ pls, l ∉ S) (hS : ∀ t x, H t = some (.tup x) -> t ∉ S) : PourAt bb CP H' p ak pl tk ml wd pls pcs ts w kvs := by
  obtain ⟨mvs, h1, h2⟩ := h.hml
  exact ⟨h.pb.fr e n.1 n.2.1 n.2.2.2.2.2, e _ _ n.2.2.1 h.htk, ⟨mvs, e _ _ n.2.2.2.1 h1, h2.keep fun t z y => e _ _ (hS _ _ y) y⟩, h.hwd.fr e n.2.2.2.2.1 hS, h.tlen, h.ne⟩
theorem cutV_from {xs : List V} {n : Nat} (h : n <= xs.length) : cutV xs (some (n : Int)) none = xs.drop n := by
  unfold cutV
  rw [HT.sIx_none, HT.sIx_nat, Nat.min_eq_left h]
  exact yBI (by rw [yBH]; exact yAB _)
theorem rep_sum : ∀ n : Nat, (List.replicate n 0).sum = 0
  | 0 => rfl
  | n + 1 => by rw [List.replicate_succ, yBR, rep_sum n]
structure AX (a rl bl lg tl p pl tk ml rs sp : Addr) (pls rls : List Addr) : Prop where
  nd : rls.Nodup
  nrs : rs ∉ [p, tk, a, lg, tl]
  nsp : sp ∉ [p, tk, a, lg, tl]
  ls : ∀ l ∈ rls, l ∉ [p, tk, a, lg, tl] /\ l ∉ [rs, sp, pl, ml, rl, bl] /\ l ∉ pls
structure Wk (bb : Bool) (CA CR CP : Addr) (H X : Hp) (ks : List Int) (xs : List V) (a rl ru tl g lg bl p pl tk ml wd wo rs sp : Addr) (pls rls : List Addr) (pcs : List (List Nat)) (pr : List (Nat × Nat × Bool)) (ts : List Nat) (w : Po.W) (kvs kvo : List (List Key × V)) (B k : Nat) : Prop where
  st : SitO CA CR X ks xs a rl ru tl g lg bl pr
  few : pr.length <= 100 * (k + 1)
  pa : PourAt bb CP X p a pl tk ml wd pls pcs ts w kvs
  rr : 0 < pcs.length -> Po.RR (frs pcs ts) w 0 pcs.length
  rst : RS bb X rs rls pcs ts
  wdl : WD X wo w B kvo
  sum : ts.sum = k
  low : ∀ (i : Nat) t zs, ts[i]? = some t -> pcs[i]? = some zs -> t <= zs.length
  ne : wd ≠ wo
  spn : ∃ svs, X sp = some (.lst svs) /\ SpAt X svs (Po.mts 0 pcs.length)
theorem Wk.mono {bb : Bool} {CA CR CP : Addr} {H X Y : Hp} {ks : List Int} {xs : List V} {a rl ru tl g lg bl p pl tk ml wd wo rs sp : Addr} {pls rls : List Addr} {pcs : List (List Nat)} {pr : List (Nat × Nat × Bool)} {ts : List Nat} {w : Po.W} {kvs kvo : List (List Key × V)} {B k : Nat} (h : Wk bb CA CR CP H X ks xs a rl ru tl g lg bl p pl tk ml wd wo rs sp pls rls pcs pr ts w kvs kvo B k) (e : Same X Y) : Wk bb CA CR CP H Y ks xs a rl ru tl g lg bl p pl tk ml wd wo rs sp pls rls pcs pr ts w kvs kvo B k :=
  ⟨h.st.mono e, h.few, h.pa.mono e, h.rr, h.rst.mono e, h.wdl.mono e, h.sum, h.low, h.ne, let ⟨s, h1, h2⟩ := h.spn; ⟨s, e _ _ h1, h2.keep fun _ _ z => e _ _ z⟩⟩
theorem rng_one : ∀ {n i : Nat}, i < n -> (List.range n).filter (fun q => decide (q = i)) = [i]
  | 0, i, h => by omega
  | n + 1, i, h => by
    rw [List.range_succ, yBO]
    by_cases e : i = n
    . subst e
      rw [List.filter_eq_nil_iff.mpr fun x hx => by have := List.mem_range.mp hx; simp; omega]
      simp
    . rw [rng_one (by omega), yBK (by simp; omega)]; rfl
def ZDG (CA CR CL CP : Addr) : Sp := fun vs H Q _ => ∃ (bb : Bool) (ks : List Int) (xs : List V) (a rl ru tl g lg bl p pl tk ml wd : Addr) (pls : List Addr) (pcs : List (List Nat)) (w wn : Po.W) (kvs : List (List Key × V)) (rs sp : Addr) (rls : List Addr) (svs : List V) (l : Po.Asked), vs = [.ref p, .ref lg, .ref sp, .ref rs, .bl bb] /\ SitO CA CR H ks xs a rl ru tl g lg bl (l.map (mxo bb)) /\ PourAt bb (cond bb CL CP) H p a pl tk ml wd pls pcs (List.replicate pcs.length 0) w kvs /\ PX a rl bl lg tl p pl tk ml pls /\ AX a rl bl lg tl p pl tk ml rs sp pls rls /\ RS bb H rs rls pcs (List.replicate pcs.length 0) /\ H sp = some (.lst svs) /\ SpAt H svs (Po.mts 0 pcs.length) /\ (0 < pcs.length -> Po.RR (frs pcs (List.replicate pcs.length 0)) w 0 pcs.length) /\ (∀ i, i < pcs.length -> wn i (i + 1) = some (frs pcs (List.replicate pcs.length 0) i)) /\ (∀ a c, ¬ c - a < 2 -> wn a c = none) /\ Po.Tr (Po.mts 0 pcs.length) wn l w /\ Po.FineA ks.length l /\ l.length <= 60 /\ ks.length <= 200 /\ pcs.length <= 40 /\ (∀ ys ∈ pcs, ys.Nodup /\ (∀ y ∈ ys, y < ks.length) /\ ys.length <= 119) /\ (∀ (i j : Nat) xi xj y, i ≠ j -> pcs[i]? = some xi -> pcs[j]? = some xj -> y ∈ xi -> y ∉ xj) /\ (pcs.map List.length).sum <= 119 /\
  ∀ H' pr', SitO CA CR H' ks xs a rl ru tl g lg bl pr' -> Q (.bl true) H'
def ZDH (K : W.Frag) : Sp := fun vs H Q _ => ∃ (a : Addr) (ns : List Int) (m : Int), vs = [.ref a, .int m] /\ SqL K H a (ns.map V.int) /\ ns.length <= 63 /\ ∀ l H' (zs : List Int), Same H H' -> H l = none -> H' l = some (.lst (zs.map V.int)) -> zs.length <= 200 -> Q (.ref l) H'
theorem ZEv {bb : Bool} {xs : List Nat} : rv bb (rv bb xs) = xs := by cases bb; rfl; exact List.reverse_reverse _
section
variable {P : Program} {w : World} {K : W.Frag} {mg : Str -> Option Value} {base : Heap} {C_Pour C_LastPour C_Asker C_AskedRule : Addr} {cc_teller Pt_teller : Addr} {C_PX : Addr} {bb : Bool}
theorem ok_teller {f : Addr} {fd : FuncData} (F : Fun K "_law_teller" "_law_teller" ZBm f fd) (hcd : fd.code = .ref cc_teller) (C : PySem.W.CodeHd base cc_teller Pt_teller) (B : ZDd mg base) : FnOk P w K mg base CX0 1 f fd ["_law_log", "_law_bits_here"] (ZDy Pt_teller (ZEX ZAM) "_law_teller_here" "_law_teller.<locals>._law_teller_here" (ZAQ ZAM) (ZAL ZAM) (ZAC ZAM) ["_law_bits_here", "_law_log"] [1, 0] 2) :=
  teller_ok F sc_teller hcd C B rfl (fun _ _ => rfl) rfl rfl (fun _ _ => rfl) rfl (by decide) (by decide) (by decide +kernel) (by decide +kernel) (by decide +kernel) (hix_of rfl) rfl
theorem clo_teller (T : Bt K mg C_Pour C_LastPour C_Asker C_AskedRule) : CloOk P w K mg base 1 (ZBB) := by
  refine clo_of (k := 0) (iname := "_law_teller_here") (iq := "_law_teller.<locals>._law_teller_here") (ip := ZAQ ZAM) (ib := ZAL ZAM) (isc := ZAC ZAM) csc_teller (fun f vs H Q h => ?_) (fun f vs H Q h => ?_) (fun cl doc pm ctv c' us hl => match us, hl with | [_, _], _ => rfl) (fun g cs cl cd A outer s H vs Q hr C h => ?_)
  . obtain ⟨g, x, y, lg, bl, k, k2, i, j, bs, ws, rfl, rfl, hclo, hbl, hbn, hx, hy, hi, hj, hlg, hws, q⟩ := h
    exact ⟨_, _, rfl, hclo⟩
  . obtain ⟨g, x, y, lg, bl, k, k2, i, j, bs, ws, rfl, rfl, hclo, hbl, hbn, hx, hy, hi, hj, hlg, hws, q⟩ := h
    rfl
  obtain ⟨g, x, y, lg, bl, k, k2, i, j, bs, ws, eg, rfl, hclo, hbl, hbn, hx, hy, hi, hj, hlg, hws, q⟩ := h
  cases eg
  obtain ⟨cl2, C2⟩ := hclo
  obtain rfl := C.inj' C2
  refine ⟨_, (ZAB (ZAN (i := 2) csc_teller.nd rfl (by walk_at "o") (ZBY ZC2 (ZAt ZB0 (pv 0) ZAF (fun _ _ => rfl)) (ZAt ZB0 (pv 1) ZAF (fun _ _ => rfl)) (ZAS _)))
   (ZAB (ZA4 (ZAP (ZES hr.units) (pv 3) (ZBM ZAD) (ZAS _))
   (ZAH (ZAN (i := 2) csc_teller.nd rfl (by walk_at "o") (ZBY ZBh (ZAt ZAi (pv 3) (ZAR ZAq (ZAK ZAJ rfl T.b_len PySem.boot_len (ZAA (pv 4) ZAD)) (ZAK ZAJ rfl T.b_len PySem.boot_len (ZAA (pv 3) ZAD))) (fun _ _ => rfl)) ZAF (ZAS _)))) ZAX)
   (ZAB (ZBx (ZDN PySem.F.plainAttrs_list PySem.F.slot_list_append PySem.F.type_list_append ZBz (pv 4) (ZAA (ZBC (ZAA (ZAt ZB0 (pv 0) ZAF (fun _ _ => rfl)) (ZAA (ZAt ZB0 (pv 1) ZAF (fun _ _ => rfl)) (ZAA (pv 2) ZAD)))) ZAD)))
   (ZAH (ZAW (pv 2)))))), ?_⟩
  walk_at "rd"
  have cells := C.cells
  have hx' : hid cl H x = some (.tup [.int k, .int i]) := ZBV cells hx (by intro ob z; cases z)
  have hy' : hid cl H y = some (.tup [.int k2, .int j]) := ZBV cells hy (by intro ob z; cases z)
  have hlg' : hid cl H lg = some (.lst ws) := ZBV cells hlg (by intro ob z; cases z)
  have hbl' : hid cl H bl = some (.lst (bs.map V.int)) := ZBV cells hbl (by intro ob z; cases z)
  refine ZBK (SqT.of hx') (ZAb (by decide) rfl) (ZBK (SqT.of hy') (ZAb (by decide) rfl) ?_)
  walk_at "rd"
  refine ⟨yAF _, fun e0 he0 => ?_⟩
  obtain ⟨H0, e1, s1, h1⟩ := newH he0 (.lst [])
  rw [e1]; clear e1
  refine neD_of Enc.int.list (by decide) (a := bs) (b := []) (ZCa (SqL.of (s1 _ _ hbl'))) (ZCa (xs := []) (SqL.of h1)) ⟨_, rfl, ?_⟩
  by_cases hb : bs = []
  . rw [if_neg (by rw [hb]; simp)]
    generalize decide (k < k2) = bv
    refine ⟨.inl ⟨rfl, _, SqL.of (s1 _ _ hlg')⟩, ZBK (SqT.of (s1 _ _ hx')) (ZAb (by decide) rfl) (ZBK (SqT.of (s1 _ _ hy')) (ZAb (by decide) rfl) ⟨ZAV (by decide), fun t ht => ?_⟩)⟩
    have ntl : t ≠ lg := fun z => by rw [z, s1 _ _ hlg'] at ht; cases ht
    refine ⟨lg, ws, _, rfl, rfl, ZAO ht _ _ _ (s1 _ _ hlg'), ZEL (by omega), fun hn => ?_⟩
    have nt := hn.ne (b := t) (by rw [ZAI ntl, ZAG])
    have nl := hn.ne (b := lg) ZAG
    rw [ZCl nl, ZCl nt]
    exact q _ t _ (back_same s1) (by rw [ZBv nt]; exact ht)
  . rw [if_pos (by simpa using hb)]
    have hb0 : 0 < bs.length := List.length_pos_iff.mpr hb
    refine ⟨lg, ws, rfl, .inl (SqL.of (s1 _ _ hlg')), bl, _, rfl, .inl (SqL.of (s1 _ _ hbl')), ?_⟩
    rw [yAA]
    have m0 := Int.emod_nonneg (ws.length : Int) (show (bs.length : Int) ≠ 0 by omega)
    have m1 := Int.emod_lt_of_pos (ws.length : Int) (show (0 : Int) < bs.length by omega)
    have hlt : ((ws.length : Int) % (bs.length : Int)).toNat < bs.length := by omega
    refine ⟨by omega, ZAz (SqL.of (s1 _ _ hbl')) (ZAb (v := .int bs[((ws.length : Int) % (bs.length : Int)).toNat]) (by omega) (by rw [yAG, yAC hlt]; rfl)) ?_⟩
    walk_at "rd"
    generalize decide (bs[((ws.length : Int) % (bs.length : Int)).toNat] = 1) = bv
    refine ⟨.inl ⟨rfl, _, SqL.of (s1 _ _ hlg')⟩, ZBK (SqT.of (s1 _ _ hx')) (ZAb (by decide) rfl) (ZBK (SqT.of (s1 _ _ hy')) (ZAb (by decide) rfl) ⟨ZAV (by decide), fun t ht => ?_⟩)⟩
    have ntl : t ≠ lg := fun z => by rw [z, s1 _ _ hlg'] at ht; cases ht
    refine ⟨lg, ws, _, rfl, rfl, ZAO ht _ _ _ (s1 _ _ hlg'), ZEL (by omega), fun hn => ?_⟩
    have nt := hn.ne (b := t) (by rw [ZAI ntl, ZAG])
    have nl := hn.ne (b := lg) ZAG
    rw [ZCl nl, ZCl nt]
    exact q _ t _ (back_same s1) (by rw [ZBv nt]; exact ht)
theorem ok_Asker_init {f : Addr} {fd : FuncData} {dv : List Value} (F : FunD K "__init__" "Asker.__init__" ZA8 f fd dv) (T : Bt K mg C_Pour C_LastPour C_Asker C_AskedRule)
    : FnOk P w K mg base CX0 1 f fd ["self", "row", "rule", "most"] (ZCF C_Asker) := by
  refine F.ok sc_Asker_init (fun vs H Q E h => ?_) (fun cdv A outer s H vs Q E hr h => ?_)
  . obtain ⟨x, dx, r, ru, m, xs, rfl, hx, hr', q⟩ := h
    rfl
  obtain ⟨x, dx, r, ru, m, xs, rfl, hx, hr', q⟩ := h
  refine ⟨_, (ZAB (ZBf (pv 0) (ZBg call_list_of rfl T.b_list PyProof.Rows.boot_list (ZAA (pv 1) ZAD)) rfl)
   (ZAB (ZBf (pv 0) (pv 2) rfl)
   (ZAB (ZBf (pv 0) (pv 3) rfl)
   (ZAB (ZBf (pv 0) ZAF rfl)
   (ZAH (ZBf (pv 0) (ZBM ZAD) rfl)))))), ?_⟩
  walk_at "rd"
  refine ⟨r, xs, rfl, .inl (SqL.of hr'), fun rl hrl => ?_⟩
  have hxr : x ≠ rl := ZAE hx hrl
  obtain ⟨H1, e1, s1, h1⟩ := newH hrl (.lst xs)
  rw [e1]; clear e1
  refine setX (s1 _ _ hx) T.cl_Asker T.n_Asker_row (by decide) fun H2 x2 k2 => ?_
  walk_at "rd"
  refine setX x2 T.cl_Asker T.n_Asker_rule ZEy fun H3 x3 k3 => ?_
  walk_at "rd"
  refine setX x3 T.cl_Asker T.n_Asker_most ZEx fun H4 x4 k4 => ?_
  walk_at "rd"
  refine setX x4 T.cl_Asker T.n_Asker_asked ZEw fun H5 x5 k5 => ?_
  walk_at "rd"
  refine ⟨ZAV (by decide), fun tl htl => ?_⟩
  obtain ⟨H6, e6, s6, h6⟩ := newH htl (.lst [])
  rw [e6]; clear e6
  have hxt : x ≠ tl := ZAE x5 htl
  refine setX (s6 _ _ x5) T.cl_Asker T.n_Asker_told putL4 fun H7 x7 k7 => ?_
  have up : ∀ b o, b ≠ x -> H b = some o -> H5 b = some o := fun b o n e => by rw [k5 b n, k4 b n, k3 b n, k2 b n]; exact s1 b o e
  have h5 : H5 rl = some (.lst xs) := by rw [k5 rl (Ne.symm hxr), k4 rl (Ne.symm hxr), k3 rl (Ne.symm hxr), k2 rl (Ne.symm hxr)]; exact h1
  refine q rl tl H7 (fun b o n e => by rw [k7 b n]; exact s6 _ _ (up b o n e)) hrl ?_ (ZAE h5 htl) ((Ins.of x7 (yAE putL5 (by decide))).congr fA_canon) (by rw [k7 rl (Ne.symm hxr)]; exact s6 _ _ h5) (by rw [k7 tl (Ne.symm hxt)]; exact h6)
  cases e : H tl with
  | none => rfl
  | some o => rw [up tl o (Ne.symm hxt) e] at htl; cases htl
theorem ok_AskedRule_init {f : Addr} {fd : FuncData} (F : Fun K "__init__" "AskedRule.__init__" ZAk f fd) (T : Bt K mg C_Pour C_LastPour C_Asker C_AskedRule)
    : FnOk P w K mg base CX0 1 f fd ["self", "teller"] (ZCV C_AskedRule) := by
  refine F.ok sc_AskedRule_init (fun vs H Q E h => ?_) (fun cdv A outer s H vs Q E hr h => ?_)
  . obtain ⟨x, dx, g, rfl, hx, q⟩ := h
    rfl
  obtain ⟨x, dx, g, rfl, hx, q⟩ := h
  refine ⟨_, (ZAH (ZBf (pv 0) (pv 1) rfl)), ?_⟩
  walk_at "rd"
  refine setX hx T.cl_AskedRule T.n_AskedRule_teller (by decide) fun H2 x2 k2 => ?_
  exact q H2 (fun b o n e => by rw [k2 b n]; exact e) ((Ins.of x2 (yAE ZEy (by decide))).congr fun f => by simp only [ZAa, lkc])
theorem ok_AskedRule_before {f : Addr} {fd : FuncData} (F : Fun K "before" "AskedRule.before" ZAf f fd) (T : Bt K mg C_Pour C_LastPour C_Asker C_AskedRule)
    (clo_teller : CloOk P w K mg base 1 (ZBB))
    : FnOk P w K mg base CX0 2 f fd ["self", "x", "y"] (ZCg C_AskedRule ZBB) := by
  refine F.ok sc_AskedRule_before (fun vs H Q E h => ?_) (fun cdv A outer s H vs Q E hr h => ?_)
  . obtain ⟨ru, g, x, y, rfl, hru, ⟨o, ho, hfd⟩, q⟩ := h
    rfl
  obtain ⟨ru, g, x, y, rfl, hru, ⟨o, ho, hfd⟩, q⟩ := h
  refine ⟨_, (ZAB (ZAN (i := 3) sc_AskedRule_before.nd rfl (by walk_at "o") (ZAp (pv 0) rfl))
   (ZAH (ZAW (pe_callV (clo_teller.at (hr.mono (by decide))) (pv 3) (ZAA (pv 1) (ZAA (pv 2) ZAD)))))), ?_⟩
  walk_at "rd"
  refine hru.get T.cl_AskedRule T.n_AskedRule_teller (by walk_at "lk") ⟨⟨g, o, rfl, ho, hfd⟩, ?_⟩
  exact q
theorem ok_Asker_ahead {f : Addr} {fd : FuncData} (F : Fun K "ahead" "Asker.ahead" ZA1 f fd) (T : Bt K mg C_Pour C_LastPour C_Asker C_AskedRule)
    (t_AskedRule_before : Mt P w K mg base CX0 C_AskedRule "before" 2 ["self", "x", "y"] (ZCg C_AskedRule ZBB))
    : FnOk P w K mg base CX0 3 f fd ["self", "p", "q"] (ZCq C_Asker C_AskedRule ZBB) := by
  refine F.ok sc_Asker_ahead (fun vs H Q E h => ?_) (fun cdv A outer s H vs Q E hr h => ?_)
  . obtain ⟨a, rl, ru, tl, n, p, q, xs, ts, x, y, rfl, ha, hrl, hpq, hp0, hq0, hx, hy, hb⟩ := h
    rfl
  obtain ⟨a, rl, ru, tl, n, p, q, xs, ts, x, y, rfl, ha, hrl, hpq, hp0, hq0, hx, hy, hb⟩ := h
  refine ⟨_, (ZAB (ZA4 (PW.pt (ZDX (ZAP op_notN (ZAp (pv 0) rfl) ZBU (ZAS _)) (ZDK (ZAP op_ge (ZAp (pv 0) rfl) (ZAp (pv 0) rfl) (ZAS _)))))
   (ZAH (ps_never)) ZAX)
    (ZAU
   (ZAB (ZAN (i := 3) sc_Asker_ahead.nd rfl (by walk_at "o") (ZAK (ZC0 rfl) rfl T.b_max PyProof.Rows.boot_max (ZAA (pv 1) (ZAA (pv 2) ZAD))))
   (ZAB (ZAN (i := 4) sc_Asker_ahead.nd rfl (by walk_at "o") (ZAK (call_min2 rfl) rfl T.b_min PyProof.Rows.boot_min (ZAA (pv 1) (ZAA (pv 2) ZAD))))
   (ZAB (ZAN (i := 5) sc_Asker_ahead.nd rfl (by walk_at "o") (ZDM t_AskedRule_before (hr.mono (by decide)) ZAZ (ZAp (pv 0) rfl) (ZAA (ZAt ZAi (ZAp (pv 0) rfl) (pv 3) (fun _ _ => rfl)) (ZAA (ZAt ZAi (ZAp (pv 0) rfl) (pv 4) (fun _ _ => rfl)) ZAD))))
    (ZAU
   (ZAB (ps_fldaug (pv 0) ZAF in_add)
   (ZAB (ZBx (ZDN PySem.F.plainAttrs_list PySem.F.slot_list_append PySem.F.type_list_append ZBz (ZAp (pv 0) rfl) (ZAA (ZBC (ZAA (pv 3) (ZAA (pv 4) (ZAA (pv 5) ZAD)))) ZAD)))
   (ZAH (ZAW (ZB7 (ZAP ZBh (pv 1) (pv 3) (ZAS _)) (pv 5) (pe_not (pv 5))))))))))))), ?_⟩
  walk_at "rd"
  obtain ⟨ru', g, x', y', e, hru, ho, hrT⟩ := hb
  cases e
  refine ha.get T.cl_Asker T.n_Asker_most (by walk_at "lk") ?_
  rw [if_neg (by simp)]
  refine ZAd ?_
  walk_at "rd"
  refine ⟨p, q, rfl, p, q, rfl, ha.get T.cl_Asker T.n_Asker_rule (by walk_at "lk") (hru.meth (by walk_at "lk") ?_)⟩
  rw [ZE2, mn_eq]
  refine ha.get T.cl_Asker T.n_Asker_row (by walk_at "lk") (ZAz (SqL.of hrl) (ZAb (by omega) hx) ?_)
  refine ha.get T.cl_Asker T.n_Asker_row (by walk_at "lk") (ZAz (SqL.of hrl) (ZAb (by omega) hy) ?_)
  refine ⟨ru, g, x, y, rfl, hru, ho, rT_mono (fun v H1 h => ?_) hrT⟩
  obtain ⟨b, rfl, ha1, htl1, hts, hq⟩ := h
  have nta : tl ≠ a := ha1.ne htl1 fun _ _ _ z => by cases z
  refine ZAd ?_
  walk_at "rd"
  refine ha1.aug T.cl_Asker T.n_Asker_asked (by walk_at "lk") fun H2 ha2 k2 => ?_
  have ha2' := ha2.congr fA_asked
  have htl2 : H2 tl = some (.lst ts) := by rw [k2 tl nta]; exact htl1
  walk_at "rd"
  refine ha2'.get T.cl_Asker T.n_Asker_told (by walk_at "lk") ?_
  walk_at "rd"
  refine ⟨.inl ⟨rfl, _, SqL.of htl2⟩, ZAV (by decide), fun t ht => ?_⟩
  have ntt : t ≠ tl := fun z => by rw [z, htl2] at ht; cases ht
  have nat' : t ≠ a := ha2'.neN ht
  refine ⟨tl, ts, _, rfl, rfl, ZAO ht _ _ _ htl2, ZEL (by omega), ?_⟩
  have fin := hq t (upd (upd H2 t (.tup [.int (max p q), .int (min p q), .bl b])) tl (.lst (ts ++ [.ref t]))) (by rw [<- k2 t nat']; exact ht) (ha2'.keep (by rw [ZAI (Ne.symm nta), ZAI (Ne.symm nat')])) ZAG (by rw [ZAI ntt, ZAG]) (fun c h1 h2 h3 => by rw [ZAI h2, ZAI h3, k2 c h1])
  by_cases hlt : q < p
  . rw [if_pos hlt] at fin
    show (if _ then _ else _)
    rw [if_pos (by omega)]
    exact fin
  . rw [if_neg hlt] at fin
    show (if _ then _ else _)
    rw [if_neg (by omega)]
    exact fin
theorem ok_cell_at {f : Addr} {fd : FuncData} (F : Fun K "_law_cell_at" "_law_cell_at" ZBd f fd) (T : Bt K mg C_Pour C_LastPour C_Asker C_AskedRule)
    : FnOk P w K mg base CX0 1 f fd ["_law_script", "_law_k"] (ZCp K) := by
  refine F.ok sc_cell_at (fun vs H Q E h => ?_) (fun cdv A outer s H vs Q E hr h => ?_)
  . obtain ⟨a, ns, k, rfl, hS, h0, q⟩ := h
    rfl
  obtain ⟨a, ns, k, rfl, hS, h0, q⟩ := h
  refine ⟨_, (ZAB (ZA4 (ZAP ZC2 (pv 1) (ZAK ZAJ rfl T.b_len PySem.boot_len (ZAA (pv 0) ZAD)) (ZAS _))
   (ZAH (ZAW (ZAt ZAi (pv 0) (pv 1) (fun _ _ => rfl)))) ZAX)
   (ZAH (ZAW ZAF))), ?_⟩
  walk_at "rd"
  refine ⟨a, _, rfl, .inl hS, ?_⟩
  walk_at "rd"
  rw [yAA]
  unfold cellOf at q
  split
  . rename_i hk
    rw [if_pos hk] at q
    have hk' : k.toNat < ns.length := by omega
    refine ZAz hS (ZCm h0 (yAC hk')) ?_
    rw [yAC hk'] at q
    exact q
  . rename_i hk
    rw [if_neg hk] at q
    exact q
theorem ok_stream {f : Addr} {fd : FuncData} (F : Fun K "_law_stream" "_law_stream" ZB3 f fd) (T : Bt K mg C_Pour C_LastPour C_Asker C_AskedRule)
    : FnOk P w K mg base CX0 1 f fd ["_law_cell", "_law_many"] (ZBS) := by
  refine F.ok sc_stream (fun vs H Q E h => ?_) (fun cdv A outer s H vs Q E hr h => ?_)
  . obtain ⟨c, m, rfl, hm0, hm1, q⟩ := h
    rfl
  obtain ⟨c, m, rfl, hm0, hm1, q⟩ := h
  refine ⟨_, (ZAB (ZAN (i := 2) sc_stream.nd rfl (by walk_at "o") (ZBM ZAD))
   (ZAB (ZAN (i := 3) sc_stream.nd rfl (by walk_at "o") (ZAR ZAq (pv 0) ZAF))
   (ZAB (ZCD PassesOwn.never rfl (ZBR rfl T.b_range (ZAA (pv 1) ZAD)) (ZAY (i := 4) sc_stream.nd rfl (by walk_at "o"))
   (ZAB (ZAN (i := 3) sc_stream.nd rfl (by walk_at "o") (ZAR ZAq (ZAR ZBD (ZAR ZBD (ZAR ZBD (ZAR ZDB (pv 3) (pv 3)) (ZAR ZDB ZAF (pv 3))) (ZAR ZDB ZAF (pv 4))) ZAF) ZAF))
   (ZAH (ZBx (ZDN PySem.F.plainAttrs_list PySem.F.slot_list_append PySem.F.type_list_append ZBz (pv 2) (ZAA (pv 3) ZAD))))))
   (ZAH (ZAW (pv 2)))))), ?_⟩
  walk_at "rd"
  refine ⟨yAF _, fun l hl => ⟨by decide, ?_⟩⟩
  have c0 := Int.emod_nonneg c (show (2147483629 : Int) ≠ 0 by decide)
  have c1 := Int.emod_lt_of_pos c (show (0 : Int) < 2147483629 by decide)
  generalize c % 2147483629 = z0 at c0 c1 ⊢
  refine ZCi (by omega) (ZDR (fun i σ H' => ∃ (z : Int) (zs : List Int) (v4 : Option V), σ = [some (.int c), some (.int m), some (.ref l), some (.int z), v4] /\ 0 <= z /\ z < 2147483629 /\ H' = upd H l (.lst (zs.map V.int)) /\ zs.length = i /\ ∀ x ∈ zs, 0 <= x /\ x < 2 ^ 31) ⟨z0, [], _, rfl, c0, c1, rfl, rfl, fun _ h => nomatch h⟩ ?_ ?_)
  . rintro i σ H' hi ⟨z, zs, v4, rfl, z0, z1, rfl, hz, hall⟩
    walk_at "rd"
    have y0 := Int.emod_nonneg (z * z + 69621 * z + 31 * (0 + (i : Int)) + 5) (show (2147483629 : Int) ≠ 0 by decide)
    have y1 := Int.emod_lt_of_pos (z * z + 69621 * z + 31 * (0 + (i : Int)) + 5) (show (0 : Int) < 2147483629 by decide)
    refine ⟨.inl ⟨by omega, by omega⟩, .inl ⟨by decide, by decide⟩, .inl ⟨by decide, by decide⟩, by decide, .inl ⟨rfl, _, SqL.of ZAG⟩, l, zs.map V.int, _, rfl, rfl, ZAG, by rw [yAA]; exact ZAw (by omega), ?_⟩
    generalize (z * z + 69621 * z + 31 * (0 + (i : Int)) + 5) % 2147483629 = y at y0 y1 ⊢
    refine ⟨y, zs ++ [y], _, rfl, y0, y1, by rw [ZDe, yAQ]; rfl, by rw [yAD, hz]; rfl, fun x hx => ?_⟩
    rcases yBB.mp hx with h | h
    . exact hall x h
    . rw [yAK.mp h]; omega
  . rintro σ H' ⟨z, zs, v4, rfl, z0, z1, rfl, hz, hall⟩
    walk_at "rd"
    exact q l _ zs (ZAO hl _) hl ZAG (by omega) hall
theorem ok_blocks {f : Addr} {fd : FuncData} (F : Fun K "_law_blocks" "_law_blocks" ZB6 f fd) (T : Bt K mg C_Pour C_LastPour C_Asker C_AskedRule)
    (f_stream : Fn P w K mg base CX0 "_law_stream" 1 ["_law_cell", "_law_many"] (ZBS))
    : FnOk P w K mg base CX0 2 f fd ["_law_keys_here", "_law_cell"] (ZBl) := by
  refine F.ok sc_blocks (fun vs H Q E h => ?_) (fun cdv A outer s H vs Q E hr h => ?_)
  . obtain ⟨a, ks, c, rfl, ha, hk, q⟩ := h
    rfl
  obtain ⟨a, ks, c, rfl, ha, hk, q⟩ := h
  refine ⟨_, (ZAB (ZAN (i := 2) sc_blocks.nd rfl (by walk_at "o") (ZBM ZAD))
   (ZAB (ZCD PassesOwn.never rfl (ZAs (ZAu f_stream (hr.mono (by decide)) rfl ZAZ (ZAA (pv 1) (ZAA (ZAK ZAJ rfl T.b_len PySem.boot_len (ZAA (pv 0) ZAD)) ZAD)))) (ZAY (i := 3) sc_blocks.nd rfl (by walk_at "o"))
   (ZAB (ZAN (i := 4) sc_blocks.nd rfl (by walk_at "o") (ZAK ZBt rfl T.b_sorted PyProof.Rows.boot_sorted (ZAA (ZCP ZDI (pv 0) (ZCG (ZAK ZAJ rfl T.b_len PySem.boot_len (ZAA (pv 2) ZAD))) (ZCG (ZAR ZBD (ZAR ZBD (ZAK ZAJ rfl T.b_len PySem.boot_len (ZAA (pv 2) ZAD)) ZAF) (ZAR ZAq (pv 3) ZAF)))) ZAD)))
   (ZAB (ZA4 (ZAP ZBh (ZAR ZAq (ZAR ZAm (pv 3) ZAF) ZAF) ZAF (ZAS _))
   (ZAH (ZBx (pe_bm0 PySem.F.plainAttrs_list PySem.F.slot_list_reverse PySem.F.type_list_reverse mt_reverse (pv 4)))) ZAX)
   (ZAH (ZAN (i := 2) sc_blocks.nd rfl (by walk_at "o") (ZAR ZDZ (pv 2) (pv 4)))))))
   (ZAH (ZAW (pv 2))))), ?_⟩
  walk_at "rd"
  refine ⟨yAF _, fun p hp => ⟨a, _, rfl, .inl (SqL.of (ZAO hp _ _ _ ha)), ?_⟩⟩
  rw [yAA]
  refine ⟨c, ks.length, rfl, by omega, by omega, fun l H1 zs s1 hl h1 hz hall => ?_⟩
  refine ZCZ (SqL.of h1) (fun i σ H' => ∃ (v3 v4 : Option V) (r : Addr) (row : List Int), σ = [some (.ref a), some (.int c), some (.ref r), v3, v4] /\ H' l = some (.lst (zs.map V.int)) /\ H' r = some (.lst (row.map V.int)) /\ row.length <= ks.length /\ Same H H' /\ H r = none) ⟨_, _, p, [], rfl, h1, s1 _ _ ZAG, yAF _, (ZAO hp _).trans s1, hp⟩ (fun i σ H' _ ⟨v3, v4, r, row, _, h, _⟩ => SqL.of h) ?_ ?_
  . rintro i x σ H' hx ⟨v3, v4, r, row, rfl, hl', hr', hrow, hs, hn⟩
    obtain ⟨n, hn', rfl⟩ := ZB9 hx
    walk_at "rd"
    obtain ⟨z0, z1⟩ := hall n (yAM hn')
    refine ⟨r, _, rfl, .inl (SqL.of hr'), r, _, rfl, .inl (SqL.of hr'), by decide, ZD0 (SqL.of (hs _ _ ha)) fun p1 hp1 => ?_⟩
    rw [ZCy, yAA]
    have hcut : ((ks.drop (HT.sIx ks.length 0 (some (row.length : Int)))).take (HT.sIx ks.length ks.length (some ((row.length : Int) + 1 + n % 9)) - HT.sIx ks.length 0 (some (row.length : Int)))).length + row.length <= ks.length := by
      rw [yAT, yBH, HT.sIx_nat]
      omega
    generalize (ks.drop (HT.sIx ks.length 0 (some (row.length : Int)))).take (HT.sIx ks.length ks.length (some ((row.length : Int) + 1 + n % 9)) - HT.sIx ks.length 0 (some (row.length : Int))) = ws at hcut ⊢
    obtain ⟨H2, e2, s2, h2⟩ := newH hp1 (.lst (ws.map V.int))
    rw [e2]; clear e2
    refine ⟨p1, ws, rfl, SqL.of h2, by omega, fun l2 ms hl2 hperm _ => ⟨⟨by decide, by decide⟩, by decide, ?_⟩⟩
    have hml := hperm.length_eq
    have nr : r ≠ l2 := ZAE (s2 _ _ hr') hl2
    have nl : l ≠ l2 := ZAE (s2 _ _ hl') hl2
    have fin : ∀ us : List Int, us.length = ms.length -> ∀ p4, upd H2 l2 (.lst (us.map V.int)) p4 = none -> ∃ (v3 v4 : Option V) (r' : Addr) (row' : List Int), [some (V.ref a), some (.int c), some (.ref p4), some (.int n), some (.ref l2)] = [some (V.ref a), some (.int c), some (.ref r'), v3, v4] /\ (upd (upd H2 l2 (.lst (us.map V.int))) p4 (.lst (row.map V.int ++ us.map V.int))) l = some (.lst (zs.map V.int)) /\ (upd (upd H2 l2 (.lst (us.map V.int))) p4 (.lst (row.map V.int ++ us.map V.int))) r' = some (.lst (row'.map V.int)) /\ row'.length <= ks.length /\ Same H (upd (upd H2 l2 (.lst (us.map V.int))) p4 (.lst (row.map V.int ++ us.map V.int))) /\ H r' = none := fun us hu p4 hp4 => by
      have S2 : Same H (upd H2 l2 (.lst (us.map V.int))) := (hs.trans s2).new hl2
      have el : upd H2 l2 (.lst (us.map V.int)) l = some (.lst (zs.map V.int)) := by rw [ZAI nl]; exact s2 _ _ hl'
      exact ⟨_, _, p4, row ++ us, rfl, by rw [ZAI (ZAE el hp4)]; exact el, by rw [ZAG, yAQ], by rw [yAD]; omega, S2.new hp4, S2.free hp4⟩
    split
    . refine ⟨.inl ⟨rfl, _, SqL.of ZAG⟩, l2, _, rfl, rfl, ZAG, ?_⟩
      rw [ZDe, <- List.map_reverse]
      exact ⟨r, l2, _, _, rfl, rfl, by rw [ZAI nr]; exact s2 _ _ hr', ZAG, ZAV (by rw [yAA, yAA, yBZ]; omega), fin _ (yBZ ..)⟩
    . exact ⟨r, l2, _, _, rfl, rfl, by rw [ZAI nr]; exact s2 _ _ hr', ZAG, ZAV (by rw [yAA, yAA]; omega), fin _ rfl⟩
  . rintro σ H' ⟨v3, v4, r, row, rfl, hl', hr', hrow, hs, hn⟩
    walk_at "rd"
    exact q r _ row hs hn hr' (by omega)
theorem ok_nearly {f : Addr} {fd : FuncData} (F : Fun K "_law_nearly" "_law_nearly" ZB4 f fd) (T : Bt K mg C_Pour C_LastPour C_Asker C_AskedRule)
    (f_stream : Fn P w K mg base CX0 "_law_stream" 1 ["_law_cell", "_law_many"] (ZBS))
    : FnOk P w K mg base CX0 2 f fd ["_law_keys_here", "_law_cell"] (ZBl) := by
  refine F.ok sc_nearly (fun vs H Q E h => ?_) (fun cdv A outer s H vs Q E hr h => ?_)
  . obtain ⟨a, ks, c, rfl, ha, hk, q⟩ := h
    rfl
  obtain ⟨a, ks, c, rfl, ha, hk, q⟩ := h
  refine ⟨_, (ZAB (ZAN (i := 2) sc_nearly.nd rfl (by walk_at "o") (ZAK ZBt rfl T.b_sorted PyProof.Rows.boot_sorted (ZAA (pv 0) ZAD)))
   (ZAB (ZCD PassesOwn.never rfl (ZAs (ZAu f_stream (hr.mono (by decide)) rfl ZAZ (ZAA (pv 1) (ZAA (ZAR ZAq (pv 1) ZAF) ZAD)))) (ZAY (i := 3) sc_nearly.nd rfl (by walk_at "o"))
   (ZAH (ZA4 (ZAP (ZES hr.units) (pv 2) (ZBM ZAD) (ZAS _))
   (ZAB (ZAN (i := 4) sc_nearly.nd rfl (by walk_at "o") (ZAR ZAq (pv 3) (ZAK ZAJ rfl T.b_len PySem.boot_len (ZAA (pv 2) ZAD))))
   (ZAB (ZAN (i := 5) sc_nearly.nd rfl (by walk_at "o") (ZDN PySem.F.plainAttrs_list PySem.F.slot_list_pop PySem.F.type_list_pop mt_popAt (pv 2) (ZAA (pv 4) ZAD)))
   (ZAH (ZBx (ZDN PySem.F.plainAttrs_list PySem.F.slot_list_insert PySem.F.type_list_insert mt_insert (pv 2) (ZAA (ZAK (ZC0 rfl) rfl T.b_max PyProof.Rows.boot_max (ZAA ZAF (ZAA (ZAR ZBy (ZAR ZBy (pv 4) ZAF) (ZAR ZAq (ZAR ZAm (pv 3) ZAF) ZAF)) ZAD))) (ZAA (pv 5) ZAD))))))) ZAX)))
   (ZAH (ZAW (pv 2))))), ?_⟩
  walk_at "rd"
  refine ⟨a, ks, rfl, SqL.of ha, by omega, fun r ms hr' hperm _ => ⟨by decide, ?_⟩⟩
  have hml := hperm.length_eq
  refine ⟨c, c % 6, rfl, Int.emod_nonneg _ (by decide), by have := Int.emod_lt_of_pos c (show (0 : Int) < 6 by decide); omega, fun l H1 zs s1 hl h1 hz hall => ?_⟩
  refine ZCZ (SqL.of h1) (fun i σ H' => ∃ (v3 v4 v5 : Option V) (row : List Int), σ = [some (.ref a), some (.int c), some (.ref r), v3, v4, v5] /\ H' l = some (.lst (zs.map V.int)) /\ H' r = some (.lst (row.map V.int)) /\ row.length = ms.length /\ Same H H') ⟨_, _, _, ms, rfl, h1, s1 _ _ ZAG, rfl, (ZAO hr' _).trans s1⟩ (fun i σ H' _ ⟨v3, v4, v5, row, _, h, _⟩ => SqL.of h) ?_ ?_
  . rintro i x σ H' hx ⟨v3, v4, v5, row, rfl, hl', hr2, hrow, hs⟩
    obtain ⟨n, hn', rfl⟩ := ZB9 hx
    walk_at "rd"
    obtain ⟨z0, z1⟩ := hall n (yAM hn')
    refine ⟨yAF _, fun p1 hp1 => ?_⟩
    obtain ⟨H2, e2, s2, h2⟩ := newH hp1 (.lst [])
    rw [e2]; clear e2
    refine neD_of Enc.int.list (by decide) (a := row) (b := []) (ZCa (SqL.of (s2 _ _ hr2))) (ZCa (xs := []) (SqL.of h2)) ⟨_, rfl, ?_⟩
    by_cases hrn : row = []
    . rw [if_neg (by simp [hrn])]
      exact ⟨_, _, _, row, rfl, s2 _ _ hl', s2 _ _ hr2, hrow, hs.trans s2⟩
    rw [if_pos (by simp [hrn])]
    have hlen : 0 < row.length := List.length_pos_iff.mpr hrn
    refine ⟨r, _, rfl, .inl (SqL.of (s2 _ _ hr2)), ?_⟩
    rw [yAA]
    have a0 := Int.emod_nonneg n (show (row.length : Int) ≠ 0 by omega)
    have a1 := Int.emod_lt_of_pos n (show (0 : Int) < row.length by omega)
    obtain ⟨k, ek⟩ : ∃ k : Nat, n % (row.length : Int) = k := ⟨(n % (row.length : Int)).toNat, by omega⟩
    rw [ek] at a0 a1 ⊢
    have hk' : k < row.length := by omega
    refine ⟨by omega, .inl ⟨rfl, _, SqL.of (s2 _ _ hr2)⟩, r, _, k, k, .int row[k], rfl, rfl, s2 _ _ hr2, by omega, by omega, ?_, by rw [yAG, yAC hk']; rfl, .inl ⟨rfl, _, SqL.of ZAG⟩, ⟨by decide, by decide⟩, by decide, 0, _, rfl, ?_⟩
    . rw [yAA]
      exact PySem.StrLaws.seqIndex_nonneg (by omega) (by omega)
    rw [ZE2]
    have m0 := Int.emod_nonneg (n / 997) (show (4 : Int) ≠ 0 by decide)
    have m1 := Int.emod_lt_of_pos (n / 997) (show (0 : Int) < 4 by decide)
    generalize (n / 997) % 4 = w4 at m0 m1 ⊢
    refine ⟨r, _, _, _, rfl, rfl, ZAG, by rw [List.length_eraseIdx, yAA]; exact ZAw (by split <;> omega), by omega, ?_⟩
    rw [ZDe]
    obtain ⟨row', er, hl2⟩ : ∃ row' : List Int, insV ((row.map V.int).eraseIdx k) (max 0 ((k : Int) - 1 - w4)) (.int row[k]) = row'.map V.int /\ row'.length = row.length := by
      have e1 : (row.map V.int).eraseIdx k = (row.eraseIdx k).map V.int := by rw [List.eraseIdx_eq_take_drop_succ, List.eraseIdx_eq_take_drop_succ, yAQ, List.map_take, List.map_drop]
      rw [e1]
      unfold insV
      dsimp only
      generalize (if (max 0 ((k : Int) - 1 - w4)) < 0 then ((max 0 ((k : Int) - 1 - w4)) + (((row.eraseIdx k).map V.int).length : Int)).toNat else min (max 0 ((k : Int) - 1 - w4)).toNat ((row.eraseIdx k).map V.int).length) = kk
      refine ⟨(row.eraseIdx k).take kk ++ row[k] :: (row.eraseIdx k).drop kk, by rw [yAQ, yAP, List.map_take, List.map_drop], ?_⟩
      rw [yAD, yAR, yAT, yBH, List.length_eraseIdx, if_pos hk']
      omega
    rw [er]
    have nl : l ≠ r := fun z => by
      rw [z] at hl
      rw [ZAG] at hl
      cases hl
    exact ⟨_, _, _, row', rfl, by rw [ZAI nl]; exact s2 _ _ hl', ZAG, by omega, (hs.trans s2).upd hr'⟩
  . rintro σ H' ⟨v3, v4, v5, row, rfl, hl', hr2, hrow, hs⟩
    walk_at "rd"
    exact q r _ row hs hr' hr2 (by omega)
theorem ok_digits {f : Addr} {fd : FuncData} (F : Fun K "_law_digits" "_law_digits" ZB5 f fd) (T : Bt K mg C_Pour C_LastPour C_Asker C_AskedRule)
    (f_stream : Fn P w K mg base CX0 "_law_stream" 1 ["_law_cell", "_law_many"] (ZBS))
    (f_cell_at : Fn P w K mg base CX0 "_law_cell_at" 1 ["_law_script", "_law_k"] (ZCp K))
    : FnOk P w K mg base CX0 2 f fd ["_law_script", "_law_k", "_law_base"] (ZCN K) := by
  refine F.ok sc_digits (fun vs H Q E h => ?_) (fun cdv A outer s H vs Q E hr h => ?_)
  . obtain ⟨a, ns, k, b, rfl, hS, h63, hk, hb0, hb1, q⟩ := h
    rfl
  obtain ⟨a, ns, k, b, rfl, hS, h63, hk, hb0, hb1, q⟩ := h
  refine ⟨_, (ZAB (ZAN (i := 3) sc_digits.nd rfl (by walk_at "o") (ZAu f_stream (hr.mono (by decide)) rfl ZAZ (ZAA (ZAR ZBD (ZAK ((call_sumB rfl)) rfl T.b_sum PyProof.Rows.boot_sum (ZAA (pv 0) ZAD)) (pv 1)) (ZAA ZAF ZAD))))
   (ZAB (ZAN (i := 4) sc_digits.nd rfl (by walk_at "o") (ZBM ZAD))
   (ZAB (ZCD PassesOwn.never rfl (ZAs (ZBM (ZAA (ZAu f_cell_at (hr.mono (by decide)) rfl ZAZ (ZAA (pv 0) (ZAA (pv 1) ZAD))) (ZAA (ZAu f_cell_at (hr.mono (by decide)) rfl ZAZ (ZAA (pv 0) (ZAA (ZAR ZBD (pv 1) ZAF) ZAD))) ZAD)))) (ZAY (i := 5) sc_digits.nd rfl (by walk_at "o"))
   (ZAH (ZCD PassesOwn.never rfl (ZBR rfl T.b_range (ZAA ZAF ZAD)) (ZAY (i := 6) sc_digits.nd rfl (by walk_at "o"))
   (ZAB (ZA4 (ZAP ZC2 (pv 5) ZAF (ZAS _))
   (ZAH (ZAN (i := 5) sc_digits.nd rfl (by walk_at "o") (ZAt ZAi (pv 3) (ZAK ZAJ rfl T.b_len PySem.boot_len (ZAA (pv 4) ZAD)) (fun _ _ => rfl)))) ZAX)
   (ZAB (ZBx (ZDN PySem.F.plainAttrs_list PySem.F.slot_list_append PySem.F.type_list_append ZBz (pv 4) (ZAA (ZAR ZAq (pv 5) (pv 2)) ZAD)))
   (ZAH (ZAN (i := 5) sc_digits.nd rfl (by walk_at "o") (ZAR ZAm (pv 5) (pv 2)))))))))
   (ZAH (ZAW (pv 4)))))), ?_⟩
  walk_at "rd"
  refine ⟨a, ns, rfl, hS, _, 120, rfl, by decide, by decide, fun sp H1 zs s1 hsp h1 hz hall => ⟨yAF _, fun l hl => ?_⟩⟩
  obtain ⟨H2, e2, s2, h2⟩ := newH hl (.lst [])
  rw [e2]; clear e2
  have S2 : Same H H2 := s1.trans s2
  refine ⟨a, ns, k, rfl, S2.seq hS, hk, ?_⟩
  generalize cellOf ns k = c1
  refine ⟨a, ns, k + 1, rfl, S2.seq hS, by omega, ?_⟩
  generalize cellOf ns (k + 1) = c2
  refine ⟨ZAV (by decide), fun tw htw => ?_⟩
  obtain ⟨H3, e3, s3, h3⟩ := newH htw (.lst [.int c1, .int c2])
  rw [e3]; clear e3
  have ntl : tw ≠ l := Ne.symm (ZAE h2 htw)
  have nsl : sp ≠ l := ZAE h1 hl
  have hsp3 := s3 _ _ (s2 _ _ h1)
  refine ZCZ (SqL.of h3) (fun i σ H' => ∃ (v5 v6 : Option V) (us : List Int), σ = [some (.ref a), some (.int k), some (.int b), some (.ref sp), some (.ref l), v5, v6] /\ H' l = some (.lst (us.map V.int)) /\ (∀ c, c ≠ l -> H' c = H3 c) /\ us.length = 60 * i /\ ∀ z ∈ us, 0 <= z /\ z < b) ⟨_, _, [], rfl, s3 _ _ h2, fun _ _ => rfl, rfl, fun _ h => nomatch h⟩ (fun i σ H' _ ⟨v5, v6, us, _, _, h, _⟩ => SqL.of (by rw [h _ ntl]; exact h3)) ?_ ?_
  . rintro i x σ H' hx ⟨v5, v6, us, rfl, hl', hk', hlen, hall'⟩
    obtain ⟨c, rfl, hi⟩ : ∃ c : Int, x = .int c /\ i < 2 := by
      match i, hx with
      | 0, hx => exact ⟨c1, (Option.some.inj hx).symm, by decide⟩
      | 1, hx => exact ⟨c2, (Option.some.inj hx).symm, by decide⟩
    walk_at "rd"
    refine ZCi (by decide) (ZDR (fun t σ H'' => ∃ (c : Int) (v6 : Option V) (us : List Int), σ = [some (.ref a), some (.int k), some (.int b), some (.ref sp), some (.ref l), some (.int c), v6] /\ H'' l = some (.lst (us.map V.int)) /\ (∀ c, c ≠ l -> H'' c = H3 c) /\ us.length = 60 * i + t /\ ∀ z ∈ us, 0 <= z /\ z < b) ⟨c, _, us, rfl, hl', hk', by omega, hall'⟩ ?_ ?_)
    . rintro t σ H4 ht ⟨c, v6, us, rfl, hl4, hk4, hlen4, hall4⟩
      have ht' : t < 60 := ht
      walk_at "rd"
      have fin : ∀ c : Int, ∃ (c' : Int) (v6 : Option V) (us' : List Int), [some (V.ref a), some (V.int k), some (V.int b), some (V.ref sp), some (V.ref l), some (V.int (c / b)), some (V.int (0 + (t : Int)))] = [some (V.ref a), some (V.int k), some (V.int b), some (V.ref sp), some (V.ref l), some (V.int c'), v6] /\ (upd H4 l (.lst (us.map V.int ++ [.int (c % b)]))) l = some (.lst (us'.map V.int)) /\ (∀ d, d ≠ l -> upd H4 l (.lst (us.map V.int ++ [.int (c % b)])) d = H3 d) /\ us'.length = 60 * i + (t + 1) /\ ∀ z ∈ us', 0 <= z /\ z < b := fun c => by
        refine ⟨c / b, _, us ++ [c % b], rfl, by rw [ZAG, yAQ]; rfl, fun d hd => by rw [ZAI hd]; exact hk4 d hd, by rw [yAD, hlen4]; rfl, fun z hz' => ?_⟩
        rcases yBB.mp hz' with h | h
        . exact hall4 z h
        . rw [yAK.mp h]
          exact ⟨Int.emod_nonneg _ (by omega), Int.emod_lt_of_pos _ hb0⟩
      by_cases hc : c < 1
      . rw [if_pos hc]
        refine ⟨l, _, rfl, .inl (SqL.of hl4), ?_⟩
        rw [yAA, hlen4]
        have hidx : 60 * i + t < zs.length := by omega
        refine ZAz (SqL.of (by rw [hk4 _ nsl]; exact hsp3)) (ZCm (v := zs[60 * i + t]) (by omega) (by rw [Int.toNat_natCast]; exact yAC hidx)) ?_
        walk_at "rd"
        exact ⟨.inl ⟨rfl, _, SqL.of hl4⟩, hb0, l, _, _, rfl, rfl, hl4, by rw [yAA]; exact ZAw (by omega), ⟨hb0, by omega⟩, fin _⟩
      . rw [if_neg hc]
        exact ⟨.inl ⟨rfl, _, SqL.of hl4⟩, hb0, l, _, _, rfl, rfl, hl4, by rw [yAA]; exact ZAw (by omega), ⟨hb0, by omega⟩, fin _⟩
    . rintro σ H4 ⟨c, v6, us, rfl, hl4, hk4, hlen4, hall4⟩
      exact ⟨_, _, us, rfl, hl4, hk4, by rw [hlen4]; show 60 * i + 60 = _; omega, hall4⟩
  . rintro σ H' ⟨v5, v6, us, rfl, hl', hk', hlen, hall'⟩
    walk_at "rd"
    have S3 : Same H H' := fun c o h => by
      rw [hk' c (ZAE (s1 _ _ h) hl)]
      exact s3 _ _ (S2 _ _ h)
    exact q l _ us S3 (s1.free hl) hl' (by rw [hlen]; rfl) hall'
theorem ok_keys {f : Addr} {fd : FuncData} (F : Fun K "_law_keys" "_law_keys" ZC7 f fd) (T : Bt K mg C_Pour C_LastPour C_Asker C_AskedRule)
    (f_cell_at : Fn P w K mg base CX0 "_law_cell_at" 1 ["_law_script", "_law_k"] (ZCp K))
    (f_blocks : Fn P w K mg base CX0 "_law_blocks" 2 ["_law_keys_here", "_law_cell"] (ZBl))
    (f_nearly : Fn P w K mg base CX0 "_law_nearly" 2 ["_law_keys_here", "_law_cell"] (ZBl))
    (f_digits : Fn P w K mg base CX0 "_law_digits" 2 ["_law_script", "_law_k", "_law_base"] (ZCN K))
    (f_stream : Fn P w K mg base CX0 "_law_stream" 1 ["_law_cell", "_law_many"] (ZBS))
    : FnOk P w K mg base CX0 3 f fd ["_law_script", "_law_most"] (ZEK K) := by
  refine F.ok sc_keys (fun vs H Q E h => ?_) (fun cdv A outer s H vs Q E hr h => ?_)
  . obtain ⟨a, ns, rfl, hS, h63, q⟩ := h
    rfl
  obtain ⟨a, ns, rfl, hS, h63, q⟩ := h
  refine ⟨_, (ZAB (ZAN (i := 2) sc_keys.nd rfl (by walk_at "o") (ZAu f_cell_at (hr.mono (by decide)) rfl ZAZ (ZAA (pv 0) (ZAA ZAF ZAD))))
   (ZAB (ZAN (i := 3) sc_keys.nd rfl (by walk_at "o") (ZAu f_cell_at (hr.mono (by decide)) rfl ZAZ (ZAA (pv 0) (ZAA ZAF ZAD))))
   (ZAB (ZA4 (ZAP ZBh (ZAR ZAq (ZAR ZAm (pv 2) ZAF) ZAF) ZAF (ZAS _))
   (ZAH (ZAW (ZCP ZDI (ZAu f_digits (hr.mono (by decide)) rfl ZAZ (ZAA (pv 0) (ZAA ZAF (ZAA ZAF ZAD)))) ZDl (ZCG (ZAR ZAq (ZAR ZAm (pv 2) ZAF) (ZAR ZDB ZAF (pv 1))))))) ZAX)
   (ZAB (ZAN (i := 4) sc_keys.nd rfl (by walk_at "o") (ZAt ZAi (ZBM (ZAA ZAF (ZAA ZAF (ZAA ZAF (ZAA (ZAR op_pow ZAF ZAF) ZAD))))) (ZAR ZAq (pv 2) ZAF) (fun _ _ => rfl)))
   (ZAB (ZBe (i := 5) sc_keys.nd rfl (Or.inl rfl) rfl (k := 1) (js := [4]) (N' := ["_law_cell", "_law_width"]) (by rfl) (ZAs (ZCP ZDI (pv 0) (ZCG ZAF) (ZCG (ZAR ZBD ZAF (pv 1))))) (fun _ _ _ _ => ZAY (i := 0) (show (["_law_cell", "_law_width"] : List Str).Nodup by decide +kernel) rfl (by walk_at "o")) (fun _ _ _ _ => ZAy) (fun _ _ _ _ => (ZAR ZBy (ZAR ZAq (pv 0) (pv 1)) (ZAR ZAm (pv 1) ZAF))))
   (ZAB (ZAN (i := 6) sc_keys.nd rfl (by walk_at "o") (ZAR ZAq (ZAR ZAm (pv 2) ZAF) ZAF))
   (ZAB (ZA4 (PW.pt (ZEP (ZAP ZBh (pv 6) ZAF (ZAS _)) (ZD3 (ZAP ZBh (pv 6) ZAF (ZAS _)))))
   (ZAH (ZAW (ZAu f_blocks (hr.mono (by decide)) rfl ZAZ (ZAA (pv 5) (ZAA (pv 3) ZAD))))) ZAX)
   (ZAB (ZA4 (ZAP ZBh (pv 6) ZAF (ZAS _))
   (ZAH (ZAW (ZAK ZBt rfl T.b_sorted PyProof.Rows.boot_sorted (ZAA (pv 5) ZAD)))) ZAX)
   (ZAB (ZA4 (ZAP ZBh (pv 6) ZAF (ZAS _))
   (ZAH (ZAW (pe_list_rev rfl rfl T.b_list rfl T.b_reversed (ZAA (ZAK ZBt rfl T.b_sorted PyProof.Rows.boot_sorted (ZAA (pv 5) ZAD)) ZAD)))) ZAX)
   (ZAB (ZA4 (ZAP ZBh (pv 6) ZAF (ZAS _))
   (ZAH (ZAW (ZBL rfl (k := 1) (js := [4]) (N' := ["_law_number", "_law_width"]) (by rfl) (ZAs (ZAu f_stream (hr.mono (by decide)) rfl ZAZ (ZAA (pv 3) (ZAA (ZAR ZAq (pv 3) (ZAR ZDB ZAF (pv 1))) ZAD)))) (fun _ _ _ _ => ZAY (i := 0) (show (["_law_number", "_law_width"] : List Str).Nodup by decide +kernel) rfl (by walk_at "o")) (fun _ _ _ _ => ZAy) (fun _ _ _ _ => (ZAR ZBy (ZAR ZAq (pv 0) (pv 1)) (ZAR ZAm (pv 1) ZAF)))))) ZAX)
   (ZAB (ZA4 (ZAP ZBh (pv 6) ZAF (ZAS _))
   (ZAH (ZAW (ZAu f_nearly (hr.mono (by decide)) rfl ZAZ (ZAA (pv 5) (ZAA (pv 3) ZAD))))) ZAX)
   (ZAH (ZAW (pv 5)))))))))))))), ?_⟩
  walk_at "rd"
  refine ⟨a, ns, 0, rfl, hS, by decide, ?_⟩
  generalize cellOf ns 0 = md
  refine ⟨a, ns, 1, rfl, hS, by decide, ?_⟩
  generalize cellOf ns 1 = mx
  walk_at "rd"
  refine ⟨⟨by decide, by decide⟩, by decide, ?_⟩
  split
  . refine ⟨a, ns, 4, 120, rfl, hS, h63, by decide, by decide, by decide, fun l H1 zs s1 hl h1 hz _ => ?_⟩
    walk_at "rd"
    have m0 := Int.emod_nonneg (md / 64) (show (2 * 60 : Int) ≠ 0 by decide)
    have m1 := Int.emod_lt_of_pos (md / 64) (show (0 : Int) < 2 * 60 by decide)
    refine ⟨⟨by decide, by decide⟩, .inl ⟨by decide, by decide⟩, by decide, ZD0 (SqL.of h1) fun p1 hp1 => ?_⟩
    rw [ZCy]
    refine q p1 _ _ (s1.new hp1) (s1.free hp1) ZAG ?_
    rw [yAT, HT.sIx_none]
    obtain ⟨mm, em⟩ : ∃ mm : Nat, md / 64 % (2 * 60) = mm := ⟨(md / 64 % (2 * 60)).toNat, by omega⟩
    rw [em, HT.sIx_nat]
    omega
  refine ⟨⟨by decide, by decide, by decide⟩, ZAV (by decide), fun wl hwl => ⟨by decide, ?_⟩⟩
  obtain ⟨H1, e1, s1, h1⟩ := newH hwl (.lst [.int 2, .int 5, .int 100, .int (10 ^ Int.toNat 60)])
  rw [e1]; clear e1
  have hm : ∃ m : Int, 0 < m /\ atI [V.int 2, .int 5, .int 100, .int (10 ^ Int.toNat 60)] (md % 4) = some (.int m) := by
    have : md % 4 = 0 ∨ md % 4 = 1 ∨ md % 4 = 2 ∨ md % 4 = 3 := by omega
    rcases this with e | e | e | e <;> rw [e]
    . exact ⟨2, by decide, ZAb (by decide) rfl⟩
    . exact ⟨5, by decide, ZAb (by decide) rfl⟩
    . exact ⟨100, by decide, ZAb (by decide) rfl⟩
    . exact ⟨10 ^ Int.toNat 60, by decide, ZAb (by decide) rfl⟩
  obtain ⟨m, hm0, hmx⟩ := hm
  refine ZAz (SqL.of h1) hmx ?_
  refine ZD0 (s1.seq hS) fun sl hsl => ?_
  rw [ZCy]
  have hml : ((ns.drop (HT.sIx ns.length 0 (some 4))).take (HT.sIx ns.length ns.length (some (4 + 60)) - HT.sIx ns.length 0 (some 4))).length <= 63 := by
    rw [yAT, yBH]
    omega
  generalize (ns.drop (HT.sIx ns.length 0 (some 4))).take (HT.sIx ns.length ns.length (some (4 + 60)) - HT.sIx ns.length 0 (some 4)) = ms at hml ⊢
  obtain ⟨H2, e2, s2, h2⟩ := newH hsl (.lst (ms.map V.int))
  rw [e2]; clear e2
  refine compI_gen (rest := [some (.int m)]) (SqL.of h2) (by omega) rfl (fun _ _ => True) (fun c H' hc e Q' k => ?_) fun ks H3 kl hkl _ s3 hnl => ?_
  . walk_at "rd"
    exact ⟨hm0, ⟨by decide, by decide⟩, k _ _ (Same.refl _) trivial⟩
  obtain ⟨H4, e4, s4, h4⟩ := newH hnl (.lst (ks.map V.int))
  rw [e4]; clear e4
  have S3 : Same H H3 := fun b o h => s3 _ _ (s2 _ _ (s1 _ _ h))
  have S4 : Same H H4 := S3.trans s4
  walk_at "rd"
  refine ⟨⟨by decide, by decide⟩, by decide, ?_⟩
  generalize md / 4 % 8 = wy
  have blk : ZBl [.ref kl, .int mx] H4 Q E0 := ⟨kl, ks, mx, rfl, h4, by omega, fun l H' zs s hl h hz => q l H' zs (S4.trans s) (S4.free hl) h (by omega)⟩
  split
  . exact blk
  split
  . exact blk
  split
  . exact ⟨kl, ks, rfl, SqL.of h4, by omega, fun l us hl hp _ => q l _ us (S4.new hl) (S4.free hl) ZAG (by have := hp.length_eq; omega)⟩
  split
  . refine ⟨kl, ks, rfl, SqL.of h4, by omega, fun l us hl hp _ => ⟨l, _, rfl, SqL.of ZAG, fun r hr2 => ?_⟩⟩
    rw [<- List.map_reverse]
    exact q r _ us.reverse ((S4.new hl).new hr2) ((S4.new hl).free hr2) ZAG (by have := hp.length_eq; rw [yBZ]; omega)
  split
  . have hlt := Int.emod_lt_of_pos mx (show (0 : Int) < 2 * 60 by decide)
    refine ⟨.inl ⟨by decide, by decide⟩, by decide, mx, mx % (2 * 60), rfl, Int.emod_nonneg _ (by decide), by omega, fun l H5 zs s5 hl h5 hz hall => ?_⟩
    refine compI_gen (rest := [some (.int m)]) (SqL.of h5) (by omega) rfl (fun _ _ => True) (fun c H' hc e Q' k => ?_) fun us H6 l6 hul _ s6 hn6 => ?_
    . walk_at "rd"
      exact ⟨hm0, ⟨by decide, by decide⟩, k _ _ (Same.refl _) trivial⟩
    have S6 : Same H H6 := fun b o h => s6 _ _ (s5 _ _ (S4 _ _ h))
    exact q l6 _ us (S6.new hn6) (S6.free hn6) ZAG (by omega)
  split
  . exact blk
  exact q kl H4 ks S4 (S3.free hnl) h4 (by omega)
theorem ok_meetings_of {n : Nat} {f : Addr} {fd : FuncData} (F : Fun K "meetings_of" "meetings_of" ZA0 f fd) (T : Bt K mg C_Pour C_LastPour C_Asker C_AskedRule)
    (f_meetings_of : Fn P w K mg base CX0 "meetings_of" n ["first", "beyond"] (ZBO n))
    : FnOk P w K mg base CX0 (n + 1) f fd ["first", "beyond"] (ZBO (n + 1)) := by
  refine F.ok sc_meetings_of (fun vs H Q E h => ?_) (fun cdv A outer s H vs Q E hr h => ?_)
  . obtain ⟨f, b, rfl, hfb, hb6, hn0, hbn, q⟩ := h
    rfl
  obtain ⟨f, b, rfl, hfb, hb6, hn0, hbn, q⟩ := h
  refine ⟨_, (ZAB (ZA4 (ZAP ZC2 (ZAR ZBy (pv 1) (pv 0)) ZAF (ZAS _))
   (ZAH (ZAW (ZBM ZAD))) ZAX)
   (ZAB (ZAN (i := 2) sc_meetings_of.nd rfl (by walk_at "o") (ZAR ZBD (pv 0) (ZAR ZAm (ZAR ZBD (ZAR ZBy (pv 1) (pv 0)) ZAF) ZAF)))
   (ZAH (ZAW (ZAR ZDZ (ZAR ZDZ (ZAu f_meetings_of (hr.mono (yAB _)) rfl ZAZ (ZAA (pv 0) (ZAA (pv 2) ZAD))) (ZAu f_meetings_of (hr.mono (yAB _)) rfl ZAZ (ZAA (pv 2) (ZAA (pv 1) ZAD)))) (ZBM (ZAA (ZBC (ZAA (pv 0) (ZAA (pv 2) (ZAA (pv 1) ZAD)))) ZAD))))))), ?_⟩
  walk_at "rd"
  by_cases hlt : (b : Int) - f < 2
  . rw [if_pos hlt]
    refine ⟨yAF _, fun l hl => q l _ [] (ZAO hl _) hl ZAG ?_⟩
    rw [Po.mts_leaf (by omega)]
    exact MsAt.nil
  rw [if_neg hlt]
  refine ⟨⟨by decide, by decide⟩, ?_⟩
  have hm := Po.mid_lt (f := f) (b := b) (by omega)
  have em : (f : Int) + ((b : Int) - f + 1) / 2 = ((Po.mid f b : Nat) : Int) := by unfold Po.mid; omega
  rw [em]
  have hn2 : 2 ^ (n + 1 - 1) = 2 ^ n := by rw [yCZ]
  rw [hn2] at hbn
  obtain ⟨k, rfl⟩ : ∃ k, n = k + 1 := ⟨n - 1, by
    cases n with
    | zero => rw [Nat.pow_zero] at hbn; omega
    | succ n => rfl⟩
  rw [Nat.pow_succ] at hbn
  refine ⟨f, Po.mid f b, rfl, by omega, by omega, by omega, by rw [yCZ]; unfold Po.mid at *; omega, fun l1 H1 ws1 s1 hl10 hl1 hM1 => ?_⟩
  refine ⟨Po.mid f b, b, rfl, by omega, by omega, by omega, by rw [yCZ]; unfold Po.mid at *; omega, fun l2 H2 ws2 s2 hl20 hl2 hM2 => ?_⟩
  have len1 := hM1.len
  have len2 := hM2.len
  rw [Po.mts_len] at len1 len2
  refine ⟨l1, l2, ws1, ws2, rfl, rfl, s2 _ _ hl1, hl2, ZAV (by omega), fun l3 hl3 => ?_⟩
  obtain ⟨H3, e3, s3, h3⟩ := newH hl3 (.lst (ws1 ++ ws2))
  rw [e3]; clear e3
  refine ⟨ZAV (by decide), fun t ht => ?_⟩
  obtain ⟨H4, e4, s4, h4⟩ := newH ht (.tup [.int (f : Int), .int ((Po.mid f b : Nat) : Int), .int (b : Int)])
  rw [e4]; clear e4
  refine ⟨ZAV (by decide), fun l4 hl4 => ?_⟩
  obtain ⟨H5, e5, s5, h5⟩ := newH hl4 (.lst [.ref t])
  rw [e5]; clear e5
  refine ⟨l3, l4, _, _, rfl, rfl, s5 _ _ (s4 _ _ h3), h5, ZAV (by rw [yAD, yBN]; omega), fun l6 hl6 => ?_⟩
  have S5 := s1.trans (s2.trans (s3.trans (s4.trans s5)))
  refine q l6 _ _ (S5.trans (ZAO hl6 _)) (S5.free hl6) ZAG ?_
  rw [Po.mts_node (by omega)]
  have up : ∀ t x, H5 t = some (.tup x) -> upd H5 l6 (.lst (ws1 ++ ws2 ++ [.ref t])) t = some (.tup x) := fun t x h => ZAO hl6 _ _ _ h
  exact ((hM1.keep fun _ _ z => ZAO hl6 _ _ _ (s5 _ _ (s4 _ _ (s3 _ _ (s2 _ _ z))))).app (hM2.keep fun _ _ z => ZAO hl6 _ _ _ (s5 _ _ (s4 _ _ (s3 _ _ z))))).app (MsAt.one (ZAO hl6 _ _ _ (s5 _ _ h4)))
theorem ok_Pour_front_of {f : Addr} {fd : FuncData} (F : Fun K "front_of" "Pour.front_of" ZAo f fd) (T : Bt K mg C_Pour C_LastPour C_Asker C_AskedRule)
    : FnOk P w K mg base CX0 1 f fd ["self", "piece", "taken"] (ZBc false C_Pour) := by
  refine F.ok sc_Pour_front_of (fun vs H Q E h => ?_) (fun cdv A outer s H vs Q E hr h => ?_)
  . obtain ⟨p, ak, pl, tk, ml, wd, pls, pcs, i, t, xs, rfl, pb, hx, q⟩ := h
    rfl
  obtain ⟨p, ak, pl, tk, ml, wd, pls, pcs, i, t, xs, rfl, pb, hx, q⟩ := h
  refine ⟨_, (ZAB (ZAN (i := 3) sc_Pour_front_of.nd rfl (by walk_at "o") (ZAt ZAi (ZAp (pv 0) rfl) (pv 1) (fun _ _ => rfl)))
   (ZAH (ZAW (ZB7 (ZAP ZC2 (pv 2) (ZAK ZAJ rfl T.b_len PySem.boot_len (ZAA (pv 3) ZAD)) (ZAS _)) (ZBC (ZAA (ZAt ZAi (pv 3) (pv 2) (fun _ _ => rfl)) (ZAA (pv 1) ZAD))) ZBU)))), ?_⟩
  walk_at "rd"
  obtain ⟨l, el, hl⟩ := pb.at hx
  have hl : H l = some (.lst (nL xs)) := hl
  refine pb.hp.get T.cl_Pour T.n_Pour_pieces (by walk_at "lk") (ZAz (SqL.of pb.hpl) (ZAb (v := .ref l) (by omega) (by rw [Int.toNat_natCast, yAG, el]; rfl)) ?_)
  walk_at "rd"
  refine ⟨l, _, rfl, .inl (SqL.of hl), ?_⟩
  rw [yAA]
  by_cases hlt : (t : Int) < xs.length
  . rw [if_pos hlt]
    have ht : t < xs.length := by omega
    have e1 : xs[t]? = some xs[t] := yAC ht
    refine ZAz (SqL.of hl) (ZEY e1) ⟨ZAV (by decide), fun r hr' => q _ _ (ZAO hr' _) ?_⟩
    unfold ZBa
    rw [e1]
    exact ⟨r, rfl, ZAG⟩
  . rw [if_neg hlt]
    refine q _ _ (.refl _) ?_
    unfold ZBa
    rw [yBE (by omega)]
    rfl
theorem ok_LastPour_front_of {f : Addr} {fd : FuncData} (F : Fun K "front_of" "LastPour.front_of" ZAc f fd) (T : Bt K mg C_Pour C_LastPour C_Asker C_AskedRule)
    : FnOk P w K mg base CX0 1 f fd ["self", "piece", "taken"] (ZBc true C_LastPour) := by
  refine F.ok sc_LastPour_front_of (fun vs H Q E h => ?_) (fun cdv A outer s H vs Q E hr h => ?_)
  . obtain ⟨p, ak, pl, tk, ml, wd, pls, pcs, i, t, xs, rfl, pb, hx, q⟩ := h
    rfl
  obtain ⟨p, ak, pl, tk, ml, wd, pls, pcs, i, t, xs, rfl, pb, hx, q⟩ := h
  refine ⟨_, (ZAB (ZAN (i := 3) sc_LastPour_front_of.nd rfl (by walk_at "o") (ZAt ZAi (ZAp (pv 0) rfl) (pv 1) (fun _ _ => rfl)))
   (ZAH (ZAW (ZB7 (ZAP ZC2 (pv 2) (ZAK ZAJ rfl T.b_len PySem.boot_len (ZAA (pv 3) ZAD)) (ZAS _)) (ZBC (ZAA (ZAt ZAi (pv 3) (ZAR ZBy (ZAR ZBy (ZAK ZAJ rfl T.b_len PySem.boot_len (ZAA (pv 3) ZAD)) ZAF) (pv 2)) (fun _ _ => rfl)) (ZAA (pv 1) ZAD))) ZBU)))), ?_⟩
  walk_at "rd"
  obtain ⟨l, el, hl⟩ := pb.at hx
  have hl : H l = some (.lst (nL xs.reverse)) := hl
  refine pb.hp.get T.cl_LastPour T.n_LastPour_pieces (by walk_at "lk") (ZAz (SqL.of pb.hpl) (ZAb (v := .ref l) (by omega) (by rw [Int.toNat_natCast, yAG, el]; rfl)) ?_)
  walk_at "rd"
  refine ⟨l, _, rfl, .inl (SqL.of hl), ?_⟩
  rw [yAA, yBZ]
  by_cases hlt : (t : Int) < xs.length
  . rw [if_pos hlt]
    have ht : t < xs.length := by omega
    have e1 : xs[t]? = some xs[t] := yAC ht
    have e2 : xs.reverse[xs.length - 1 - t]? = some xs[t] := by
      rw [List.getElem?_reverse (by omega), show xs.length - 1 - (xs.length - 1 - t) = t by omega]; exact e1
    refine ⟨l, _, rfl, .inl (SqL.of hl), ?_⟩
    rw [yAA, yBZ, show (xs.length : Int) - 1 - t = ((xs.length - 1 - t : Nat) : Int) by omega]
    refine ZAz (SqL.of hl) (ZEY e2) ⟨ZAV (by decide), fun r hr' => q _ _ (ZAO hr' _) ?_⟩
    unfold ZBa
    rw [e1]
    exact ⟨r, rfl, ZAG⟩
  . rw [if_neg hlt]
    refine q _ _ (.refl _) ?_
    unfold ZBa
    rw [yBE (by omega)]
    rfl
theorem ok_Pour_goes_on {f : Addr} {fd : FuncData} (F : Fun K "goes_on" "Pour.goes_on" ZAx f fd) (T : Bt K mg C_Pour C_LastPour C_Asker C_AskedRule)
    (t_Asker_ahead : Mt P w K mg base CX0 C_Asker "ahead" 3 ["self", "p", "q"] (ZCq C_Asker C_AskedRule ZBB))
    : FnOk P w K mg base CX0 4 f fd ["self", "p", "q"] (ZCM C_Asker C_AskedRule false C_Pour) := by
  refine F.ok sc_Pour_goes_on (fun vs H Q E h => ?_) (fun cdv A outer s H vs Q E hr h => ?_)
  . obtain ⟨ks, xs, a, rl, ru, tl, g, lg, bl, p, pl, tk, ml, wd, pr, x, y, rfl, st, hp, hxy, hx, hy, hk, hpr, q⟩ := h
    rfl
  obtain ⟨ks, xs, a, rl, ru, tl, g, lg, bl, p, pl, tk, ml, wd, pr, x, y, rfl, st, hp, hxy, hx, hy, hk, hpr, q⟩ := h
  refine ⟨_, (ZAH (ZAW (ZDM t_Asker_ahead (hr.mono (by decide)) ZAZ (ZAp (pv 0) rfl) (ZAA (pv 1) (ZAA (pv 2) ZAD))))), ?_⟩
  walk_at "rd"
  refine hp.get T.cl_Pour T.n_Pour_asker (by walk_at "lk") (st.ha.meth (by walk_at "lk") ?_)
  refine st.ahead (p := x) (q := y) hxy hx hy hk (by omega) fun b H2 f2 s2 => ?_
  rw [<- mxo_f] at s2
  exact q _ H2 f2 s2
theorem ok_LastPour_goes_on {f : Addr} {fd : FuncData} (F : Fun K "goes_on" "LastPour.goes_on" ZAe f fd) (T : Bt K mg C_Pour C_LastPour C_Asker C_AskedRule)
    (t_Asker_ahead : Mt P w K mg base CX0 C_Asker "ahead" 3 ["self", "p", "q"] (ZCq C_Asker C_AskedRule ZBB))
    : FnOk P w K mg base CX0 4 f fd ["self", "p", "q"] (ZCM C_Asker C_AskedRule true C_LastPour) := by
  refine F.ok sc_LastPour_goes_on (fun vs H Q E h => ?_) (fun cdv A outer s H vs Q E hr h => ?_)
  . obtain ⟨ks, xs, a, rl, ru, tl, g, lg, bl, p, pl, tk, ml, wd, pr, x, y, rfl, st, hp, hxy, hx, hy, hk, hpr, q⟩ := h
    rfl
  obtain ⟨ks, xs, a, rl, ru, tl, g, lg, bl, p, pl, tk, ml, wd, pr, x, y, rfl, st, hp, hxy, hx, hy, hk, hpr, q⟩ := h
  refine ⟨_, (ZAH (ZAW (pe_not (ZDM t_Asker_ahead (hr.mono (by decide)) ZAZ (ZAp (pv 0) rfl) (ZAA (pv 1) (ZAA (pv 2) ZAD)))))), ?_⟩
  walk_at "rd"
  refine hp.get T.cl_LastPour T.n_LastPour_asker (by walk_at "lk") (st.ha.meth (by walk_at "lk") ?_)
  refine st.ahead (p := x) (q := y) hxy hx hy hk (by omega) fun b H2 f2 s2 => ?_
  refine ⟨_, rfl, ?_⟩
  rw [<- mxo_t] at s2
  exact q _ H2 f2 s2
theorem ok_Pour_met {f : Addr} {fd : FuncData} (F : Fun K "met" "Pour.met" ZBQ f fd) (T : Bt K mg C_Pour C_LastPour C_Asker C_AskedRule) (TX : BtX K C_PX)
    (t_Pour_goes_on : Mt P w K mg base CX0 C_PX "goes_on" 4 ["self", "p", "q"] (ZCM C_Asker C_AskedRule bb C_PX))
    : FnOk P w K mg base CX0 5 f fd ["self", "one", "other"] (ZEe C_Asker C_AskedRule bb C_PX) := by
  refine F.ok sc_Pour_met (fun vs H Q E h => ?_) (fun cdv A outer s H vs Q E hr h => ?_)
  . obtain ⟨ks, xs, a, rl, ru, tl, g, lg, bl, p, pl, tk, ml, wd, pr, u1, u2, one, other, rfl, st, hp, h1, h2, hc, hk, hpr, q⟩ := h
    rfl
  obtain ⟨ks, xs, a, rl, ru, tl, g, lg, bl, p, pl, tk, ml, wd, pr, u1, u2, one, other, rfl, st, hp, h1, h2, hc, hk, hpr, q⟩ := h
  refine ⟨_, (ZAB (ZA4 (PW.pt (ZEP (ZAP ZCs (pv 1) ZBU (ZAS _)) (ZD3 (ZAP ZCs (pv 2) ZBU (ZAS _)))))
   (ZAH (ZAW (ZB7 (ZAP ZCs (pv 1) ZBU (ZAS _)) (pv 2) (pv 1)))) ZAX)
   (ZAH (ZAW (ZB7 (ZCr (ZDM t_Pour_goes_on (hr.mono (by decide)) ZAZ (pv 0) (ZAA (ZAt ZB0 (pv 1) ZAF (fun _ _ => rfl)) (ZAA (ZAt ZB0 (pv 2) ZAF (fun _ _ => rfl)) ZAD)))) (pv 1) (pv 2))))), ?_⟩
  walk_at "rd"
  have nn : ∀ t, V.ref t ≠ V.non := fun _ z => by cases z
  cases one with
  | none =>
    cases (show u1 = V.non from h1)
    rw [if_pos rfl, if_pos rfl]
    refine q true u2 H .refl ?_ h2
    show SitO _ _ _ _ _ _ _ _ _ _ _ _ (pr ++ [])
    rw [yAZ]
    exact st
  | some x =>
    obtain ⟨t1, rfl, ht1⟩ := h1
    rw [if_neg (nn _)]
    cases other with
    | none =>
      cases (show u2 = V.non from h2)
      rw [if_pos rfl, if_neg (nn _)]
      refine q true _ H .refl ?_ ⟨t1, rfl, ht1⟩
      show SitO _ _ _ _ _ _ _ _ _ _ _ _ (pr ++ [])
      rw [yAZ]
      exact st
    | some y =>
      obtain ⟨t2, rfl, ht2⟩ := h2
      obtain ⟨g1, g2, g3⟩ := hc x y rfl rfl
      rw [if_neg (nn _)]
      refine hp.meth (by walk_at "lk") (ZBK (SqT.of ht1) (ZAb (by decide) rfl) (ZBK (SqT.of ht2) (ZAb (by decide) rfl) ?_))
      refine ⟨ks, xs, a, rl, ru, tl, g, lg, bl, p, pl, tk, ml, wd, pr, x.1, y.1, rfl, st, hp, g1, g2, g3, hk, hpr, fun b H2 f2 s2 => ⟨_, rfl, ?_⟩⟩
      have k2 : ∀ t z, H t = some (.tup z) -> H2 t = some (.tup z) := fun t z h => f2 _ _ (st.tupS h (fun _ z => by cases z) (fun _ _ _ z => by cases z)) h
      cases b with
      | true =>
        rw [if_pos rfl]
        exact q true _ H2 f2 s2 ⟨t1, rfl, k2 _ _ ht1⟩
      | false =>
        rw [if_neg yAX]
        exact q false _ H2 f2 s2 ⟨t2, rfl, k2 _ _ ht2⟩
theorem ok_Pour_held {f : Addr} {fd : FuncData} (F : Fun K "held" "Pour.held" ZBI f fd) (T : Bt K mg C_Pour C_LastPour C_Asker C_AskedRule) (TX : BtX K C_PX)
    (t_Pour_met : Mt P w K mg base CX0 C_PX "met" 5 ["self", "one", "other"] (ZEe C_Asker C_AskedRule bb C_PX))
    : FnOk P w K mg base CX0 6 f fd ["self", "meetings", "went_on"] (ZDW C_Asker C_AskedRule bb C_PX) := by
  refine F.ok sc_Pour_held (fun vs H Q E h => ?_) (fun cdv A outer s H vs Q E hr h => ?_)
  . obtain ⟨ks, xs, a, rl, ru, tl, g, lg, bl, p, pl, tk, ml, wd, mt, wo, pr, mvs, ms, w0, G, B, c, kvs, rfl, st, hp, np, nmt, hmt, hM, hml, hms, dt, hB, hrn, hcc, hk1000, hpr, q⟩ := h
    rfl
  obtain ⟨ks, xs, a, rl, ru, tl, g, lg, bl, p, pl, tk, ml, wd, mt, wo, pr, mvs, ms, w0, G, B, c, kvs, rfl, st, hp, np, nmt, hmt, hM, hml, hms, dt, hB, hrn, hcc, hk1000, hpr, q⟩ := h
  refine ⟨_, (ZAB (ZAN (i := 3) sc_Pour_held.nd rfl (by walk_at "o") (ZBg (call_dictC) rfl T.b_dict PyProof.Rows.boot_dict (ZAA (pv 2) ZAD)))
   (ZAB (ZCD PassesOwn.never rfl (ZAs (pv 1)) (ZER (n := 3) rfl (ZBn (ZAY (i := 4) sc_Pour_held.nd rfl (by walk_at "o")) (ZBn (ZAY (i := 5) sc_Pour_held.nd rfl (by walk_at "o")) (ZBn (ZAY (i := 6) sc_Pour_held.nd rfl (by walk_at "o")) ZDm))))
   (ZAH (ZCY (ZC5 hr) (pv 3) (ZBC (ZAA (pv 4) (ZAA (pv 6) ZAD))) (ZDM t_Pour_met (hr.mono (by decide)) ZAZ (pv 0) (ZAA (ZDn (ZC5 hr) (pv 3) (ZBC (ZAA (pv 4) (ZAA (pv 5) ZAD))) (fun _ _ => rfl)) (ZAA (ZDn (ZC5 hr) (pv 3) (ZBC (ZAA (pv 5) (ZAA (pv 6) ZAD))) (fun _ _ => rfl)) ZAD))) rfl)))
   (ZAH (ZAW (pv 3))))), ?_⟩
  walk_at "rd"
  refine ⟨wo, kvs, rfl, dt.hd, dt.sm, fun d hd => ?_⟩
  obtain ⟨H1, e1, s1, h1⟩ := newH hd (.dT kvs)
  rw [e1]; clear e1
  have dt1 : DT H1 d w0 B kvs := ⟨h1, dt.sm, dt.len, (dt.mono s1).val⟩
  have ndS : d ∉ [a, lg, tl] := st.newS hd
  refine ZCZ (SqL.of (s1 _ _ hmt)) (fun i σ X => ∃ v4 v5 v6 wi li kvi, σ = [some (.ref p), some (.ref mt), some (.ref wo), some (.ref d), v4, v5, v6] /\ Po.Safe (Po.Fine ks.length) G (ms.drop i) wi li /\ (∀ a c, (w0 a c).isSome = true -> (wi a c).isSome = true) /\ li.length <= i /\ DT X d wi (B + c * i) kvi /\ SitO C_Asker C_AskedRule X ks xs a rl ru tl g lg bl (pr ++ li.map (mxo bb)) /\ Fr [a, lg, tl] H X) ⟨_, _, _, w0, [], kvs, rfl, hrn, fun _ _ h => h, yAB _, by rw [Nat.mul_zero]; exact dt1, by rw [List.map_nil, yAZ]; exact st.mono s1, s1.fr⟩ (fun i σ X _ ⟨_, _, _, _, _, _, _, _, _, _, _, _, e⟩ => SqL.of (e _ _ nmt hmt)) ?_ ?_
  . rintro i x σ X hx ⟨v4, v5, v6, wi, li, kvi, rfl, hrun, hdom, hli, dti, sti, fi⟩
    have hi := (yAJ.mp hx).1
    rw [hM.len] at hi
    obtain ⟨m, hm⟩ : ∃ m, ms[i]? = some m := ⟨_, yAC hi⟩
    obtain ⟨t, ht1, ht2⟩ := hM.get i m hm
    rw [hx] at ht1
    cases ht1
    have htX := fi _ _ (st.tupS ht2 (fun _ z => by cases z) (fun _ _ _ z => by cases z)) ht2
    refine ZDu (SqT.of htX) rfl ?_
    walk_at "rd"
    rw [drop_consG hm] at hrun
    obtain ⟨x, y, e1, e2, hfine, hrun⟩ := hrun
    have hpi := ZCR fi np hp
    obtain ⟨u1, hu1, fv1⟩ := dti.val _ _ _ e1
    obtain ⟨u2, hu2, fv2⟩ := dti.val _ _ _ e2
    refine hpi.meth (by walk_at "lk") ⟨ZAV (by decide), fun k1 hk1 => ?_⟩
    obtain ⟨X1, eX1, sX1, hX1⟩ := newH hk1 (.tup [.int (m.1 : Int), .int (m.2.1 : Int)])
    rw [eX1]; clear eX1
    refine ⟨d, u1, rfl, by have := DGet.t (k := kQ m.1 m.2.1) (sX1 _ _ dti.hd) hX1; rw [hu1] at this; exact this, ZAV (by decide), fun k2 hk2 => ?_⟩
    obtain ⟨X2, eX2, sX2, hX2⟩ := newH hk2 (.tup [.int (m.2.1 : Int), .int (m.2.2 : Int)])
    rw [eX2]; clear eX2
    have S2 := sX1.trans sX2
    refine ⟨d, u2, rfl, by have := DGet.t (k := kQ m.2.1 m.2.2) (S2 _ _ dti.hd) hX2; rw [hu2] at this; exact this, ?_⟩
    have sti2 := sti.mono S2
    refine ⟨ks, xs, a, rl, ru, tl, g, lg, bl, p, pl, tk, ml, wd, pr ++ li.map (mxo bb), u1, u2, x, y, rfl, sti2, hpi.mono S2, fv1.keep (fun _ _ z => S2 _ _ z), fv2.keep (fun _ _ z => S2 _ _ z), hfine, hk1000, by rw [yAD, yAA]; omega, fun b u Y fY stY fvY => ⟨ZAV (by decide), fun k3 hk3 => ?_⟩⟩
    obtain ⟨Y2, eY2, sY2, hY2⟩ := newH hk3 (.tup [.int (m.1 : Int), .int (m.2.2 : Int)])
    rw [eY2]; clear eY2
    have dtY : DT Y2 d wi (B + c * i) kvi := ((dti.mono S2).fr fY ndS (fun t z h => sti2.tupS h (fun _ z => by cases z) (fun _ _ _ z => by cases z))).mono sY2
    have hci : c * i <= 400 := by
      rcases hcc with rfl | ⟨rfl, _⟩
      . omega
      . omega
    refine ⟨d, _, rfl, DPut.t (k := kQ m.1 m.2.2) dtY.hd hY2 (ZAw (by have := dtY.len; omega)), ?_⟩
    have hmm := hms m (yAM hm)
    have hk : c = 1 ∨ (wi m.1 m.2.2).isSome = true := by
      rcases hcc with z | ⟨_, z⟩
      . exact .inl z
      . exact .inr (hdom _ _ (z m (yAM hm)))
    refine ⟨_, _, _, Po.put wi m.1 m.2.2 (Po.metB b x y), li ++ Po.maskB b x y, putK kvi (kQ m.1 m.2.2) u, rfl, hrun b, fun a c h => ?_, ?_, ?_, ?_, ?_⟩
    . unfold Po.put
      split
      . rfl
      . exact hdom a c h
    . have := Po.maskB_len (b := b) (x := x) (y := y)
      rw [yAD]; omega
    . rw [Nat.mul_succ, <- Nat.add_assoc]
      exact dtY.put hmm.1 hmm.2 (fvY.keep fun _ _ z => sY2 _ _ z) hk
    . rw [yAQ, <- yBA]
      exact (stY.mono sY2).but fun b o hb n => by rw [ZAI (fun z => by rw [z, dtY.hd] at hb; exact n _ (Option.some.inj hb).symm)]; exact hb
    . intro b o n hb
      rw [ZAI (ZAE hb hd)]
      exact sY2 _ _ (fY _ _ n (S2 _ _ (fi _ _ n hb)))
  rintro σ X ⟨v4, v5, v6, wi, li, kvi, rfl, hrun, hdom, hli, dti, sti, fi⟩
  rw [hM.len, List.drop_of_length_le (yAB _)] at hrun
  rw [hM.len] at dti
  walk_at "rd"
  exact q d X kvi wi li hrun fi hd dti sti
theorem ok_Pour_top {f : Addr} {fd : FuncData} (F : Fun K "top" "Pour.top" ZBP f fd) (T : Bt K mg C_Pour C_LastPour C_Asker C_AskedRule) (TX : BtX K C_PX)
    : FnOk P w K mg base CX0 1 f fd ["self"] (ZEI bb C_PX) := by
  refine F.ok sc_Pour_top (fun vs H Q E h => ?_) (fun cdv A outer s H vs Q E hr h => ?_)
  . obtain ⟨p, ak, pl, tk, ml, wd, pls, pcs, w0, B, kvs, top, rfl, pb, dt, htop, q⟩ := h
    rfl
  obtain ⟨p, ak, pl, tk, ml, wd, pls, pcs, w0, B, kvs, top, rfl, pb, dt, htop, q⟩ := h
  refine ⟨_, (ZAH (ZAW (ZDN PySem.F.plainAttrs_dict PySem.F.slot_dict_get PySem.F.type_dict_get (mt_dget (ZC5 hr)) (ZAp (pv 0) rfl) (ZAA (ZBC (ZAA ZAF (ZAA (ZAK ZAJ rfl T.b_len PySem.boot_len (ZAA (ZAp (pv 0) rfl) ZAD)) ZAD))) ZAD)))), ?_⟩
  walk_at "rd"
  refine pb.hp.get TX.cl_PX TX.n_PX_went_on (by walk_at "lk") ?_
  walk_at "rd"
  refine ⟨.inr (.inr (.inl ⟨rfl, .inr ⟨_, dt.hd⟩⟩)), ?_⟩
  refine pb.hp.get TX.cl_PX TX.n_PX_pieces (by walk_at "lk") ?_
  walk_at "rd"
  refine ⟨pl, _, rfl, .inl (SqL.of pb.hpl), ZAV (by decide), fun t ht => ?_⟩
  rw [yAA, pb.len]
  obtain ⟨H1, e1, s1, h1⟩ := newH ht (.tup [.int ((0 : Nat) : Int), .int (pcs.length : Int)])
  rw [show ((0 : Nat) : Int) = 0 from rfl] at e1
  rw [e1]; clear e1
  refine ⟨wd, _, _, rfl, rfl, DGet.t (k := kQ 0 pcs.length) (s1 _ _ dt.hd) h1, ?_⟩
  rcases htop with hv | ⟨rfl, rfl⟩
  . obtain ⟨u, hu, fv⟩ := dt.val _ _ _ hv
    rw [hu]
    exact q u H1 s1 (fv.keep fun _ _ z => s1 _ _ z)
  . have : kvs = [] := List.length_eq_zero_iff.mp (by have := dt.len; omega)
    rw [this]
    exact q _ H1 s1 rfl
theorem ok_Pour_first {f : Addr} {fd : FuncData} (F : Fun K "first" "Pour.first" ZA7 f fd) (T : Bt K mg C_Pour C_LastPour C_Asker C_AskedRule) (TX : BtX K C_PX)
    (t_Pour_top : Mt P w K mg base CX0 C_PX "top" 1 ["self"] (ZEI bb C_PX))
    : FnOk P w K mg base CX0 2 f fd ["self"] (ZBk bb C_PX) := by
  refine F.ok sc_Pour_first (fun vs H Q E h => ?_) (fun cdv A outer s H vs Q E hr h => ?_)
  . obtain ⟨p, ak, pl, tk, ml, wd, pls, pcs, w0, B, kvs, top, rfl, pb, dt, htop, q⟩ := h
    rfl
  obtain ⟨p, ak, pl, tk, ml, wd, pls, pcs, w0, B, kvs, top, rfl, pb, dt, htop, q⟩ := h
  refine ⟨_, (ZAB (ZAN (i := 1) sc_Pour_first.nd rfl (by walk_at "o") (ZCE t_Pour_top (hr.mono (by decide)) ZAZ (pv 0)))
   (ZAH (ZAW (ZB7 (ZAP ZCs (pv 1) ZBU (ZAS _)) ZBU (ZAt ZB0 (pv 1) ZAF (fun _ _ => rfl)))))), ?_⟩
  walk_at "rd"
  refine pb.hp.meth (by walk_at "lk") ⟨p, ak, pl, tk, ml, wd, pls, pcs, w0, B, kvs, top, rfl, pb, dt, htop, fun u H1 s1 fv => ?_⟩
  walk_at "rd"
  cases top with
  | none =>
    cases (show u = V.non from fv)
    rw [if_pos rfl]
    exact q H1 s1
  | some x =>
    obtain ⟨t, rfl, ht⟩ := fv
    rw [if_neg (fun z => by cases z)]
    exact ZBK (SqT.of ht) (ZAb (by decide) rfl) (q H1 s1)
theorem ok_Pour_init {f : Addr} {fd : FuncData} (F : Fun K "__init__" "Pour.__init__" ZBH f fd) (T : Bt K mg C_Pour C_LastPour C_Asker C_AskedRule) (TX : BtX K C_PX)
    (f_meetings_of : Fn P w K mg base CX0 "meetings_of" 9 ["first", "beyond"] (ZBO 9))
    (t_Pour_held : Mt P w K mg base CX0 C_PX "held" 6 ["self", "meetings", "went_on"] (ZDW C_Asker C_AskedRule bb C_PX))
    (t_Pour_front_of : Mt P w K mg base CX0 C_PX "front_of" 1 ["self", "piece", "taken"] (ZBc bb C_PX))
    : FnOk P w K mg base CX0 10 f fd ["self", "asker", "pieces"] (ZBb C_Asker C_AskedRule bb C_PX) := by
  refine F.ok sc_Pour_init (fun vs H Q E h => ?_) (fun cdv A outer s H vs Q E hr h => ?_)
  . obtain ⟨ks, xs, a, rl, ru, tl, g, lg, bl, x, dx, hl, pr, hls, pcs, G, rfl, hx, st, hhl, hlen, hls', hn, hGG, nx, hk1000, hpr, q⟩ := h
    rfl
  obtain ⟨ks, xs, a, rl, ru, tl, g, lg, bl, x, dx, hl, pr, hls, pcs, G, rfl, hx, st, hhl, hlen, hls', hn, hGG, nx, hk1000, hpr, q⟩ := h
  refine ⟨_, (ZAB (ZBf (pv 0) (pv 1) rfl)
   (ZAB (ZBf (pv 0) (ZBL rfl (k := 1) (js := []) (N' := ["piece"]) (by rfl) (ZAs (pv 2)) (fun _ _ _ _ => ZAY (i := 0) (show (["piece"] : List Str).Nodup by decide +kernel) rfl (by walk_at "o")) (fun _ _ _ _ => ZAy) (fun _ _ _ _ => (ZBg (ZBu K) rfl T.b_list PyProof.Rows.boot_list (ZAA (pv 0) ZAD)))) rfl)
    (ZAU
   (ZAB (ZBf (pv 0) (ZBL rfl (k := 1) (js := []) (N' := ["piece"]) (by rfl) (ZAs (ZAp (pv 0) rfl)) (fun _ _ _ _ => ZAY (i := 0) (show (["piece"] : List Str).Nodup by decide +kernel) rfl (by walk_at "o")) (fun _ _ _ _ => ZAy) (fun _ _ _ _ => ZAF)) rfl)
    (ZAU
   (ZAB (ZBf (pv 0) (ZAu f_meetings_of (hr.mono (by decide)) rfl ZAZ (ZAA ZAF (ZAA (ZAK ZAJ rfl T.b_len PySem.boot_len (ZAA (ZAp (pv 0) rfl) ZAD)) ZAD))) rfl)
    (ZAU
   (ZAB (ZBf (pv 0) pe_dnewT rfl)
   (ZAB (ZCD PassesOwn.never rfl (ZBR rfl T.b_range (ZAA (ZAK ZAJ rfl T.b_len PySem.boot_len (ZAA (ZAp (pv 0) rfl) ZAD)) ZAD)) (ZAY (i := 3) sc_Pour_init.nd rfl (by walk_at "o"))
   (ZAH (ZCY (ZC5 hr) (ZAp (pv 0) rfl) (ZBC (ZAA (pv 3) (ZAA (ZAR ZBD (pv 3) ZAF) ZAD))) (ZDM t_Pour_front_of (hr.mono (by decide)) ZAZ (pv 0) (ZAA (pv 3) (ZAA ZAF ZAD))) rfl)))
    (ZAU
   (ZAH (ZBf (pv 0) (ZDM t_Pour_held (hr.mono (by decide)) ZAZ (pv 0) (ZAA (ZAp (pv 0) rfl) (ZAA (ZAp (pv 0) rfl) ZAD))) rfl)))))))))))), ?_⟩
  walk_at "rd"
  have nhl : hl ≠ x := fun z => by rw [z, hx] at hhl; cases hhl
  refine setX hx TX.cl_PX TX.n_PX_asker (by decide) fun H2 x2 k2 => ?_
  walk_at "rd"
  have up2 : ∀ b o, b ≠ x -> H b = some o -> H2 b = some o := fun b o n e => by rw [k2 b n]; exact e
  have nlx : ∀ (i : Nat) l ys, hls[i]? = some l -> pcs[i]? = some ys -> H2 l = some (.lst (nL (rv bb ys))) := fun i l ys h1 h2 => by
    have h := hls' i l ys h1 h2
    exact up2 _ _ (fun z => by rw [z, hx] at h; cases h) h
  refine ZA5 (SqL.of (up2 _ _ nhl hhl)) (by rw [yAA]; omega) (fun i ys σ H' => ∃ v ns, σ = [v] /\ Same H2 H' /\ ys = ns.map V.ref /\ ns.length = i /\ (∀ (j : Nat) l zs, ns[j]? = some l -> pcs[j]? = some zs -> H' l = some (.lst (nL (rv bb zs)))) /\ ∀ l ∈ ns, H2 l = none) ⟨_, [], rfl, .refl _, rfl, rfl, fun j l zs h => by simp at h, fun l h => by cases h⟩ (fun i ys σ H' _ ⟨_, ns, _, e, e2, e3, _⟩ => ⟨SqL.of (e _ _ (up2 _ _ nhl hhl)), by rw [e2, yAA]; omega⟩) ?_ ?_
  . rintro i ys u σ H' hi hu ⟨v, ns, rfl, sA, rfl, hnl, hns, hfr⟩
    rw [yAA] at hi
    have hi2 : i < pcs.length := by omega
    obtain ⟨zs, hzs⟩ : ∃ zs, pcs[i]? = some zs := ⟨_, yAC hi2⟩
    rw [yAG, yAC hi] at hu
    cases hu
    have hl2 := sA _ _ (nlx i _ zs (yAC hi) hzs)
    walk_at "rd"
    refine ⟨_, _, rfl, .inl (SqL.of hl2), fun l' hl' => ?_⟩
    refine Nxt.of (by rw [yAA]; exact hi) ⟨_, ns ++ [l'], rfl, sA.new hl', by rw [yAQ]; rfl, by rw [yAD, hnl]; rfl, fun j l zs' h1 h2 => ?_, fun l h => ?_⟩
    . by_cases z : j < ns.length
      . rw [yAV z] at h1
        exact ZAO hl' _ _ _ (hns j l zs' h1 h2)
      . rw [yAU (by omega)] at h1
        cases hk : j - ns.length with
        | zero =>
          rw [hk] at h1
          cases h1
          rw [show j = i by omega, hzs] at h2
          cases h2
          exact ZAG
        | succ m => rw [hk] at h1; simp at h1
    . rcases yBB.mp h with h | h
      . exact hfr l h
      . rw [yAK.mp h]; exact sA.free hl'
  rintro ys σ H3 ⟨v, pls, rfl, s3, rfl, hpll, hpls, hplf⟩ pl hpl0
  rw [yAA] at hpll
  obtain ⟨H4, e4, s4, h4⟩ := newH hpl0 (.lst (pls.map V.ref))
  rw [e4]; clear e4
  have x4 := s4 _ _ (s3 _ _ x2)
  have nplx : pl ≠ x := Ne.symm (ZAE (s3 _ _ x2) hpl0)
  refine setX x4 TX.cl_PX TX.n_PX_pieces ZEy fun H5 x5 k5 => ?_
  walk_at "rd"
  have up5 : ∀ b o, b ≠ x -> H4 b = some o -> H5 b = some o := fun b o n e => by rw [k5 b n]; exact e
  have hpl5 := up5 _ _ nplx h4
  have hplsx : ∀ l ∈ pls, l ≠ x := fun l h z => by have := hplf l h; rw [z, x2] at this; cases this
  have hpls5 : ∀ (j : Nat) l zs, pls[j]? = some l -> pcs[j]? = some zs -> H5 l = some (.lst (nL (rv bb zs))) := fun j l zs h1 h2 => up5 _ _ (hplsx l (yAM h1)) (s4 _ _ (hpls j l zs h1 h2))
  refine ZAd ?_
  walk_at "rd"
  have i5 : Ins H5 x C_PX [("pieces", .ref pl), ("asker", .ref a)] := (Ins.of x5 (yAE ZEx (by decide))).congr fun f => by simp only [ZAa, lkc]
  refine i5.get TX.cl_PX TX.n_PX_pieces (by walk_at "lk") ?_
  refine ZA5 (SqL.of hpl5) (by rw [yAA]; omega) (fun i ys σ H' => ∃ v, σ = [v] /\ Same H5 H' /\ ys = nL (List.replicate i 0)) ⟨_, rfl, .refl _, rfl⟩ (fun i ys σ H' _ ⟨_, _, e, e2⟩ => ⟨SqL.of (e _ _ hpl5), by rw [e2, yAA, yBY]; exact yAB _⟩) ?_ ?_
  . rintro i ys u σ H' hi hu ⟨v, rfl, sA, rfl⟩
    walk_at "rd"
    refine Nxt.of hi ⟨_, rfl, sA, ?_⟩
    unfold nL
    rw [List.replicate_succ', yAQ]; rfl
  rintro ys σ H6 ⟨v, rfl, s6, rfl⟩ tk htk0
  rw [yAA, hpll, hlen]
  obtain ⟨H7, e7, s7, h7⟩ := newH htk0 (.lst (nL (List.replicate pcs.length 0)))
  rw [e7]; clear e7
  have x7 := s7 _ _ (s6 _ _ x5)
  have ntkx : tk ≠ x := Ne.symm (ZAE (s6 _ _ x5) htk0)
  refine setX x7 TX.cl_PX TX.n_PX_taken ZEx fun H8 x8 k8 => ?_
  walk_at "rd"
  have up8 : ∀ b o, b ≠ x -> H5 b = some o -> H8 b = some o := fun b o n e => by rw [k8 b n]; exact s7 _ _ (s6 _ _ e)
  have htk8 : H8 tk = some (.lst (nL (List.replicate pcs.length 0))) := by rw [k8 tk ntkx]; exact h7
  refine ZAd ?_
  walk_at "rd"
  have i8 : Ins H8 x C_PX [("taken", .ref tk), ("pieces", .ref pl), ("asker", .ref a)] := (Ins.of x8 (yAE ZEw (by decide))).congr fun f => by simp only [ZAa, lkc]
  refine i8.get TX.cl_PX TX.n_PX_pieces (by walk_at "lk") ⟨pl, _, rfl, .inl (SqL.of (up8 _ _ nplx hpl5)), ?_⟩
  rw [yAA, hpll, hlen]
  refine ⟨0, pcs.length, rfl, yAF _, by omega, by decide, yAE (by omega : pcs.length - 0 <= 256) (by decide), fun ml H9 mvs s9 hml0 hml9 hMs => ?_⟩
  have x9 := s9 _ _ x8
  have nmlx : ml ≠ x := Ne.symm (ZAE x8 hml0)
  refine setX x9 TX.cl_PX TX.n_PX_meetings ZEw fun H10 x10 k10 => ?_
  walk_at "rd"
  have up10 : ∀ b o, b ≠ x -> H8 b = some o -> H10 b = some o := fun b o n e => by rw [k10 b n]; exact s9 _ _ e
  refine ZAd ?_
  walk_at "rd"
  intro wd hwd0
  obtain ⟨H11, e11, s11, h11⟩ := newH hwd0 (.dT [])
  rw [e11]; clear e11
  have x11 := s11 _ _ x10
  have nwdx : wd ≠ x := Ne.symm (ZAE x10 hwd0)
  refine setX x11 TX.cl_PX TX.n_PX_went_on putL4 fun H12 x12 k12 => ?_
  walk_at "rd"
  have up12 : ∀ b o, b ≠ x -> H10 b = some o -> H12 b = some o := fun b o n e => by rw [k12 b n]; exact s11 _ _ e
  have i12 : Ins H12 x C_PX (fP a pl tk ml wd) := (Ins.of x12 (yAE putL5 (by decide))).congr fun f => by simp only [ZAa, lkc]
  have hml10 : H10 ml = some (.lst mvs) := by rw [k10 ml nmlx]; exact hml9
  have hMs12 : MsAt H12 mvs (Po.mts 0 pcs.length) := hMs.keep fun t z h => by
    have n : t ≠ x := fun e => by rw [e, x9] at h; cases h
    exact up12 _ _ n (by rw [k10 t n]; exact h)
  have up : ∀ b o, b ≠ x -> H5 b = some o -> H12 b = some o := fun b o n e => up12 _ _ n (up10 _ _ n (up8 _ _ n e))
  have upH : ∀ b o, b ≠ x -> H b = some o -> H12 b = some o := fun b o n e => up _ _ n (up5 _ _ n (s4 _ _ (s3 _ _ (up2 _ _ n e))))
  have pb12 : PB bb C_PX H12 x a pl tk ml wd pls pcs := ⟨i12, up _ _ nplx hpl5, by omega, fun i l ys h1 h2 => up _ _ (hplsx l (yAM h1)) (hpls5 i l ys h1 h2)⟩
  have st12 := st.butX hx nx upH
  have fx : ∀ b, H2 b = none -> H b = none := fun b h => by
    cases e : H b with
    | none => rfl
    | some o =>
      have n : b ≠ x := fun z => by rw [z, x2] at h; cases h
      rw [up2 b o n e] at h; cases h
  have f5 : ∀ b, b ≠ x -> H5 b = none -> H b = none := fun b n h => fx b (s3.free (s4.free (by rw [<- k5 b n]; exact h)))
  have f8 : ∀ b, b ≠ x -> H8 b = none -> H b = none := fun b n h => f5 b n (s6.free (s7.free (by rw [<- k8 b n]; exact h)))
  have f10 : ∀ b, b ≠ x -> H10 b = none -> H b = none := fun b n h => f8 b n (s9.free (by rw [<- k10 b n]; exact h))
  have gpl := fx pl (s3.free hpl0)
  have gtk := f5 tk ntkx (s6.free htk0)
  have gml := f8 ml nmlx hml0
  have gwd := f10 wd nwdx hwd0
  have gpls : ∀ l ∈ pls, H l = none := fun l h => fx l (hplf l h)
  have n5 : ∀ b o, H5 b = some o -> b ≠ tk := fun b o h => ZAE (s6 _ _ h) htk0
  have n8 : ∀ b o, H8 b = some o -> b ≠ ml := fun b o h => ZAE h hml0
  have n10 : ∀ b o, H10 b = some o -> b ≠ wd := fun b o h => ZAE h hwd0
  have hwd12 : H12 wd = some (.dT []) := by rw [k12 wd nwdx]; exact h11
  have htk12 := up12 _ _ ntkx (up10 _ _ ntkx htk8)
  have hml12 := up12 _ _ nmlx hml10
  have npl : pl ≠ wd := n10 _ _ (up10 _ _ nplx (up8 _ _ nplx hpl5))
  have ntk : tk ≠ wd := n10 _ _ (up10 _ _ ntkx htk8)
  have nml : ml ≠ wd := n10 _ _ hml10
  have npls : ∀ l ∈ pls, l ≠ wd /\ l ≠ tk := fun l h => by
    obtain ⟨j, hj, e⟩ := yCP h
    have e1 : pls[j]? = some l := by rw [yAC hj, e]
    have h5 := hpls5 j l _ e1 (yAC (show j < pcs.length by omega))
    exact ⟨n10 _ _ (up10 _ _ (hplsx l h) (up8 _ _ (hplsx l h) h5)), n5 _ _ h5⟩
  have ntkpl : tk ≠ pl := Ne.symm (n5 _ _ hpl5)
  have ntkml : tk ≠ ml := n8 tk _ htk8
  clear k2 k5 k8 k10 k12 x2 x4 x5 x7 x8 x9 x10 x11 i5 i8 up2 up5 up8 up10 up12 s3 s4 s6 s7 s9 s11 hMs h4 h7 h11 hpl5 hpls5 htk8 hml9 hml10 hpls hplf fx f5 f8 f10 n5 n8 n10 nlx up
  refine i12.get TX.cl_PX TX.n_PX_pieces (by walk_at "lk") ⟨pl, _, rfl, .inl (SqL.of pb12.hpl), ?_⟩
  rw [yAA, pb12.len]
  refine ZCi (by omega) (ZDR (fun i σ X => ∃ v3 kvs wi, σ = [some (.ref x), some (.ref a), some (.ref hl), v3] /\ DT X wd wi i kvs /\ (∀ j, j < i -> wi j (j + 1) = some (frs pcs (List.replicate pcs.length 0) j)) /\ (∀ a c, ¬ c - a < 2 -> wi a c = none) /\ ∀ b o, b ≠ wd -> H12 b = some o -> X b = some o) ⟨_, [], fun _ _ => none, rfl, ⟨hwd12, (fun kv h => by cases h), yAB _, (fun _ _ _ h => by cases h)⟩, fun j h => by omega, fun _ _ _ => rfl, fun b o _ h => h⟩ ?_ ?_)
  . rintro i σ X hi ⟨v3, kvs, wi, rfl, dti, hwi, hnd, kX⟩
    have hi' : i < pcs.length := by omega
    obtain ⟨zs, hzs⟩ : ∃ zs, pcs[i]? = some zs := ⟨_, yAC hi'⟩
    have pbX : PB bb C_PX X x a pl tk ml wd pls pcs := ⟨ZCR (S := [wd]) (fun b o n h => kX b o (fun z => n (by rw [z]; exact yAI)) h) (fun z => nwdx (yAK.mp z).symm) pb12.hp, kX _ _ npl pb12.hpl, pb12.len, fun j l ys h1 h2 => kX _ _ (npls l (yAM h1)).1 (pb12.pc j l ys h1 h2)⟩
    walk_at "rd"
    rw [Int.zero_add]
    refine pbX.hp.meth (by walk_at "lk") ⟨x, a, pl, tk, ml, wd, pls, pcs, i, 0, zs, rfl, pbX, hzs, fun u X2 sX2 fv => ?_⟩
    refine (pbX.mono sX2).hp.get TX.cl_PX TX.n_PX_went_on (by walk_at "lk") ?_
    walk_at "rd"
    refine ⟨ZAV (by decide), fun k1 hk1 => ?_⟩
    obtain ⟨X3, e3, sX3, hX3⟩ := newH hk1 (.tup [.int (i : Int), .int ((i + 1 : Nat) : Int)])
    rw [show (i : Int) + 1 = ((i + 1 : Nat) : Int) by omega, e3]; clear e3
    have dt3 := (dti.mono sX2).mono sX3
    refine ⟨wd, _, rfl, DPut.t (k := kQ i (i + 1)) dt3.hd hX3 (ZAw (by have := dt3.len; omega)), ?_⟩
    refine ⟨_, putK kvs (kQ i (i + 1)) u, Po.put wi i (i + 1) (ZBa zs 0 i), rfl, dt3.put (by omega) (by omega) (fv.keep fun _ _ z => sX3 _ _ z) (.inl rfl), fun j hj => ?_, (fun a c z => by unfold Po.put; rw [if_neg (by omega)]; exact hnd a c z), fun b o n h => by rw [ZAI n]; exact sX3 _ _ (sX2 _ _ (kX b o n h))⟩
    unfold Po.put
    by_cases z : j = i
    . rw [if_pos ⟨z, by omega⟩, z, ZD6 hzs (by rw [yCM, if_pos hi'])]
    . rw [if_neg (by omega)]
      exact hwi j (by omega)
  rintro σ X ⟨v3, kvs, wn, rfl, dtn, hwn, hnn, kX⟩
  rw [Int.toNat_natCast] at dtn hwn
  walk_at "rd"
  refine ZAd ?_
  walk_at "rd"
  have iX : Ins X x C_PX (fP a pl tk ml wd) := ZCR (S := [wd]) (fun b o n h => kX b o (fun z => n (by rw [z]; exact yAI)) h) (fun z => nwdx (yAK.mp z).symm) i12
  have stX : SitO C_Asker C_AskedRule X ks xs a rl ru tl g lg bl pr := st12.but fun b o hb n => kX b o (fun z => by rw [z, hwd12] at hb; exact n _ (Option.some.inj hb).symm) hb
  have hmlX := kX _ _ nml hml12
  have hMsX : MsAt X mvs (Po.mts 0 pcs.length) := hMs12.keep fun t z h => kX _ _ (fun e => by rw [e, hwd12] at h; cases h) h
  refine iX.meth (by walk_at "lk") (iX.get TX.cl_PX TX.n_PX_meetings (by walk_at "lk") (iX.get TX.cl_PX TX.n_PX_went_on (by walk_at "lk") ?_))
  have sM := st.newS gml
  refine ⟨ks, xs, a, rl, ru, tl, g, lg, bl, x, pl, tk, ml, wd, ml, wd, pr, mvs, Po.mts 0 pcs.length, wn, G, pcs.length, 1, kvs, rfl, stX, iX, nx, sM, hmlX, hMsX, by rw [Po.mts_len]; omega, fun m hm => ?_, dtn, by omega, hGG wn hwn hnn, .inl rfl, hk1000, by omega, fun d H14 kvs' w1 l1 hGl f14 hd14 dt14 st14 => ?_⟩
  . have := Po.mts_mem (a := m.1) (m := m.2.1) (c := m.2.2) _ _ hm
    omega
  have i14 := ZCR f14 nx iX
  refine i14.set TX.cl_PX TX.n_PX_went_on (fun H15 i15 k15 => ?_) ⟨_, by walk_at "lk"⟩
  have ndx : d ≠ x := fun z => by
    obtain ⟨_, _, e1, _⟩ := iX.ex
    rw [z, e1] at hd14; cases hd14
  have e15 : ∀ b o, b ≠ x -> H14 b = some o -> H15 b = some o := fun b o n h => by rw [k15 b n]; exact h
  have gd : H d = none := by
    cases e : H d with
    | none => rfl
    | some o =>
      have h1 := upH d o ndx e
      by_cases z : d = wd
      . rw [z, dtn.hd] at hd14; cases hd14
      . rw [kX d o z h1] at hd14; cases hd14
  have pbX : PB bb C_PX X x a pl tk ml wd pls pcs := ⟨iX, kX _ _ npl pb12.hpl, pb12.len, fun j l ys h1 h2 => kX _ _ (npls l (yAM h1)).1 (pb12.pc j l ys h1 h2)⟩
  have pb14 := pbX.fr f14 nx (st.newS gpl) fun l h => st.newS (gpls l h)
  obtain ⟨dx14, fs14, e14, _⟩ := i14.ex
  have tX : ∀ b o, H14 b = some o -> (∀ C d f, o ≠ .ins C d f) -> H15 b = some o := fun b o h n => e15 b o (fun z => by
    rw [z, e14] at h; exact n _ _ _ (Option.some.inj h).symm) h
  refine q pl tk ml d pls w1 l1 H15 kvs' (fun b o n1 n2 h => ?_) ⟨⟨i15.congr fun f => by
      simp only [ZAa, lkc]
      by_cases z : f = Str.ofString "went_on"
      . rw [if_pos z, if_pos z]
      . rw [if_neg z, if_neg z, if_neg z], tX _ _ pb14.hpl (fun _ _ _ z => by cases z), pb14.len, fun j l ys h1 h2 => tX _ _ (pb14.pc j l ys h1 h2) (fun _ _ _ z => by cases z)⟩, tX _ _ (f14 _ _ (st.newS gtk) (kX _ _ ntk htk12)) (fun _ _ _ z => by cases z), ⟨mvs, tX _ _ (f14 _ _ sM hmlX) (fun _ _ _ z => by cases z), (hMsX.keep fun t z h => f14 _ _ (stX.tupS h (fun _ z => by cases z) (fun _ _ _ z => by cases z)) h).keep fun t z h => tX _ _ h (fun _ _ _ z => by cases z)⟩, ?_, by rw [yBY], ?_⟩ hGl ⟨gpl, gtk, gml, gd, gpls⟩ ?_
  . have n3 : b ≠ wd := fun z => by rw [z, gwd] at h; cases h
    exact e15 b o n1 (f14 _ _ n2 (kX b o n3 (upH b o n1 h)))
  . have e : pcs.length + 1 * (Po.mts 0 pcs.length).length = 2 * pcs.length - 1 := by rw [Po.mts_len]; omega
    rw [e] at dt14
    exact ⟨e15 d _ ndx dt14.hd, dt14.sm, dt14.len, fun a c v h => let ⟨u, h1, h2⟩ := dt14.val a c v h; ⟨u, h1, h2.keep fun t z y => tX _ _ y (fun _ _ _ z => by cases z)⟩⟩
  . exact ⟨ntkpl, ntkml, fun l h => (npls l h).2⟩
  . exact st14.butI i14 nx e15
theorem ok_Pour_take {f : Addr} {fd : FuncData} (F : Fun K "take" "Pour.take" ZBF f fd) (T : Bt K mg C_Pour C_LastPour C_Asker C_AskedRule) (TX : BtX K C_PX)
    (t_Pour_top : Mt P w K mg base CX0 C_PX "top" 1 ["self"] (ZEI bb C_PX))
    (t_Pour_front_of : Mt P w K mg base CX0 C_PX "front_of" 1 ["self", "piece", "taken"] (ZBc bb C_PX))
    (t_Pour_held : Mt P w K mg base CX0 C_PX "held" 6 ["self", "meetings", "went_on"] (ZDW C_Asker C_AskedRule bb C_PX))
    : FnOk P w K mg base CX0 7 f fd ["self"] (ZCc C_Asker C_AskedRule bb C_PX) := by
  refine F.ok sc_Pour_take (fun vs H Q E h => ?_) (fun cdv A outer s H vs Q E hr h => ?_)
  . obtain ⟨ks, xs, a, rl, ru, tl, g, lg, bl, p, pl, tk, ml, wd, pr, pls, pcs, ts, w0, kvs, G, rfl, st, pa, px, hn, hR, hGG, hk1000, hpr, q1, q2⟩ := h
    rfl
  obtain ⟨ks, xs, a, rl, ru, tl, g, lg, bl, p, pl, tk, ml, wd, pr, pls, pcs, ts, w0, kvs, G, rfl, st, pa, px, hn, hR, hGG, hk1000, hpr, q1, q2⟩ := h
  refine ⟨_, (ZAB (ZAN (i := 1) sc_Pour_take.nd rfl (by walk_at "o") (ZCE t_Pour_top (hr.mono (by decide)) ZAZ (pv 0)))
   (ZAB (ZA4 (ZAP ZCs (pv 1) ZBU (ZAS _))
   (ZAH (ZAW ZBU)) ZAX)
    (ZAU
   (ZAB (ZAN (i := 2) sc_Pour_take.nd rfl (by walk_at "o") (ZAt ZB0 (pv 1) ZAF (fun _ _ => rfl)))
   (ZAB (ZAN (i := 3) sc_Pour_take.nd rfl (by walk_at "o") (ZAR ZBD (ZAt ZAi (ZAp (pv 0) rfl) (pv 2) (fun _ _ => rfl)) ZAF))
    (ZAU
   (ZAB (ZBe (i := 4) sc_Pour_take.nd rfl (Or.inl rfl) rfl (k := 1) (js := [2]) (N' := ["meeting", "piece"]) (by rfl) (ZAs (ZAp (pv 0) rfl)) (fun _ _ _ _ => ZAY (i := 0) (show (["meeting", "piece"] : List Str).Nodup by decide +kernel) rfl (by walk_at "o")) (fun _ _ _ _ => (ZDL (PW.pt (ZDX (ZAP op_le (ZAt (ZCx K) (pv 0) ZAF (fun _ _ => rfl)) (pv 1) (ZAS _)) (ZDK (ZAP ZC2 (pv 1) (ZAt (ZCx K) (pv 0) ZAF (fun _ _ => rfl)) (ZAS _))))))) (fun _ _ _ _ => (pv 0)))
    (ZAU
   (ZAB (ZAN (i := 5) sc_Pour_take.nd rfl (by walk_at "o") (ZBg (call_dictC) rfl T.b_dict PyProof.Rows.boot_dict (ZAA (ZAp (pv 0) rfl) ZAD)))
    (ZAU
   (ZAB (ZCY (ZC5 hr) (pv 5) (ZBC (ZAA (pv 2) (ZAA (ZAR ZBD (pv 2) ZAF) ZAD))) (ZDM t_Pour_front_of (hr.mono (by decide)) ZAZ (pv 0) (ZAA (pv 2) (ZAA (pv 3) ZAD))) rfl)
    (ZAU
   (ZAB (ZBf (pv 0) (ZDM t_Pour_held (hr.mono (by decide)) ZAZ (pv 0) (ZAA (pv 4) (ZAA (pv 5) ZAD))) rfl)
    (ZAU
   (ZAB (ps_asg (pv 3) (pg_sub (ZAp (pv 0) rfl) (pv 2) set_list))
   (ZAH (ZAW (ZAt ZB0 (pv 1) ZAF (fun _ _ => rfl))))))))))))))))))), ?_⟩
  walk_at "rd"
  obtain ⟨tp, htop, hz1, hz2⟩ : ∃ tp : Po.Fr, (w0 0 pcs.length = some tp ∨ 2 * pcs.length - 1 = 0 /\ tp = none) /\ (0 < pcs.length -> w0 0 pcs.length = some tp /\ ∀ x, tp = some x -> ∃ i, 0 <= i /\ i < pcs.length /\ frs pcs ts i = some x) /\ (¬ 0 < pcs.length -> tp = none) := by
    by_cases hz : 0 < pcs.length
    . obtain ⟨v, h1, h2, _⟩ := Po.RR.top _ _ hz (hR hz)
      exact ⟨v, .inl h1, fun _ => ⟨h1, h2⟩, fun z => absurd hz z⟩
    . exact ⟨none, .inr ⟨by omega, rfl⟩, fun z => absurd z hz, fun _ => rfl⟩
  refine pa.pb.hp.meth (by walk_at "lk") ⟨p, a, pl, tk, ml, wd, pls, pcs, w0, _, kvs, tp, rfl, pa.pb, pa.hwd, htop, fun u H1 s1 fv => ?_⟩
  walk_at "rd"
  by_cases hz : 0 < pcs.length
  case neg =>
    rw [hz2 hz] at fv
    cases (show u = V.non from fv)
    rw [if_pos rfl]
    exact q1 (.inl (by omega)) H1 s1
  obtain ⟨hw0, hz1⟩ := hz1 hz
  have hR := hR hz
  cases htp : tp with
  | none =>
    rw [htp] at fv
    cases (show u = V.non from fv)
    rw [if_pos rfl]
    exact q1 (.inr (by rw [hw0, htp])) H1 s1
  | some xi =>
  rw [htp] at fv
  obtain ⟨x, i⟩ := xi
  obtain ⟨t0, rfl, ht0⟩ := fv
  rw [if_neg (fun z => by cases z)]
  obtain ⟨j0, _, hj0, hj1⟩ := hz1 _ htp
  obtain ⟨zs, hzs, hxz, hij⟩ := ZDP hj1
  dsimp only at hxz hij
  subst hij
  obtain ⟨t, ht⟩ : ∃ t, ts[i]? = some t := ⟨_, yAC (show i < ts.length by rw [pa.tlen]; exact hj0)⟩
  have st1 := st.mono s1
  have pa1 := pa.mono s1
  rw [htp] at hw0
  clear htop q1 hz1 hz2
  refine ZAd ?_
  walk_at "rd"
  refine ZBK (SqT.of ht0) (ZAb (by decide) rfl) ?_
  walk_at "rd"
  refine pa1.pb.hp.get TX.cl_PX TX.n_PX_taken (by walk_at "lk") (ZAz (SqL.of pa1.htk) (ZEY ht) ?_)
  walk_at "rd"
  rw [show (t : Int) + 1 = ((t + 1 : Nat) : Int) by omega]
  refine ZAd ?_
  walk_at "rd"
  obtain ⟨mvs, hml1, hMs1⟩ := pa1.hml
  refine pa1.pb.hp.get TX.cl_PX TX.n_PX_meetings (by walk_at "lk") ?_
  have hml' := hMs1.len
  rw [Po.mts_len] at hml'
  refine ZA5 (SqL.of hml1) (by omega) (fun k ys σ H' => ∃ v, σ = [v, some (.int (i : Int))] /\ Same H1 H' /\ MsAt H' ys (((Po.mts 0 pcs.length).take k).filter (Po.onWay i))) ⟨_, rfl, .refl _, MsAt.nil⟩ (fun k ys σ H' _ ⟨_, _, e, hM⟩ => ⟨SqL.of (e _ _ hml1), by rw [hM.len]; exact yAE (yCC _ _) (by rw [yAT]; omega)⟩) ?_ ?_
  . rintro k ys u σ H' hk hu ⟨v, rfl, sA, hM⟩
    obtain ⟨m, hm⟩ : ∃ m, (Po.mts 0 pcs.length)[k]? = some m := ⟨_, yAC (by rw [Po.mts_len]; omega)⟩
    obtain ⟨tm, hm1, hm2⟩ := hMs1.get k m hm
    rw [hu] at hm1
    cases hm1
    have hm3 := sA _ _ hm2
    have etk : (Po.mts 0 pcs.length).take (k + 1) = (Po.mts 0 pcs.length).take k ++ [m] := by rw [yCB, hm]; rfl
    walk_at "rd"
    refine ZBK (SqT.of hm3) (ZAb (by decide) rfl) ?_
    walk_at "rd"
    by_cases h1 : (m.1 : Int) <= i
    . rw [if_pos h1]
      refine ZBK (SqT.of hm3) (ZAb (by decide) rfl) ?_
      walk_at "rd"
      by_cases h2 : (i : Int) < m.2.2
      . rw [if_pos h2]
        refine Nxt.of hk ⟨_, rfl, sA, ?_⟩
        rw [etk, yBO, yBT (by unfold Po.onWay; rw [decide_eq_true (by omega), decide_eq_true (by omega)]; rfl)]
        exact hM.app (MsAt.one hm3)
      . rw [if_neg h2]
        refine Nxt.of hk ⟨_, rfl, sA, ?_⟩
        rw [etk, yBO, yBK (by unfold Po.onWay; rw [decide_eq_false (show ¬ i < m.2.2 by omega), Bool.and_false]; decide), yCX, yAZ]
        exact hM
    . rw [if_neg h1]
      refine Nxt.of hk ⟨_, rfl, sA, ?_⟩
      rw [etk, yBO, yBK (by unfold Po.onWay; rw [decide_eq_false (show ¬ m.1 <= i by omega), Bool.false_and]; decide), yCX, yAZ]
      exact hM
  rintro ys σ H2 ⟨v, rfl, s2, hM2⟩ wy hwy0
  rw [hMs1.len, yBI (yAB _)] at hM2
  obtain ⟨H3, e3, s3, h3⟩ := newH hwy0 (.lst ys)
  rw [e3]; clear e3
  have S3 := s1.trans (s2.trans s3)
  have pa3 := pa.mono S3
  refine ZAd ?_
  walk_at "rd"
  refine pa3.pb.hp.get TX.cl_PX TX.n_PX_went_on (by walk_at "lk") ⟨wd, kvs, rfl, pa3.hwd.hd, pa3.hwd.sm, fun d2 hd2 => ?_⟩
  obtain ⟨H4, e4, s4, h4⟩ := newH hd2 (.dT kvs)
  rw [e4]; clear e4
  have S4 := S3.trans s4
  have pa4 := pa.mono S4
  have dt4 : DT H4 d2 w0 (2 * pcs.length - 1) kvs := ⟨h4, pa4.hwd.sm, pa4.hwd.len, pa4.hwd.val⟩
  refine ZAd ?_
  walk_at "rd"
  refine pa4.pb.hp.meth (by walk_at "lk") ⟨p, a, pl, tk, ml, wd, pls, pcs, i, t + 1, zs, rfl, pa4.pb, hzs, fun u H5 s5 fv => ?_⟩
  walk_at "rd"
  rw [show (i : Int) + 1 = ((i + 1 : Nat) : Int) by omega]
  refine ⟨ZAV (by decide), fun k1 hk1 => ?_⟩
  obtain ⟨H6, e6, s6, h6⟩ := newH hk1 (.tup [.int (i : Int), .int ((i + 1 : Nat) : Int)])
  rw [e6]; clear e6
  have dt6 := (dt4.mono s5).mono s6
  have hB : 2 * pcs.length - 1 <= 400 := by omega
  refine ⟨d2, _, rfl, DPut.t (k := kQ i (i + 1)) dt6.hd h6 (ZAw (by have := dt6.len; omega)), ?_⟩
  have dt7 := dt6.put (a := i) (c := i + 1) (k := 0) (by omega) (by omega) (fv.keep fun _ _ z => s6 _ _ z) (.inr (by rw [hR.lf i (yAF _) hj0]; rfl))
  rw [yCA] at dt7
  have S6 := S4.trans (s5.trans s6)
  have hd2H : H d2 = none := S3.free hd2
  have k7 : ∀ b o, b ≠ d2 -> H6 b = some o -> upd H6 d2 (.dT (putK kvs (kQ i (i + 1)) u)) b = some o := fun b o n h => by rw [ZAI n]; exact h
  have S7 : Same H (upd H6 d2 (.dT (putK kvs (kQ i (i + 1)) u))) := fun b o h => k7 b o (ZAE h hd2H) (S6 _ _ h)
  have hwy6 := (s4.trans (s5.trans s6)) _ _ h3
  have hwy7 := k7 wy _ (fun z => by rw [z, dt6.hd] at hwy6; cases hwy6) hwy6
  have hM7 := hM2.keep fun b z h => by
    have h6' := (s3.trans (s4.trans (s5.trans s6))) _ _ h
    exact k7 b _ (fun z => by rw [z, dt6.hd] at h6'; cases h6') h6'
  have efr : ZBa zs (t + 1) i = frs pcs (ts.set i (t + 1)) i := (ZD6 hzs (by rw [yCY, if_pos rfl, if_pos (by rw [pa.tlen]; exact hj0)])).symm
  rw [efr] at dt7
  have k71 : ∀ b z, H1 b = some (.tup z) -> upd H6 d2 (.dT (putK kvs (kQ i (i + 1)) u)) b = some (.tup z) := fun b z h => by
    have h6' := (s2.trans (s3.trans (s4.trans (s5.trans s6)))) _ _ h
    exact k7 b _ (fun z => by rw [z, dt6.hd] at h6'; cases h6') h6'
  generalize upd H6 d2 (.dT (putK kvs (kQ i (i + 1)) u)) = H7 at dt7 S7 hwy7 hM7 k71 ⊢
  generalize putK kvs (kQ i (i + 1)) u = kv7 at dt7
  have k7t : ∀ b z, H1 b = some (.tup z) -> H7 b = some (.tup z) := fun b z h => k71 b z h
  have st7 := st.mono S7
  have pa7 := pa.mono S7
  have ht7 := ht0
  have gwy : H wy = none := (s1.trans s2).free hwy0
  clear k7 dt6 dt4 s6 S6 hwy6 h6 hk1
  refine ZAd ?_
  walk_at "rd"
  refine pa7.pb.hp.meth (by walk_at "lk") ⟨ks, xs, a, rl, ru, tl, g, lg, bl, p, pl, tk, ml, wd, wy, d2, pr, ys, _, _, G x i, 2 * pcs.length - 1, 0, kv7, rfl, st7, pa7.pb.hp, px.p, st.newS gwy, hwy7, hM7, yAE (yCC _ _) (by rw [Po.mts_len]; omega), fun m hm => ?_, dt7, by omega, hGG x i t hz hw0 hj0 ht, .inr ⟨rfl, fun m hm => ?_⟩, hk1000, by omega, fun d8 H8 kv8 w1 l1 hGl f8 hd8 dt8 st8 => ?_⟩
  . have := Po.mts_mem (a := m.1) (m := m.2.1) (c := m.2.2) _ _ (yBV.mp hm).1
    omega
  . have hm' := (yBV.mp hm).1
    unfold Po.put
    split
    . rfl
    . obtain ⟨_, _, _, _, _, e⟩ := hR.nd m hm'
      rw [e]; rfl
  have i8 := ZCR f8 px.p pa7.pb.hp
  refine i8.set TX.cl_PX TX.n_PX_went_on (fun H9 i9 k9 => ?_) ⟨_, by walk_at "lk"⟩
  have i9' : Ins H9 p C_PX (fP a pl tk ml d8) := i9.congr fun f => by
    simp only [ZAa, lkc]
    by_cases z : f = Str.ofString "went_on"
    . rw [if_pos z, if_pos z]
    . rw [if_neg z, if_neg z, if_neg z]
  obtain ⟨dx8, fs8, e8, _⟩ := i8.ex
  have e9 : ∀ b o, b ≠ p -> H8 b = some o -> H9 b = some o := fun b o n h => by rw [k9 b n]; exact h
  have tX : ∀ b o, H8 b = some o -> (∀ C d f, o ≠ .ins C d f) -> H9 b = some o := fun b o h n => e9 b o (fun z => by rw [z, e8] at h; exact n _ _ _ (Option.some.inj h).symm) h
  have htk9 := tX _ _ (f8 _ _ px.tk pa7.htk) (fun _ _ _ z => by cases z)
  have st9 := st8.butI i8 px.p e9
  have np8 : d8 ≠ p := fun z => by
    obtain ⟨_, _, e1, _⟩ := pa7.pb.hp.ex
    rw [z, e1] at hd8; cases hd8
  have ntk8 : d8 ≠ tk := fun z => by rw [z, pa7.htk] at hd8; cases hd8
  refine ZAd ?_
  walk_at "rd"
  refine i9'.get TX.cl_PX TX.n_PX_taken (by walk_at "lk") ?_
  refine ⟨tk, _, _, _, rfl, rfl, htk9, ixN_of (by omega) (by rw [yAA, pa.tlen]; omega), ?_⟩
  rw [Int.toNat_natCast]
  have e10 : ∀ b o, b ≠ tk -> H9 b = some o -> upd H9 tk (.lst ((nL ts).set i (.int ((t + 1 : Nat) : Int)))) b = some o := fun b o n h => by rw [ZAI n]; exact h
  have h10 : upd H9 tk (.lst ((nL ts).set i (.int ((t + 1 : Nat) : Int)))) tk = some (.lst (nL (ts.set i (t + 1)))) := by
    rw [ZAG]; unfold nL; rw [List.map_set]
  generalize upd H9 tk (.lst ((nL ts).set i (.int ((t + 1 : Nat) : Int)))) = H10 at e10 h10 ⊢
  have npt : p ≠ tk := fun z => by
    obtain ⟨_, _, e1, _⟩ := i9'.ex
    rw [z, htk9] at e1; cases e1
  have up : ∀ b o, b ∉ [a, lg, tl] -> b ≠ tk -> H7 b = some o -> (∀ C d f, o ≠ .ins C d f) -> H10 b = some o := fun b o n1 n2 h n3 => e10 b o n2 (tX _ _ (f8 _ _ n1 h) n3)
  have tS : ∀ b z, H7 b = some (.tup z) -> H10 b = some (.tup z) := fun b z h => up b _ (st7.tupS h (fun _ z => by cases z) (fun _ _ _ z => by cases z)) (fun y => by rw [y, pa7.htk] at h; cases h) h (fun _ _ _ z => by cases z)
  have t10 := tS _ _ (k7t t0 _ ht0)
  obtain ⟨mv7, hml7, hMs7⟩ := pa7.hml
  rw [Nat.zero_mul, yCA] at dt8
  have pa10 : PourAt bb C_PX H10 p a pl tk ml d8 pls pcs (ts.set i (t + 1)) w1 kv8 := ⟨⟨ZCR (S := [tk]) (fun b o n h => e10 b o (fun z => n (by rw [z]; exact yAI)) h) (fun z => npt (yAK.mp z)) i9', up _ _ px.pl (Ne.symm pa.ne.1) pa7.pb.hpl (fun _ _ _ z => by cases z), pa.pb.len, fun j l ys h1 h2 => up _ _ (px.ls l (yAM h1)) (pa.ne.2.2 l (yAM h1)) (pa7.pb.pc j l ys h1 h2) (fun _ _ _ z => by cases z)⟩, h10, ⟨mv7, up _ _ px.ml (Ne.symm pa.ne.2.1) hml7 (fun _ _ _ z => by cases z), hMs7.keep tS⟩, ⟨e10 _ _ ntk8 (tX _ _ dt8.hd (fun _ _ _ z => by cases z)), dt8.sm, dt8.len, fun b c v h => let ⟨u, h1, h2⟩ := dt8.val b c v h; ⟨u, h1, h2.keep fun t z y => e10 _ _ (fun e => by rw [e, f8 _ _ px.tk pa7.htk] at y; cases y) (tX _ _ y (fun _ _ _ z => by cases z))⟩⟩, by rw [yCQ]; exact pa.tlen, pa.ne⟩
  have st10 := st9.apartP (S := [tk]) (H' := H10) (fun b o n h => e10 b o (fun z => n (by rw [z]; exact yAI)) h) (fun b hb => by rw [yAK.mp hb]; exact ⟨_, htk9⟩) ⟨fun z => px.r.1 (yAK.mp z), fun z => px.tk (by rw [<- yAK.mp z]; exact yAS _ yAI), fun z => px.tk (by rw [<- yAK.mp z]; exact yAS _ (yAS _ yAI)), fun z => px.r.2 (yAK.mp z)⟩
  walk_at "rd"
  refine ZBK (SqT.of t10) (ZAb (by decide) rfl) ?_
  refine q2 x i t hz hw0 hj0 ht hj1 d8 w1 l1 H10 kv8 (S7.free hd8) hGl (fun b o n h => ?_) pa10 st10
  have m : ∀ c, c ∈ [p, tk, a, lg, tl] -> b ≠ c := fun c hc z => n (by rw [z]; exact hc)
  exact e10 b o (m tk (by simp)) (e9 b o (m p (by simp)) (f8 b o (fun z => n (yAS _ (yAS _ z))) (S7 _ _ h)))
theorem ok_Pour_left {f : Addr} {fd : FuncData} (F : Fun K "left" "Pour.left" ZBG f fd) (T : Bt K mg C_Pour C_LastPour C_Asker C_AskedRule) (TX : BtX K C_PX)
    : FnOk P w K mg base CX0 1 f fd ["self"] (ZCd bb C_PX) := by
  refine F.ok sc_Pour_left (fun vs H Q E h => ?_) (fun cdv A outer s H vs Q E hr h => ?_)
  . obtain ⟨p, ak, pl, tk, ml, wd, pls, pcs, ts, rfl, pb, htk, hpl, htl, hpb, htb, q⟩ := h
    rfl
  obtain ⟨p, ak, pl, tk, ml, wd, pls, pcs, ts, rfl, pb, htk, hpl, htl, hpb, htb, q⟩ := h
  refine ⟨_, (ZAH (ZAW (ZAR ZBy (ZAK (ZDV rfl) rfl T.b_sum PyProof.Rows.boot_sum (ZAA (ZBL rfl (k := 1) (js := []) (N' := ["piece"]) (by rfl) (ZAs (ZAp (pv 0) rfl)) (fun _ _ _ _ => ZAY (i := 0) (show (["piece"] : List Str).Nodup by decide +kernel) rfl (by walk_at "o")) (fun _ _ _ _ => ZAy) (fun _ _ _ _ => (ZAK (call_len_seqK K) rfl T.b_len PySem.boot_len (ZAA (pv 0) ZAD)))) ZAD)) (ZAK (ZDV rfl) rfl T.b_sum PyProof.Rows.boot_sum (ZAA (ZAp (pv 0) rfl) ZAD))))), ?_⟩
  walk_at "rd"
  refine pb.hp.get TX.cl_PX TX.n_PX_pieces (by walk_at "lk") ?_
  walk_at "rd"
  refine ZA5 (SqL.of pb.hpl) (by rw [yAA, pb.len]; omega) (fun i ys σ H' => ∃ v, σ = [v] /\ H' = H /\ ys = ((pcs.take i).map fun xs => ((xs.length : Nat) : Int)).map V.int) ⟨_, rfl, rfl, rfl⟩ (fun i ys σ H' _ ⟨_, _, e, e2⟩ => ⟨by rw [e]; exact SqL.of pb.hpl, by rw [e2, yAA, yAA, yAT]; omega⟩) ?_ ?_
  . rintro i ys x σ H' hi hx ⟨v, rfl, rfl, rfl⟩
    rw [yAA, pb.len] at hi
    obtain ⟨xs, hxs⟩ : ∃ xs, pcs[i]? = some xs := ⟨_, yAC hi⟩
    obtain ⟨l, el, hl⟩ := pb.at hxs
    rw [yAG, el] at hx
    cases hx
    walk_at "rd"
    refine ⟨l, _, rfl, .inl (SqL.of hl), ?_⟩
    refine Nxt.of (by rw [yAA, pb.len]; exact hi) ⟨_, rfl, rfl, ?_⟩
    rw [yCB, hxs, yAQ, yAQ]
    show _ = _ ++ [V.int ((xs.length : Nat) : Int)]
    rw [yAA, ZD1]
  rintro ys σ H' ⟨v, rfl, rfl, rfl⟩ sl hsl
  rw [yAA, pb.len, yBI (yAB _)]
  obtain ⟨H1, e1, s1, h1⟩ := newH hsl (.lst ((pcs.map fun xs => ((xs.length : Nat) : Int)).map V.int))
  rw [e1]; clear e1
  refine ⟨sl, _, rfl, SqL.of h1, ⟨by rw [yAA]; omega, fun x hx => by
    obtain ⟨xs, h2, rfl⟩ := yBF.mp hx
    have := hpb xs h2
    omega⟩, ?_⟩
  refine (pb.mono s1).hp.get TX.cl_PX TX.n_PX_taken (by walk_at "lk") ?_
  have e2 : nL ts = (ts.map fun (n : Nat) => (n : Int)).map V.int := by unfold nL; rw [List.map_map]; rfl
  refine ⟨tk, _, rfl, SqL.of (by rw [<- e2]; exact s1 _ _ htk), ⟨by rw [yAA]; omega, fun x hx => by
    obtain ⟨t, h2, rfl⟩ := yBF.mp hx
    have := htb t h2
    omega⟩, ?_⟩
  rw [ZDj, show (pcs.map fun xs => ((xs.length : Nat) : Int)) = (pcs.map List.length).map fun (n : Nat) => (n : Int) by rw [List.map_map]; rfl, ZDj]
  exact q H1 s1
theorem ok_dealt {f : Addr} {fd : FuncData} (F : Fun K "_law_dealt" "_law_dealt" ZCX f fd) (T : Bt K mg C_Pour C_LastPour C_Asker C_AskedRule)
    (f_cell_at : Fn P w K mg base CX0 "_law_cell_at" 1 ["_law_script", "_law_k"] (ZCp K))
    (f_digits : Fn P w K mg base CX0 "_law_digits" 2 ["_law_script", "_law_k", "_law_base"] (ZCN K))
    (f_stream : Fn P w K mg base CX0 "_law_stream" 1 ["_law_cell", "_law_many"] (ZBS))
    : FnOk P w K mg base CX0 3 f fd ["_law_keys_here", "_law_script"] (ZCo K) := by
  refine F.ok sc_dealt (fun vs H Q E h => ?_) (fun cdv A outer s H vs Q E hr h => ?_)
  . obtain ⟨ky, a, ks, ns, rfl, hky, hkl, hS, h63, q⟩ := h
    rfl
  obtain ⟨ky, a, ks, ns, rfl, hky, hkl, hS, h63, q⟩ := h
  refine ⟨_, (ZAB (ZAN (i := 2) sc_dealt.nd rfl (by walk_at "o") (ZAu f_cell_at (hr.mono (by decide)) rfl ZAZ (ZAA (pv 1) (ZAA ZAF ZAD))))
   (ZAB (ZAN (i := 3) sc_dealt.nd rfl (by walk_at "o") (ZAu f_cell_at (hr.mono (by decide)) rfl ZAZ (ZAA (pv 1) (ZAA ZAF ZAD))))
   (ZAB (ZAN (i := 4) sc_dealt.nd rfl (by walk_at "o") (ZBY ZBh (ZAR ZAq (ZAR ZAm (ZAu f_cell_at (hr.mono (by decide)) rfl ZAZ (ZAA (pv 1) (ZAA ZAF ZAD))) ZAF) ZAF) ZAF (ZAS _)))
   (ZAB (ZAN (i := 5) sc_dealt.nd rfl (by walk_at "o") (ZAR ZAq (pv 2) ZAF))
   (ZAB (ZA4 (ZAP ZBh (ZAR ZAq (ZAR ZAm (pv 2) ZAF) ZAF) ZAF (ZAS _))
   (ZAH (ZAN (i := 5) sc_dealt.nd rfl (by walk_at "o") (ZAR ZAq (ZAR ZAm (pv 2) ZAF) ZAF))) ZAX)
    (ZAU
   (ZAB (ZBe (i := 6) sc_dealt.nd rfl (Or.inl rfl) rfl (k := 1) (js := []) (N' := ["_law_number"]) (by rfl) (ZBR rfl T.b_range (ZAA (pv 5) ZAD)) (fun _ _ _ _ => ZAY (i := 0) (show (["_law_number"] : List Str).Nodup by decide +kernel) rfl (by walk_at "o")) (fun _ _ _ _ => ZAy) (fun _ _ _ _ => (ZBM ZAD)))
    (ZAU
   (ZAB (ZBe (i := 7) sc_dealt.nd rfl (Or.inl rfl) rfl (k := 1) (js := []) (N' := ["_law_number"]) (by rfl) (ZAs (ZAu f_stream (hr.mono (by decide)) rfl ZAZ (ZAA (ZAR ZAm (pv 3) ZAF) (ZAA (ZAK ZAJ rfl T.b_len PySem.boot_len (ZAA (pv 0) ZAD)) ZAD)))) (fun _ _ _ _ => ZAY (i := 0) (show (["_law_number"] : List Str).Nodup by decide +kernel) rfl (by walk_at "o")) (fun _ _ _ _ => ZAy) (fun _ _ _ _ => (ZAR ZAm (pv 0) ZAF)))
   (ZAB (ZA4 (ZCr (pv 4))
   (ZAH (ZAN (i := 7) sc_dealt.nd rfl (by walk_at "o") (ZAu f_digits (hr.mono (by decide)) rfl ZAZ (ZAA (pv 1) (ZAA ZAF (ZAA ZAF ZAD)))))) ZAX)
    (ZAU
   (ZAB (ZCD PassesOwn.never rfl (ZAs (ZBL rfl (k := 1) (js := []) (N' := ["_law_pair"]) (by rfl) (ZAs (ZAK call_sortedT rfl T.b_sorted PyProof.Rows.boot_sorted (ZAA (ZBL rfl (k := 1) (js := [0]) (N' := ["_law_p", "_law_keys_here"]) (by rfl) (ZBR rfl T.b_range (ZAA (ZAK ZAJ rfl T.b_len PySem.boot_len (ZAA (pv 0) ZAD)) ZAD)) (fun _ _ _ _ => ZAY (i := 0) (show (["_law_p", "_law_keys_here"] : List Str).Nodup by decide +kernel) rfl (by walk_at "o")) (fun _ _ _ _ => ZAy) (fun _ _ _ _ => (ZBC (ZAA (ZAt (ix_listK K) (pv 1) (pv 0) (fun _ _ => rfl)) (ZAA (pv 0) ZAD))))) ZAD))) (fun _ _ _ _ => ZAY (i := 0) (show (["_law_pair"] : List Str).Nodup by decide +kernel) rfl (by walk_at "o")) (fun _ _ _ _ => ZAy) (fun _ _ _ _ => (ZAt (ZCx K) (pv 0) ZAF (fun _ _ => rfl))))) (ZAY (i := 8) sc_dealt.nd rfl (by walk_at "o"))
   (ZAB (ZAN (i := 9) sc_dealt.nd rfl (by walk_at "o") (ZAR ZAq (ZAt ZAi (pv 7) (pv 8) (fun _ _ => rfl)) (ZAR ZBD (pv 5) ZAF)))
   (ZAB (ZA4 (PW.pt (ZDX (ZAP ZE0 (pv 5) ZAF (ZAS _)) (ZDX (ZAP ZBh (ZAR ZAq (pv 3) ZAF) ZAF (ZAS _)) (ZDK (ZEQ (ZCr (pv 4)))))))
   (ZAH (ZAN (i := 9) sc_dealt.nd rfl (by walk_at "o") (ZAR ZAm (ZAR ZDB (pv 8) (pv 5)) (ZAK ZAJ rfl T.b_len PySem.boot_len (ZAA (pv 0) ZAD))))) ZAX)
      (ZAU
   (ZAH (ZA4 (ZAP ZC2 (pv 9) (pv 5) (ZAS _))
   (ZAH (ZBx (ZDN PySem.F.plainAttrs_list PySem.F.slot_list_append PySem.F.type_list_append ZBz (ZAt ZAi (pv 6) (pv 9) (fun _ _ => rfl)) (ZAA (pv 8) ZAD)))) ZAX))))))
    (ZAU
   (ZAH (ZAW (pv 6)))))))))))))))), ?_⟩
  walk_at "rd"
  refine ⟨a, ns, 2, rfl, hS, by decide, ?_⟩
  walk_at "rd"
  refine ⟨a, ns, 3, rfl, hS, by decide, ?_⟩
  walk_at "rd"
  refine ⟨a, ns, 0, rfl, hS, by decide, ?_⟩
  walk_at "rd"
  generalize cellOf ns 2 = c
  generalize cellOf ns 3 = m
  generalize decide (cellOf ns 0 / 32 % 2 = 1) = dg
  refine ⟨⟨by decide, by decide⟩, by decide, by decide, ⟨by decide, by decide⟩, by decide, ?_⟩
  apply onceS (fun n : Nat => [some (.ref ky), some (.ref a), some (.int c), some (.int m), some (.bl dg), some (.int (n : Int)), none, none, none, none]) (fun n => n <= 40)
  . intro tailp
    by_cases h : c / 9 % 4 = 1
    . rw [if_pos h]
      refine ⟨⟨by decide, by decide⟩, by decide, ?_⟩
      obtain ⟨k, hk⟩ : ∃ k : Nat, c / 36 % 41 = k := ⟨(c / 36 % 41).toNat, by omega⟩
      rw [hk]
      exact tailp k (by omega)
    . rw [if_neg h]
      obtain ⟨k, hk⟩ : ∃ k : Nat, c % 9 = k := ⟨(c % 9).toNat, by omega⟩
      rw [hk]
      exact tailp k (by omega)
  rintro n hn
  refine ZAd ?_
  walk_at "rd"
  refine ZCz (by omega) (fun i ys σ H' => ∃ v hls, σ = [v] /\ Same H H' /\ ys = hls.map V.ref /\ hls.length = i /\ hls.Nodup /\ ∀ b ∈ hls, H' b = some (.lst []) /\ H b = none) ⟨_, [], rfl, .refl _, rfl, rfl, List.nodup_nil, fun b h => by cases h⟩ (fun i ys σ H' ⟨_, hls, _, _, e, e2, _⟩ => by rw [e, yAA]; omega) ?_ ?_
  . rintro i ys σ H' hi ⟨v, hls, rfl, sA, rfl, hll, hnd, hem⟩
    walk_at "rd"
    refine ⟨yAF _, fun b hb => ?_⟩
    refine Nxt.of hi ⟨_, hls ++ [b], rfl, sA.new hb, by rw [yAQ]; rfl, by rw [yAD, hll]; rfl, ?_, fun b' h => ?_⟩
    . refine List.nodup_append.mpr ⟨hnd, yCL.mpr ⟨yBM, List.nodup_nil⟩, fun x hx y hy => ?_⟩
      rw [yAK.mp hy]
      exact ZAE (hem x hx).1 hb
    . rcases yBB.mp h with h | h
      . exact ⟨ZAO hb _ _ _ (hem b' h).1, (hem b' h).2⟩
      . rw [yAK.mp h]; exact ⟨ZAG, sA.free hb⟩
  rintro ys σ H1 ⟨v, hls, rfl, s1, rfl, hll, hnd, hem⟩ l hl0
  rw [Int.toNat_natCast] at hll
  obtain ⟨H2, e2, s2, h2⟩ := newH hl0 (.lst (hls.map V.ref))
  rw [e2]; clear e2
  have S2 := s1.trans s2
  refine ZAd ?_
  walk_at "rd"
  refine ⟨⟨by decide, by decide⟩, ky, _, rfl, .inl (SqL.of (S2 _ _ hky)), ?_⟩
  rw [yAA]
  refine ⟨m / 2, ks.length, rfl, by omega, by omega, fun sm0 H30 zs0 s30 hsm00 hsm0 hzl0 hzb0 => ?_⟩
  refine ZA5 (SqL.of hsm0) (by rw [yAA]; omega) (fun i ys σ H' => ∃ v, σ = [v] /\ Same H30 H' /\ ys = ((zs0.take i).map fun z => z / 7).map V.int) ⟨_, rfl, .refl _, rfl⟩ (fun i ys σ H' _ ⟨_, _, e, e2⟩ => ⟨SqL.of (e _ _ hsm0), by rw [e2, yAA, yAA, yAT]; omega⟩) ?_ ?_
  . rintro i ys x σ H' hi hx ⟨v, rfl, sA, rfl⟩
    obtain ⟨z, hz, rfl⟩ := ZB9 hx
    walk_at "rd"
    refine ⟨⟨by decide, by decide⟩, ?_⟩
    refine Nxt.of hi ⟨_, rfl, sA, ?_⟩
    rw [yCB, hz, yAQ, yAQ]; rfl
  rintro ys σ H31 ⟨v, rfl, s31, rfl⟩ sm1 hsm10
  rw [yAA, yBI (yAB _)]
  obtain ⟨H32, e32, s32, h32⟩ := newH hsm10 (.lst ((zs0.map fun z => z / 7).map V.int))
  rw [e32]; clear e32
  have S32 := s30.trans (s31.trans s32)
  apply ZE1 (α := Addr × List Int × Hp) (fun x => [some (.ref ky), some (.ref a), some (.int c), some (.int m), some (.bl dg), some (.int (n : Int)), some (.ref l), some (.ref x.1), none, none]) (fun x => x.2.2) (fun x => Same H2 x.2.2 /\ x.2.2 x.1 = some (.lst (x.2.1.map V.int)) /\ ks.length <= x.2.1.length /\ H2 x.1 = none)
  . intro tailp
    cases dg with
    | false =>
      rw [if_neg (by decide)]
      exact tailp (sm1, zs0.map (fun z => z / 7), H32) ⟨S32, h32, by rw [yAA]; omega, (s30.trans s31).free hsm10⟩
    | true =>
      rw [if_pos rfl]
      exact ⟨a, ns, 6, 41, rfl, (S2.trans S32).seq hS, h63, by decide, by decide, by decide, fun sm2 H33 zs2 s33 hs20 hs2 hz2 _ => tailp (sm2, zs2, H33) ⟨S32.trans s33, hs2, by show _ <= zs2.length; omega, S32.free hs20⟩⟩
  rintro ⟨sm, zs, H3⟩ ⟨s3, hsm, hzl, hsm0'⟩
  dsimp only at s3 hsm hzl hsm0'
  have S3 := S2.trans s3
  have hky3 := S3 _ _ hky
  clear hsm00 hsm0 hzl0 hzb0 s30 s31 s32 S32 h32 hsm10
  have hsm0 := hsm0'
  refine ZAd ?_
  walk_at "rd"
  refine ⟨ky, _, rfl, .inl (SqL.of hky3), ?_⟩
  rw [yAA]
  refine ZCz (by omega) (fun i ys σ H' => ∃ v, σ = [v, some (.ref ky)] /\ Same H3 H' /\ ys.length = i /\ ∀ (j : Nat) k, j < i -> ks[j]? = some k -> ∃ r, ys[j]? = some (V.ref r) /\ H' r = some (.tup [.int k, .int j])) ⟨_, rfl, .refl _, rfl, fun _ _ h => by omega⟩ (fun i ys σ H' ⟨_, _, _, l, _⟩ => Nat.le_of_eq l) ?_ ?_
  . rintro i ys σ H' hi ⟨v, rfl, sA, hl, hth⟩
    have hi' : i < ks.length := by omega
    walk_at "rd"
    rw [show (0 + (i : Int)) = i by omega]
    refine ZAz (SqL.of (sA _ _ hky3)) (ZCm (by omega) (by rw [Int.toNat_natCast]; exact kat_gt hi')) ⟨ZAV (by decide), fun t ht => ?_⟩
    refine Nxt.of hi ⟨_, rfl, sA.new ht, by rw [yAD, hl]; rfl, fun j k' hj hk' => ?_⟩
    by_cases z : j < i
    . obtain ⟨r, a1, a2⟩ := hth j k' z hk'
      exact ⟨r, by rw [yAV (by omega)]; exact a1, ZAO ht _ _ _ a2⟩
    . have : j = i := by omega
      subst this
      rw [kat_gt hi'] at hk'; cases hk'
      exact ⟨t, by rw [<- hl, yAU (yAB _), yBJ]; rfl, ZAG⟩
  rintro rs σ H11 ⟨v, rfl, s11, hrl, hth0⟩ zl hzl0
  rw [Int.toNat_natCast] at hrl hth0
  obtain ⟨H12, e12, s12, h12⟩ := newH hzl0 (.lst rs)
  rw [e12]; clear e12
  have hth : Things H12 ks rs := ⟨by omega, fun i k hk => by
    have hi := (yAJ.mp hk).1
    obtain ⟨r, a1, a2⟩ := hth0 i k (by omega) hk
    exact ⟨r, a1, s12 _ _ a2⟩⟩
  obtain ⟨zz, ezz, hzzl, hzz⟩ := hth.zz
  have hz : ∀ z ∈ zz, ∃ q : Nat, z.2 = (kat ks q, (q : Int)) /\ q < ks.length /\ H12 z.1 = some (.tup [.int (kat ks q), .int q]) := fun z hzm => by
    obtain ⟨i, hi, e⟩ := yCP hzm
    obtain ⟨a1, a2⟩ := hzz i z (by rw [yAC hi, e])
    exact ⟨i, a1, by omega, a2⟩
  have hzp : zz.Pairwise (fun (x y : PrA) => x.2.2 ≠ y.2.2) := by
    rw [List.pairwise_iff_getElem]
    intro i j hi hj hij
    have a1 := (hzz i _ (yAC hi)).1
    have a2 := (hzz j _ (yAC hj)).1
    rw [a1, a2]
    show (i : Int) ≠ j
    omega
  refine ⟨zl, zz, rfl, SqL.of (by rw [<- ezz]; exact h12), fun z hzm => ?_, by omega, fun sl ms hsl hperm hsorted => ?_⟩
  . obtain ⟨q, a1, _, a4⟩ := hz z hzm
    rw [a1]
    exact SqT.of a4
  obtain ⟨HE, eE, sE, hE⟩ := newH hsl (.lst (ms.map fun z => V.ref z.1))
  rw [eE]; clear eE
  have hml : ms.length = zz.length := hperm.length_eq
  have hms : ∀ z ∈ ms, ∃ q : Nat, z.2 = (kat ks q, (q : Int)) /\ q < ks.length /\ HE z.1 = some (.tup [.int (kat ks q), .int q]) := fun z hzm => by
    obtain ⟨q, a1, a2, a4⟩ := hz z (hperm.mem_iff.mp hzm)
    exact ⟨q, a1, a2, sE _ _ a4⟩
  have hdis : ms.Pairwise (fun (x y : PrA) => x.2.2 ≠ y.2.2) := (hperm.pairwise_iff fun {x y} z => Ne.symm z).mpr hzp
  have hos : (ms.map fun z => z.2.2.toNat).Pairwise (lx ks) := by
    rw [List.pairwise_map]
    refine (hsorted.and hdis).imp_of_mem fun {x y} hx hy z => ?_
    obtain ⟨q1, a1, _, _⟩ := hms x hx
    obtain ⟨q2, b1, _, _⟩ := hms y hy
    have z1 := z.1
    have z2 := z.2
    rw [a1, b1] at z1 z2
    rw [a1, b1]
    show lx ks (q1 : Int).toNat (q2 : Int).toNat
    rw [Int.toNat_natCast, Int.toNat_natCast]
    unfold lxP at z1
    dsimp only at z1 z2
    unfold lx
    omega
  have hosm : ∀ x ∈ ms.map (fun z => z.2.2.toNat), x < ks.length := fun x hx => by
    obtain ⟨z, hzm, rfl⟩ := yBF.mp hx
    obtain ⟨q, a1, a2, _⟩ := hms z hzm
    rw [a1]
    show (q : Int).toNat < _
    rw [Int.toNat_natCast]
    exact a2
  have hosl : (ms.map fun z => z.2.2.toNat).length = ms.length := yAA ..
  refine ZA5 (SqL.of hE) (by rw [yAA]; omega) (fun i ys σ H' => ∃ v, σ = [v] /\ Same HE H' /\ ys = nL ((ms.map fun z => z.2.2.toNat).take i)) ⟨_, rfl, .refl _, rfl⟩ (fun i ys σ H' _ ⟨_, _, e, e2⟩ => ⟨SqL.of (e _ _ hE), by rw [e2, yAA, yAT]; omega⟩) ?_ ?_
  . rintro i ys x σ H' hi hx ⟨v, rfl, sA, rfl⟩
    rw [yAA] at hi
    rw [yAG, yAC hi] at hx
    cases hx
    obtain ⟨q, a1, a2, a4⟩ := hms ms[i] (yCT hi)
    walk_at "rd"
    refine ZBK (SqT.of (sA _ _ a4)) (ZAb (by decide) rfl) ?_
    refine Nxt.of (by rw [yAA]; exact hi) ⟨_, rfl, sA, ?_⟩
    rw [yCB, yAG, yAC hi]
    unfold nL
    rw [yAQ]
    show _ = _ ++ [V.int ((ms[i].2.2.toNat : Nat) : Int)]
    rw [a1]
    show _ = _ ++ [V.int (((q : Int).toNat : Nat) : Int)]
    rw [Int.toNat_natCast]
  rintro ys σ HF ⟨v, rfl, sF, rfl⟩ od hod
  rw [yAA, yBI (by rw [yAA]; exact yAB _)]
  rw [hml, hzzl] at hosl
  generalize (ms.map fun z => z.2.2.toNat) = os at hos hosm hosl ⊢
  obtain ⟨H13, eO, sO, hod13⟩ := newH hod (.lst (nL os))
  rw [eO]; clear eO
  have S13 : Same H3 H13 := s11.trans (s12.trans (sE.trans (sF.trans sO)))
  clear hms hdis hml hsorted hperm hzp hz hzz hth hth0
  have SA : Same H1 H13 := (s2.trans s3).trans S13
  have hky13 := S13 _ _ hky3
  have hsm13 := S13 _ _ hsm
  have hl13 := (s3.trans S13) _ _ h2
  have nbl : ∀ b ∈ hls, b ≠ l /\ b ≠ ky /\ b ≠ sm /\ b ≠ od := fun b hb => by
    obtain ⟨h1, h2'⟩ := hem b hb
    exact ⟨ZAE h1 hl0, (fun z => by rw [z, hky] at h2'; cases h2'), ZAE (s2 _ _ h1) hsm0, ZAE ((s2.trans (s3.trans (s11.trans (s12.trans (sE.trans sF))))) _ _ h1) hod⟩
  obtain ⟨num, hnum⟩ : ∃ num : Nat -> Nat, ∀ p, num p = if (0 < n /\ m % 2 = 1) /\ dg = false then p * n / ks.length else (zs.getD p 0 % ((n : Int) + 1)).toNat := ⟨_, fun _ => rfl⟩
  refine ZCZ (SqL.of hod13) (fun i σ X => ∃ v6 v7, σ = [some (.ref ky), some (.ref a), some (.int c), some (.int m), some (.bl dg), some (.int (n : Int)), some (.ref l), some (.ref sm), v6, v7] /\ PL X hls (ZCe n num (os.take i)) /\ ∀ b o, b ∉ hls -> H13 b = some o -> X b = some o) ⟨_, _, rfl, ⟨by rw [ZBJ]; exact hll, fun i b us h1 h2' => ?_, hnd⟩, fun _ _ _ h => h⟩ (fun i σ X _ ⟨_, _, _, _, e⟩ => SqL.of (e _ _ (fun z => (nbl _ z).2.2.2 rfl) hod13)) ?_ ?_
  . have hb := yAM h1
    have hi : i < n := by have := (yAJ.mp h1).1; omega
    rw [ZBo hi] at h2'
    cases h2'
    exact SA _ _ (hem b hb).1
  . rintro i x σ X hx ⟨v6, v7, rfl, hPX, kX⟩
    have hi := (yAJ.mp hx).1
    rw [yAA] at hi
    obtain ⟨p, hp⟩ : ∃ p, os[i]? = some p := ⟨_, yAC hi⟩
    rw [yAG, hp] at hx
    cases hx
    have hpk := hosm p (yAM hp)
    have etk : os.take (i + 1) = os.take i ++ [p] := by rw [yCB, hp]; rfl
    have hzp : p < zs.length := by omega
    have hsmX := kX _ _ (fun z => (nbl _ z).2.2.1 rfl) hsm13
    have hlX := kX _ _ (fun z => (nbl _ z).1 rfl) hl13
    have hkyX := kX _ _ (fun z => (nbl _ z).2.1 rfl) hky13
    walk_at "rd"
    refine ZAz (SqL.of hsmX) (show atI (zs.map V.int) (p : Int) = some (.int (zs.getD p 0)) from ZCm (by omega) (by rw [Int.toNat_natCast, yBL, yAC hzp]; rfl)) ?_
    walk_at "rd"
    refine ⟨by omega, ?_⟩
    apply onceS (fun j : Nat => [some (.ref ky), some (.ref a), some (.int c), some (.int m), some (.bl dg), some (.int (n : Int)), some (.ref l), some (.ref sm), some (.int (p : Int)), some (.int (j : Int))]) (fun j => j = num p)
    . intro tailp
      have h00 := Int.emod_nonneg (zs.getD p 0) (show ((n : Int) + 1) ≠ 0 by omega)
      obtain ⟨k, hk⟩ : ∃ k : Nat, zs.getD p 0 % ((n : Int) + 1) = k := ⟨(zs.getD p 0 % ((n : Int) + 1)).toNat, by omega⟩
      have hnk : ¬ ((0 < n /\ m % 2 = 1) /\ dg = false) -> k = num p := fun z => by rw [hnum, if_neg z, hk, Int.toNat_natCast]
      rw [hk]
      by_cases h0 : (0 : Int) < n
      . rw [if_pos h0]
        refine ⟨by decide, ?_⟩
        by_cases h1 : m % 2 = 1
        . rw [if_pos h1]
          by_cases h2 : dg = false
          . rw [if_pos h2]
            refine ⟨.inl ⟨by omega, by omega⟩, ky, _, rfl, .inl (SqL.of hkyX), ⟨by rw [yAA]; omega, by rw [yAA]; omega⟩, ?_⟩
            rw [yAA, show (p : Int) * n / (ks.length : Int) = ((p * n / ks.length : Nat) : Int) by rw [Int.natCast_ediv, Int.natCast_mul]]
            exact tailp _ (by rw [hnum, if_pos ⟨⟨by omega, h1⟩, h2⟩])
          . rw [if_neg h2]
            exact tailp k (hnk fun z => h2 z.2)
        . rw [if_neg h1]
          exact tailp k (hnk fun z => h1 z.1.2)
      . rw [if_neg h0]
        exact tailp k (hnk fun z => h0 (by omega))
    rintro j hj
    subst hj
    refine ZAd ?_
    walk_at "rd"
    by_cases hlt : ((num p : Nat) : Int) < n
    . rw [if_pos hlt]
      have hlt' : num p < n := by omega
      obtain ⟨b, hb⟩ : ∃ b, hls[num p]? = some b := ⟨_, yAC (show num p < hls.length by omega)⟩
      have hbX := hPX.at' _ b _ hb (ZBo hlt')
      refine ZAz (SqL.of hlX) (show atI (hls.map V.ref) ((num p : Nat) : Int) = some (.ref b) from ZAb (by omega) (by rw [Int.toNat_natCast, yAG, hb]; rfl)) ?_
      walk_at "rd"
      refine ⟨.inl ⟨rfl, _, SqL.of hbX⟩, b, _, _, rfl, rfl, hbX, ZAw (by rw [yAA]; exact yAE (yCC _ _) (by rw [yAT]; omega)), ?_⟩
      refine ⟨_, _, rfl, ?_, fun b' o n' h => ?_⟩
      . rw [etk, pcsOf_snoc, if_pos hlt']
        have := hPX.push (ys := []) hb (((os.take i).filter fun q => decide (num q = num p)) ++ [p])
        unfold nL at this
        rw [yAQ] at this
        exact this
      . rw [ZAI (fun z => n' (by rw [z]; exact yAM hb))]
        exact kX b' o n' h
    . rw [if_neg hlt]
      exact ⟨_, _, rfl, by rw [etk, pcsOf_snoc, if_neg (by omega)]; exact hPX, kX⟩
  rintro σ X ⟨v6, v7, rfl, hPX, kX⟩
  rw [yAA, yBI (yAB _)] at hPX
  walk_at "rd"
  refine ZAd ?_
  walk_at "rd"
  have hin : ∀ ys ∈ ZCe n num os, ∃ i, ys = os.filter fun p => decide (num p = i) := fun ys h => by
    obtain ⟨i, _, e⟩ := yBF.mp h
    exact ⟨i, e.symm⟩
  have SX : Same H X := fun b o h => kX b o (fun z => by rw [(hem b z).2] at h; cases h) ((s1.trans SA) _ _ h)
  refine q l hls _ X SX (s1.free hl0) (kX _ _ (fun z => (nbl _ z).1 rfl) hl13) hPX (fun b h => (hem b h).2) (by rw [ZBJ]; omega) (fun ys h => ?_) (fun i j xi xj y hij h1 h2' hy1 hy2 => ?_) (by rw [pcs_sum]; exact yAE (yCC _ _) (by omega))
  . obtain ⟨i, rfl⟩ := hin ys h
    exact ⟨hos.filter _, fun y hy => hosm y (yBV.mp hy).1, yAE (yCC _ _) (by omega)⟩
  . have hi : i < n := by have := (yAJ.mp h1).1; rw [ZBJ] at this; exact this
    have hj : j < n := by have := (yAJ.mp h2').1; rw [ZBJ] at this; exact this
    rw [ZBo hi] at h1
    rw [ZBo hj] at h2'
    cases h1
    cases h2'
    have a1 := of_decide_eq_true (yBV.mp hy1).2
    have a2 := of_decide_eq_true (yBV.mp hy2).2
    omega
theorem ok_spans {n : Nat} {f : Addr} {fd : FuncData} (F : Fun K "_law_spans" "_law_spans" ZCW f fd) (T : Bt K mg C_Pour C_LastPour C_Asker C_AskedRule)
    (f_spans : Fn P w K mg base CX0 "_law_spans" n ["_law_low", "_law_high"] (ZCU n))
    : FnOk P w K mg base CX0 (n + 1) f fd ["_law_low", "_law_high"] (ZCU (n + 1)) := by
  refine F.ok sc_spans (fun vs H Q E h => ?_) (fun cdv A outer s H vs Q E hr h => ?_)
  . obtain ⟨f, b, rfl, hfb, hb6, hn0, hbn, q⟩ := h
    rfl
  obtain ⟨f, b, rfl, hfb, hb6, hn0, hbn, q⟩ := h
  refine ⟨_, (ZAB (ZA4 (ZAP ZC2 (ZAR ZBy (pv 1) (pv 0)) ZAF (ZAS _))
   (ZAH (ZAW (ZBM ZAD))) ZAX)
   (ZAB (ZAN (i := 2) sc_spans.nd rfl (by walk_at "o") (ZAR ZAm (ZAR ZBD (ZAR ZBD (pv 0) (pv 1)) ZAF) ZAF))
   (ZAH (ZAW (ZAR ZDZ (ZAR ZDZ (ZAu f_spans (hr.mono (yAB _)) rfl ZAZ (ZAA (pv 0) (ZAA (pv 2) ZAD))) (ZAu f_spans (hr.mono (yAB _)) rfl ZAZ (ZAA (pv 2) (ZAA (pv 1) ZAD)))) (ZBM (ZAA (ZBC (ZAA (pv 0) (ZAA (pv 1) ZAD))) ZAD))))))), ?_⟩
  walk_at "rd"
  by_cases hlt : (b : Int) - f < 2
  . rw [if_pos hlt]
    refine ⟨yAF _, fun l hl => q l _ [] (ZAO hl _) hl ZAG ?_⟩
    rw [Po.mts_leaf (by omega)]
    exact SpAt.nil
  rw [if_neg hlt]
  refine ⟨⟨by decide, by decide⟩, ?_⟩
  have hm := Po.mid_lt (f := f) (b := b) (by omega)
  have em : ((f : Int) + b + 1) / 2 = ((Po.mid f b : Nat) : Int) := by unfold Po.mid; omega
  rw [em]
  have hn2 : 2 ^ (n + 1 - 1) = 2 ^ n := by rw [yCZ]
  rw [hn2] at hbn
  obtain ⟨k, rfl⟩ : ∃ k, n = k + 1 := ⟨n - 1, by
    cases n with
    | zero => rw [Nat.pow_zero] at hbn; omega
    | succ n => rfl⟩
  rw [Nat.pow_succ] at hbn
  refine ⟨f, Po.mid f b, rfl, by omega, by omega, by omega, by rw [yCZ]; unfold Po.mid at *; omega, fun l1 H1 ws1 s1 hl10 hl1 hM1 => ?_⟩
  refine ⟨Po.mid f b, b, rfl, by omega, by omega, by omega, by rw [yCZ]; unfold Po.mid at *; omega, fun l2 H2 ws2 s2 hl20 hl2 hM2 => ?_⟩
  have len1 := hM1.len
  have len2 := hM2.len
  rw [Po.mts_len] at len1 len2
  refine ⟨l1, l2, ws1, ws2, rfl, rfl, s2 _ _ hl1, hl2, ZAV (by omega), fun l3 hl3 => ?_⟩
  obtain ⟨H3, e3, s3, h3⟩ := newH hl3 (.lst (ws1 ++ ws2))
  rw [e3]; clear e3
  refine ⟨ZAV (by decide), fun t ht => ?_⟩
  obtain ⟨H4, e4, s4, h4⟩ := newH ht (.tup [.int (f : Int), .int (b : Int)])
  rw [e4]; clear e4
  refine ⟨ZAV (by decide), fun l4 hl4 => ?_⟩
  obtain ⟨H5, e5, s5, h5⟩ := newH hl4 (.lst [.ref t])
  rw [e5]; clear e5
  refine ⟨l3, l4, _, _, rfl, rfl, s5 _ _ (s4 _ _ h3), h5, ZAV (by rw [yAD, yBN]; omega), fun l6 hl6 => ?_⟩
  have S5 := s1.trans (s2.trans (s3.trans (s4.trans s5)))
  refine q l6 _ _ (S5.trans (ZAO hl6 _)) (S5.free hl6) ZAG ?_
  rw [Po.mts_node (by omega)]
  exact ((hM1.keep fun _ _ z => ZAO hl6 _ _ _ (s5 _ _ (s4 _ _ (s3 _ _ (s2 _ _ z))))).app (hM2.keep fun _ _ z => ZAO hl6 _ _ _ (s5 _ _ (s4 _ _ (s3 _ _ z))))).app (SpAt.one (m := (f, Po.mid f b, b)) (ZAO hl6 _ _ _ (s5 _ _ h4)))
theorem ok_from {f : Addr} {fd : FuncData} (F : Fun K "_law_from" "_law_from" ZC9 f fd) (T : Bt K mg C_Pour C_LastPour C_Asker C_AskedRule)
    : FnOk P w K mg base CX0 1 f fd ["_law_won", "_law_rest", "_law_low", "_law_high", "_law_last"] (ZDz) := by
  refine F.ok sc_from (fun vs H Q E h => ?_) (fun cdv A outer s H vs Q E hr h => ?_)
  . obtain ⟨bb, wd, rs, rls, pcs, ts, w, B, kvs, lo, hi, v, rfl, W, R, hlh, hhi, hlf, hv, q⟩ := h
    rfl
  obtain ⟨bb, wd, rs, rls, pcs, ts, w, B, kvs, lo, hi, v, rfl, W, R, hlh, hhi, hlf, hv, q⟩ := h
  refine ⟨_, (ZAB (ZA4 (ZAP ZE0 (ZAR ZBy (pv 3) (pv 2)) ZAF (ZAS _))
   (ZAH (ZAW (ZDn (ZC5 hr) (pv 0) (ZBC (ZAA (pv 2) (ZAA (pv 3) ZAD))) (fun _ _ => rfl)))) ZAX)
   (ZAB (ZA4 (ZAP (op_eqD hr.units) (ZAt ZAi (pv 1) (pv 2) (fun _ _ => rfl)) (ZBM ZAD) (ZAS _))
   (ZAH (ZAW ZBU)) ZAX)
   (ZAB (ZA4 (ZCr (pv 4))
   (ZAH (ZAW (ZAt ZAi (ZAt ZAi (pv 1) (pv 2) (fun _ _ => rfl)) (pe_un un_neg ZAF) (fun _ _ => rfl)))) ZAX)
   (ZAH (ZAW (ZAt ZAi (ZAt ZAi (pv 1) (pv 2) (fun _ _ => rfl)) ZAF (fun _ _ => rfl))))))), ?_⟩
  walk_at "rd"
  by_cases h1 : (hi : Int) - lo > 1
  . rw [if_pos (by omega)]
    refine ⟨ZAV (by decide), fun k1 hk1 => ?_⟩
    obtain ⟨X1, eX1, sX1, hX1⟩ := newH hk1 (.tup [.int (lo : Int), .int (hi : Int)])
    rw [eX1]; clear eX1
    exact ⟨wd, plv v, rfl, by have := DGet.t (k := kQ lo hi) (sX1 _ _ W.hd) hX1; rw [W.val lo hi v (by omega) hv] at this; exact this, q X1 sX1⟩
  rw [if_neg (by omega)]
  have eh : hi = lo + 1 := by omega
  subst eh
  obtain ⟨l, xs, t, e1, e2, e3, hl, ef⟩ := R.at (i := lo) (by omega)
  rw [hlf lo (by omega), ef] at hv
  cases hv
  refine ZAz (SqL.of R.h) (ZAb (v := .ref l) (by omega) (by rw [Int.toNat_natCast, yAG, e1]; rfl)) ⟨yAF _, fun e0 he0 => ?_⟩
  obtain ⟨H1, ee, s1, h01⟩ := newH he0 (.lst [])
  rw [ee]; clear ee
  have hl1 := s1 _ _ hl
  have hl2 := hl1
  rw [ZDo] at hl2
  refine eqD_of Enc.int.list (by decide) (a := (rv bb (xs.drop t)).map fun (n : Nat) => (n : Int)) (b := []) (ZCa (SqL.of hl2)) (ZCa (xs := []) (SqL.of h01)) ⟨_, rfl, ?_⟩
  by_cases hz : t < xs.length
  . have ex : xs[t]? = some xs[t] := yAC hz
    have ed : xs.drop t = xs[t] :: xs.drop (t + 1) := yCJ hz
    have eq' : plv (ZBa xs t lo) = .int ((xs[t] : Nat) : Int) := by unfold ZBa; rw [ex]; rfl
    rw [eq'] at q
    rw [if_neg (by cases bb <;> simp [rv] <;> omega)]
    cases bb
    . rw [if_neg (by decide)]
      refine ZAz (SqL.of (s1 _ _ R.h)) (ZAb (v := .ref l) (by omega) (by rw [Int.toNat_natCast, yAG, e1]; rfl)) ?_
      rw [ed] at hl1
      exact ZAz (SqL.of hl1) (ZAb (by decide) rfl) (q H1 s1)
    . rw [if_pos rfl]
      refine ZAz (SqL.of (s1 _ _ R.h)) (ZAb (v := .ref l) (by omega) (by rw [Int.toNat_natCast, yAG, e1]; rfl)) ?_
      rw [ed] at hl1
      have eL : nL (rv true (xs[t] :: xs.drop (t + 1))) = nL (xs.drop (t + 1)).reverse ++ [.int ((xs[t] : Nat) : Int)] := by
        show nL (xs[t] :: xs.drop (t + 1)).reverse = _
        rw [List.reverse_cons]; unfold nL; rw [yAQ]; rfl
      rw [eL] at hl1
      exact ZAz (SqL.of hl1) getL_snoc (q H1 s1)
  . have eq' : plv (ZBa xs t lo) = .non := by unfold ZBa; rw [yBE (by omega)]; rfl
    rw [eq'] at q
    rw [if_pos (by rw [List.drop_of_length_le (by omega)]; cases bb <;> simp [rv])]
    exact q H1 s1
theorem ok_held {f : Addr} {fd : FuncData} (F : Fun K "_law_held" "_law_held" ZC8 f fd) (T : Bt K mg C_Pour C_LastPour C_Asker C_AskedRule)
    (f_from : Fn P w K mg base CX0 "_law_from" 1 ["_law_won", "_law_rest", "_law_low", "_law_high", "_law_last"] (ZDz))
    : FnOk P w K mg base CX0 2 f fd ["_law_asks", "_law_spans_here", "_law_won", "_law_rest", "_law_last"] (ZDk) := by
  refine F.ok sc_held (fun vs H Q E h => ?_) (fun cdv A outer s H vs Q E hr h => ?_)
  . obtain ⟨bb, al, sp, wd, rs, avs, svs, rls, pcs, ts, ms, w0, w1, e, B, c, kvs, rfl, hal, hT, hsp, hM, W, R, hlf, htr, hne, hms, hp2, hm2, hB, hcc, q⟩ := h
    rfl
  obtain ⟨bb, al, sp, wd, rs, avs, svs, rls, pcs, ts, ms, w0, w1, e, B, c, kvs, rfl, hal, hT, hsp, hM, W, R, hlf, htr, hne, hms, hp2, hm2, hB, hcc, q⟩ := h
  refine ⟨_, (ZAB (ZAN (i := 5) sc_held.nd rfl (by walk_at "o") ZAF)
   (ZAB (ZCD PassesOwn.never rfl (ZAs (pv 1)) (ZER (n := 2) rfl (ZBn (ZAY (i := 6) sc_held.nd rfl (by walk_at "o")) (ZBn (ZAY (i := 7) sc_held.nd rfl (by walk_at "o")) ZDm)))
   (ZAB (ZAN (i := 8) sc_held.nd rfl (by walk_at "o") (ZAR ZAm (ZAR ZBD (ZAR ZBD (pv 6) (pv 7)) ZAF) ZAF))
   (ZAB (ZAN (i := 9) sc_held.nd rfl (by walk_at "o") (ZAu f_from (hr.mono (by decide)) rfl ZAZ (ZAA (pv 2) (ZAA (pv 3) (ZAA (pv 6) (ZAA (pv 8) (ZAA (pv 4) ZAD)))))))
   (ZAB (ZAN (i := 10) sc_held.nd rfl (by walk_at "o") (ZAu f_from (hr.mono (by decide)) rfl ZAZ (ZAA (pv 2) (ZAA (pv 3) (ZAA (pv 8) (ZAA (pv 7) (ZAA (pv 4) ZAD)))))))
      (ZAU
   (ZAB (ZCY (ZC5 hr) (pv 2) (ZBC (ZAA (pv 6) (ZAA (pv 7) ZAD))) (pv 9) rfl)
      (ZAU
   (ZAH (ZA4 (ZAP ZCs (pv 9) ZBU (ZAS _))
   (ZAH (ZCY (ZC5 hr) (pv 2) (ZBC (ZAA (pv 6) (ZAA (pv 7) ZAD))) (pv 10) rfl))
   (ZAH (ZA4 (ZAP op_notN (pv 10) ZBU (ZAS _))
   (ZAB (ZA4 (PW.pt (ZEP (ZAP op_ge (pv 5) (ZAK ZAJ rfl T.b_len PySem.boot_len (ZAA (pv 0) ZAD)) (ZAS _)) (ZD3 (ZAP (ZES hr.units) (ZCP sl_tup (ZAt ZAi (pv 0) (pv 5) (fun _ _ => rfl)) ZDl (ZCG ZAF)) (ZBC (ZAA (ZAK (ZC0 rfl) rfl T.b_max PyProof.Rows.boot_max (ZAA (pv 9) (ZAA (pv 10) ZAD))) (ZAA (ZAK (call_min2 rfl) rfl T.b_min PyProof.Rows.boot_min (ZAA (pv 9) (ZAA (pv 10) ZAD))) ZAD))) (ZAS _)))))
   (ZAH (ZAW ZEf)) ZAX)
   (ZAB (ZA4 (ZAP ZEg (ZBY ZBh (ZAt ZB0 (ZAt ZAi (pv 0) (pv 5) (fun _ _ => rfl)) ZAF (fun _ _ => rfl)) (ZBY ZE0 (pv 10) (pv 9) (ZAS _)) (ZAS _)) (pv 4) (ZAS _))
   (ZAH (ZCY (ZC5 hr) (pv 2) (ZBC (ZAA (pv 6) (ZAA (pv 7) ZAD))) (pv 10) rfl)) ZAX)
   (ZAH (ZAN (i := 5) sc_held.nd rfl (by walk_at "o") (ZAR ZBD (pv 5) ZAF))))) ZAX)))))))))))
   (ZAH (ZAW (ZBY ZBh (pv 5) (ZAK ZAJ rfl T.b_len PySem.boot_len (ZAA (pv 0) ZAD)) (ZAS _)))))), ?_⟩
  walk_at "rd"
  have tw : ∀ b o, H b = some o -> (∀ z, o ≠ .dT z) -> b ∉ [wd] := fun b o h n z => by rw [yAK.mp z, W.hd] at h; exact n _ (Option.some.inj h).symm
  refine ZCZ (SqL.of hsp) (fun i σ X => ∃ v6 v7 v8 v9 v10 at' wi kvi, σ = [some (.ref al), some (.ref sp), some (.ref wd), some (.ref rs), some (.bl bb), some (.int ((at' : Nat) : Int)), v6, v7, v8, v9, v10] /\ at' <= e.length /\ Po.Tr (ms.drop i) wi (e.drop at') w1 /\ (∀ j, j < pcs.length -> wi j (j + 1) = some (frs pcs ts j)) /\ (∀ a c, (w0 a c).isSome = true -> (wi a c).isSome = true) /\ WD X wd wi (B + c * i) kvi /\ Fr [wd] H X) ⟨_, _, _, _, _, 0, w0, kvs, rfl, yAF _, htr, hlf, fun _ _ h => h, by rw [Nat.mul_zero]; exact W, .refl⟩ (fun i σ X _ ⟨_, _, _, _, _, _, _, _, _, _, _, _, _, _, f⟩ => SqL.of (f _ _ (tw _ _ hsp fun _ z => by cases z) hsp)) ?_ ?_
  . rintro i u σ X hx ⟨v6, v7, v8, v9, v10, at', wi, kvi, rfl, hat, htri, hlfi, hdom, Wi, fX⟩
    have hi := (yAJ.mp hx).1
    rw [hM.len] at hi
    obtain ⟨m, hm⟩ : ∃ m, ms[i]? = some m := ⟨_, yAC hi⟩
    obtain ⟨t, ht1, ht2⟩ := hM.get i m hm
    rw [hx] at ht1
    cases ht1
    have hmm := hms m (yAM hm)
    have hmid := Po.mid_lt hmm.2.2
    rw [<- hmm.1] at hmid
    have htX := fX _ _ (tw _ _ ht2 fun _ z => by cases z) ht2
    have RX := R.fr fX (tw _ _ R.h fun _ z => by cases z) fun l hl => by
      obtain ⟨j, hj, ej⟩ := yCP hl
      have hjp : j < pcs.length := by rw [<- R.len]; exact hj
      obtain ⟨l', xs, t', a1, _, _, a4, _⟩ := R.at hjp
      rw [yAC hj, ej] at a1
      cases a1
      exact tw _ _ a4 fun _ z => by cases z
    rw [drop_consG hm] at htri
    obtain ⟨x, y, b, e', e1, e2, ee, htri⟩ := htri
    refine ZDu (SqT.of htX) rfl ?_
    walk_at "rd"
    refine ⟨⟨by decide, by decide⟩, ?_⟩
    rw [show ((m.1 : Int) + m.2.2 + 1) / 2 = ((m.2.1 : Nat) : Int) by rw [hmm.1]; unfold Po.mid; omega]
    refine ⟨bb, wd, rs, rls, pcs, ts, wi, _, kvi, m.1, m.2.1, x, rfl, Wi, RX, hmid.1, by omega, hlfi, e1, fun X1 s1 => ?_⟩
    refine ⟨bb, wd, rs, rls, pcs, ts, wi, _, kvi, m.2.1, m.2.2, y, rfl, Wi.mono s1, RX.mono s1, hmid.2, hmm.2.1, hlfi, e2, fun X2 s2 => ?_⟩
    have S2 := s1.trans s2
    have hci : c * i <= 200 := by rcases hcc with rfl | ⟨rfl, _⟩ <;> omega
    have hk : c = 1 ∨ (wi m.1 m.2.2).isSome = true := by
      rcases hcc with z | ⟨_, z⟩
      . exact .inl z
      . exact .inr (hdom _ _ (z m (yAM hm)))
    refine ZAd ?_
    walk_at "rd"
    refine ⟨ZAV (by decide), fun k3 hk3 => ?_⟩
    obtain ⟨X3, eX3, s3, hX3⟩ := newH hk3 (.tup [.int (m.1 : Int), .int (m.2.2 : Int)])
    rw [eX3]; clear eX3
    have W3 := (Wi.mono S2).mono s3
    refine ⟨wd, _, rfl, DPut.t (k := kQ m.1 m.2.2) W3.hd hX3 (ZAw (by have := W3.len; omega)), ?_⟩
    have W1 := W3.put (v := x) hmm.2.2 hk
    have f1 : Fr [wd] H (upd X3 wd (.dT (putK kvi (kQ m.1 m.2.2) (plv x)))) := fX.trans (S2.fr.trans (s3.fr.trans (Fr.upd yAI)))
    generalize upd X3 wd (.dT (putK kvi (kQ m.1 m.2.2) (plv x))) = Y at W1 f1 ⊢
    have hlfn : ∀ v j, j < pcs.length -> Po.put wi m.1 m.2.2 v j (j + 1) = some (frs pcs ts j) := fun v j hj => by
      unfold Po.put
      rw [if_neg (by omega)]
      exact hlfi j hj
    have hdn : ∀ v a c, (w0 a c).isSome = true -> (Po.put wi m.1 m.2.2 v a c).isSome = true := fun v a c h => by
      unfold Po.put
      split
      . rfl
      . exact hdom a c h
    have eB : B + c * i + c = B + c * (i + 1) := by rw [Nat.mul_succ, Nat.add_assoc]
    rw [eB] at W1
    clear Wi W3 RX s1 s2 s3 S2 hX3 fX hk
    refine ZAd ?_
    walk_at "rd"
    have hxn : ∀ z : Nat × Nat, plv (some z) ≠ .non := fun z h => by cases h
    cases x with
    | none =>
      rw [if_pos (show plv none = V.non from rfl)]
      refine ⟨ZAV (by decide), fun k3 hk3 => ?_⟩
      obtain ⟨Y2, eY2, sY2, hY2⟩ := newH hk3 (.tup [.int (m.1 : Int), .int (m.2.2 : Int)])
      rw [eY2]; clear eY2
      refine ⟨wd, _, rfl, DPut.t (k := kQ m.1 m.2.2) (sY2 _ _ W1.hd) hY2 (ZAw (by have := W1.len; omega)), ?_⟩
      have W2 := (W1.mono sY2).put (v := y) (k := 0) hmm.2.2 (.inr (by unfold Po.put; rw [if_pos ⟨rfl, rfl⟩]; rfl))
      rw [put_put, yCA] at W2
      exact ⟨_, _, _, _, _, at', _, _, rfl, hat, by rw [ee]; exact htri, hlfn _, hdn _, W2, f1.trans (sY2.fr.trans (Fr.upd yAI))⟩
    | some x =>
      rw [if_neg (hxn x)]
      cases y with
      | none =>
        rw [if_neg (by simp [plv])]
        exact ⟨_, _, _, _, _, at', _, _, rfl, hat, by rw [ee]; exact htri, hlfn _, hdn _, W1, f1⟩
      | some y =>
        rw [if_pos (by simp [hxn y])]
        have hed : e.drop at' = (x.1, y.1, b) :: e' := ee
        have hlt : at' < e.length := by
          have := congrArg List.length hed
          rw [yBH, yAR] at this
          omega
        rw [yCJ hlt] at hed
        injection hed with hed1 hed2
        have hea : e[at']? = some (x.1, y.1, b) := by rw [yAC hlt, hed1]
        obtain ⟨tt, ha1, ha2⟩ := hT.get at' (max x.1 y.1) (min x.1 y.1) (mxo bb (x.1, y.1, b)).2.2 (by rw [yAG, hea]; rfl)
        have halY := f1 _ _ (tw _ _ hal fun _ z => by cases z) hal
        have httY := f1 _ _ (tw _ _ ha2 fun _ z => by cases z) ha2
        have hal2 := hT.len
        rw [yAA] at hal2
        refine ⟨al, avs, rfl, .inl (SqL.of halY), ?_⟩
        rw [if_neg (by omega)]
        refine ZAz (SqL.of halY) (ZAb (v := .ref tt) (by omega) (by rw [Int.toNat_natCast]; exact ha1)) ⟨tt, _, rfl, SqT.of httY, (show ¬ (HT.sIx 3 0 none = 0 /\ HT.sIx 3 3 (some 2) = 3) by decide), fun c1 hc1 => ?_⟩
        rw [show ∀ p q r : V, cutV [p, q, r] none (some 2) = [p, q] from fun _ _ _ => rfl]
        obtain ⟨Y2, eY2, sY2, hY2⟩ := newH hc1 (.tup [.int ((max x.1 y.1 : Nat) : Int), .int ((min x.1 y.1 : Nat) : Int)])
        rw [eY2]; clear eY2
        refine ⟨_, _, rfl, _, _, rfl, ZAV (by decide), fun c2 hc2 => ?_⟩
        rw [ZE2, mn_eq, show max (x.1 : Int) y.1 = ((max x.1 y.1 : Nat) : Int) by omega, show min (x.1 : Int) y.1 = ((min x.1 y.1 : Nat) : Int) by omega]
        obtain ⟨Y3, eY3, sY3, hY3⟩ := newH hc2 (.tup [.int ((max x.1 y.1 : Nat) : Int), .int ((min x.1 y.1 : Nat) : Int)])
        rw [eY3]; clear eY3
        refine neD_refl (d := .tuple [.int ((max x.1 y.1 : Nat) : Int), .int ((min x.1 y.1 : Nat) : Int)]) (dp_tup (SqT.of (sY3 _ _ hY2)) (.two (ZD8 _) (ZD8 _))) (dp_tup (SqT.of hY3) (.two (ZD8 _) (ZD8 _))) (by unfold PyData.canLay0 PyData.canLayAll0 PyData.canLayAll0 PyData.canLayAll0 PyData.canLay0; rfl) (by unfold PyData.depth PyData.depthAll PyData.depthAll PyData.depthAll PyData.depth; decide) ⟨_, rfl, ?_⟩
        rw [if_neg (by decide)]
        have sY := sY2.trans sY3
        refine ZAz (SqL.of (sY _ _ halY)) (ZAb (v := .ref tt) (by omega) (by rw [Int.toNat_natCast]; exact ha1)) (ZBK (SqT.of (sY _ _ httY)) (ZAb (by decide) rfl) ?_)
        refine ⟨_, _, rfl, rfl, ?_⟩
        walk_at "rd"
        replace W1 := W1.mono sY
        replace f1 := f1.trans sY.fr
        have hb : (decide (((mxo bb (x.1, y.1, b)).2.2 = decide ((x.1 : Int) < y.1))) = bb) ↔ b = true := by
          unfold mxo
          dsimp only
          by_cases z : y.1 < x.1
          . rw [if_pos z, decide_eq_false (p := (x.1 : Int) < y.1) (by omega)]
            cases b <;> cases bb <;> simp
          . rw [if_neg z]
            by_cases z2 : x.1 < y.1
            . rw [decide_eq_true (p := (x.1 : Int) < y.1) (by omega)]
              cases b <;> cases bb <;> simp
            . exact absurd (show x.1 = y.1 by omega) (hne _ (yAM hea))
        have eat : ((at' : Int) + 1) = ((at' + 1 : Nat) : Int) := by omega
        rw [eat]
        cases b with
        | true =>
          rw [if_neg (fun z => z (hb.mpr rfl))]
          exact ⟨_, _, _, _, _, at' + 1, _, _, rfl, hlt, by rw [hed2]; exact htri, hlfn _, hdn _, W1, f1⟩
        | false =>
          rw [if_pos (fun z => by cases hb.mp z)]
          refine ⟨ZAV (by decide), fun k4 hk4 => ?_⟩
          obtain ⟨Y4, eY4, sY4, hY4⟩ := newH hk4 (.tup [.int (m.1 : Int), .int (m.2.2 : Int)])
          rw [eY4]; clear eY4
          refine ⟨wd, _, rfl, DPut.t (k := kQ m.1 m.2.2) (sY4 _ _ W1.hd) hY4 (ZAw (by have := W1.len; omega)), ?_⟩
          have W2 := (W1.mono sY4).put (v := some y) (k := 0) hmm.2.2 (.inr (by unfold Po.put; rw [if_pos ⟨rfl, rfl⟩]; rfl))
          rw [put_put, yCA] at W2
          exact ⟨_, _, _, _, _, at' + 1, _, _, rfl, hlt, by rw [hed2]; exact htri, hlfn _, hdn _, W2, f1.trans (sY4.fr.trans (Fr.upd yAI))⟩
  rintro σ X ⟨v6, v7, v8, v9, v10, at', wi, kvi, rfl, hat, htri, hlfi, hdom, Wi, fX⟩
  rw [hM.len, List.drop_of_length_le (yAB _)] at htri
  rw [hM.len] at Wi
  obtain ⟨he, rfl⟩ := htri
  walk_at "rd"
  have hel : e.length <= at' := by
    have := congrArg List.length he
    rw [yBH, yCH] at this
    omega
  have hal2 := hT.len
  rw [yAA] at hal2
  refine ⟨al, avs, rfl, .inl (SqL.of (fX _ _ (tw _ _ hal fun _ z => by cases z) hal)), ?_⟩
  rw [decide_eq_true (by omega)]
  exact q X kvi fX Wi
theorem ok_walked {f : Addr} {fd : FuncData} (F : Fun K "_law_walked" "_law_walked" ZB2 f fd) (T : Bt K mg C_Pour C_LastPour C_Asker C_AskedRule)
    (f_held : Fn P w K mg base CX0 "_law_held" 2 ["_law_asks", "_law_spans_here", "_law_won", "_law_rest", "_law_last"] (ZDk))
    (f_from : Fn P w K mg base CX0 "_law_from" 1 ["_law_won", "_law_rest", "_law_low", "_law_high", "_law_last"] (ZDz))
    (t_Pour_first : Mt P w K mg base CX0 C_Pour "first" 2 ["self"] (ZBk false C_Pour))
    (t_LastPour_first : Mt P w K mg base CX0 C_LastPour "first" 2 ["self"] (ZBk true C_LastPour))
    (t_Pour_left : Mt P w K mg base CX0 C_Pour "left" 1 ["self"] (ZCd false C_Pour))
    (t_LastPour_left : Mt P w K mg base CX0 C_LastPour "left" 1 ["self"] (ZCd true C_LastPour))
    (t_Pour_take : Mt P w K mg base CX0 C_Pour "take" 7 ["self"] (ZCc C_Asker C_AskedRule false C_Pour))
    (t_LastPour_take : Mt P w K mg base CX0 C_LastPour "take" 7 ["self"] (ZCc C_Asker C_AskedRule true C_LastPour))
    : FnOk P w K mg base CX0 8 f fd ["_law_pour", "_law_log", "_law_spans_here", "_law_rest", "_law_last"] (ZDG C_Asker C_AskedRule C_LastPour C_Pour) := by
  refine F.ok sc_walked (fun vs H Q E h => ?_) (fun cdv A outer s H vs Q E hr h => ?_)
  . obtain ⟨bb, ks, xs, a, rl, ru, tl, g, lg, bl, p, pl, tk, ml, wd, pls, pcs, w0, wn, kvs, rs, sp, rls, svs, l, rfl, st, pa, px, ax, R, hsp, hM, hR, hlf, hnn, htr, hfin, hl60, hk200, hp40, hpc, hdj, hsum, q⟩ := h
    rfl
  obtain ⟨bb, ks, xs, a, rl, ru, tl, g, lg, bl, p, pl, tk, ml, wd, pls, pcs, w0, wn, kvs, rs, sp, rls, svs, l, rfl, st, pa, px, ax, R, hsp, hM, hR, hlf, hnn, htr, hfin, hl60, hk200, hp40, hpc, hdj, hsum, q⟩ := h
  refine ⟨_, (ZAB (ZAN (i := 5) sc_walked.nd rfl (by walk_at "o") pe_dnewT)
    (ZAU
   (ZAB (ZA4 (ZEQ (ZCr (ZAu f_held (hr.mono (by decide)) rfl ZAZ (ZAA (pv 1) (ZAA (pv 2) (ZAA (pv 5) (ZAA (pv 3) (ZAA (pv 4) ZAD))))))))
   (ZAH (ZAW ZEf)) ZAX)
    (ZAU
   (ZAB (ZCD PassesOwn.never rfl (ZBR rfl T.b_range (ZAA (ZAK (ZDV rfl) rfl T.b_sum PyProof.Rows.boot_sum (ZAA (ZBL rfl (k := 1) (js := []) (N' := ["_law_piece"]) (by rfl) (ZAs (pv 3)) (fun _ _ _ _ => ZAY (i := 0) (show (["_law_piece"] : List Str).Nodup by decide +kernel) rfl (by walk_at "o")) (fun _ _ _ _ => ZAy) (fun _ _ _ _ => (ZAK (call_len_seqK K) rfl T.b_len PySem.boot_len (ZAA (pv 0) ZAD)))) ZAD)) ZAD)) (ZAY (i := 6) sc_walked.nd rfl (by walk_at "o"))
   (ZAB (ZAN (i := 7) sc_walked.nd rfl (by walk_at "o") (ZAu f_from (hr.mono (by decide)) rfl ZAZ (ZAA (pv 5) (ZAA (pv 3) (ZAA ZAF (ZAA (ZAK ZAJ rfl T.b_len PySem.boot_len (ZAA (pv 3) ZAD)) (ZAA (pv 4) ZAD)))))))
      (ZAU
   (ZAB (ZAN (i := 8) sc_walked.nd rfl (by walk_at "o") (ZAK ZAJ rfl T.b_len PySem.boot_len (ZAA (pv 1) ZAD)))
      (ZAU
   (ZAB (ZA4 (PW.pt (ZEP (ZAP ZEg (ZCQ (ZCE t_Pour_first (hr.mono (by decide)) ZAZ (pv 0)) (ZCE t_LastPour_first (hr.mono (by decide)) ZAZ (pv 0))) (pv 7) (ZAS _)) (ZEP (ZAP ZEg (ZAK ZAJ rfl T.b_len PySem.boot_len (ZAA (pv 1) ZAD)) (pv 8) (ZAS _)) (ZD3 (ZAP ZEg (ZCQ (ZCE t_Pour_take (hr.mono (by decide)) ZAZ (pv 0)) (ZCE t_LastPour_take (hr.mono (by decide)) ZAZ (pv 0))) (pv 7) (ZAS _))))))
   (ZAH (ZAW ZEf)) ZAX)
      (ZAU
   (ZAB (ZAN (i := 9) sc_walked.nd rfl (by walk_at "o") (ZAt ZAi (ZBL rfl (k := 1) (js := [7, 3]) (N' := ["_law_k", "_law_top", "_law_rest"]) (by rfl) (ZBR rfl T.b_range (ZAA (ZAK ZAJ rfl T.b_len PySem.boot_len (ZAA (pv 3) ZAD)) ZAD)) (fun _ _ _ _ => ZAY (i := 0) (show (["_law_k", "_law_top", "_law_rest"] : List Str).Nodup by decide +kernel) rfl (by walk_at "o")) (fun _ _ _ _ => (ZDL (ZAP (op_in_seqK K) (pv 1) (ZAt (ix_listK K) (pv 2) (pv 0) (fun _ _ => rfl)) rfl))) (fun _ _ _ _ => (pv 0))) ZAF (fun _ _ => rfl)))
      (ZAU
   (ZAB (ZBx (ZDN PySem.F.plainAttrs_list PySem.F.slot_list_remove PySem.F.type_list_remove mt_remove (ZAt ZAi (pv 3) (pv 9) (fun _ _ => rfl)) (ZAA (pv 7) ZAD)))
      (ZAU
   (ZAB (ZBe (i := 10) sc_walked.nd rfl (Or.inl rfl) rfl (k := 1) (js := [9]) (N' := ["_law_span", "_law_number"]) (by rfl) (ZAs (pv 2)) (fun _ _ _ _ => ZAY (i := 0) (show (["_law_span", "_law_number"] : List Str).Nodup by decide +kernel) rfl (by walk_at "o")) (fun _ _ _ _ => (ZDL (PW.pt (ZDX (ZAP op_le (ZAt (ZCx K) (pv 0) ZAF (fun _ _ => rfl)) (pv 1) (ZAS _)) (ZDK (ZAP ZC2 (pv 1) (ZAt (ZCx K) (pv 0) ZAF (fun _ _ => rfl)) (ZAS _))))))) (fun _ _ _ _ => (pv 0)))
      (ZAU
   (ZAH (ZA4 (ZEQ (ZCr (ZAu f_held (hr.mono (by decide)) rfl ZAZ (ZAA (ZCP ZDI (pv 1) (ZCG (pv 8)) ZDl) (ZAA (pv 10) (ZAA (pv 5) (ZAA (pv 3) (ZAA (pv 4) ZAD))))))))
   (ZAH (ZAW ZEf)) ZAX)))))))))))))))
    (ZAU
   (ZAH (ZAW (pe_and (ZBY ZCs (ZCQ (ZCE t_Pour_first (hr.mono (by decide)) ZAZ (pv 0)) (ZCE t_LastPour_first (hr.mono (by decide)) ZAZ (pv 0))) ZBU (ZAS _)) (pe_one (ZBY ZBh (ZCQ (ZCE t_Pour_left (hr.mono (by decide)) ZAZ (pv 0)) (ZCE t_LastPour_left (hr.mono (by decide)) ZAZ (pv 0))) ZAF (ZAS _)))))))))))), ?_⟩
  walk_at "rd"
  intro wo hwo0
  obtain ⟨H1, e1, s1, h1⟩ := newH hwo0 (.dT [])
  rw [e1]; clear e1
  walk_at "rd"
  refine ZAd ?_
  walk_at "rd"
  have hmsA : ∀ m ∈ Po.mts 0 pcs.length, m.2.1 = Po.mid m.1 m.2.2 /\ m.2.2 <= pcs.length /\ ¬ m.2.2 - m.1 < 2 := fun m hm => by
    have := Po.mts_mem (a := m.1) (m := m.2.1) (c := m.2.2) _ _ hm
    exact ⟨this.1, this.2.2.1, this.2.2.2⟩
  have hml := Po.mts_len 0 pcs.length
  obtain ⟨ws, hlg, hws⟩ := st.hlg
  have wof : ∀ b o, H b = some o -> b ≠ wo := fun b o h => ZAE h hwo0
  refine ⟨bb, lg, sp, wo, rs, ws, svs, rls, pcs, _, _, wn, w0, l, 0, 1, [], rfl, s1 _ _ hlg, hws.keep (fun _ _ z => s1 _ _ z), s1 _ _ hsp, hM.keep (fun _ _ z => s1 _ _ z), ⟨h1, yAB _, fun a c v hn hv => by rw [hnn a c hn] at hv; cases hv⟩, R.mono s1, hlf, htr, fun c hc => (hfin c hc).1, hmsA, by omega, by omega, by decide, .inl rfl, fun H2 kvo f2 W2 => ?_⟩
  walk_at "rd"
  refine ZAd ?_
  walk_at "rd"
  have S12 : ∀ b o, H b = some o -> H2 b = some o := fun b o h => f2 b o (fun z => wof b o h (yAK.mp z)) (s1 _ _ h)
  have K0 : Wk bb C_Asker C_AskedRule (cond bb C_LastPour C_Pour) H H2 ks xs a rl ru tl g lg bl p pl tk ml wd wo rs sp pls rls pcs (l.map (mxo bb)) (List.replicate pcs.length 0) w0 kvs kvo (0 + 1 * (Po.mts 0 pcs.length).length) 0 := {
    st := st.mono S12
    few := by rw [yAA]; omega
    pa := pa.mono S12
    rr := hR
    rst := R.mono S12
    wdl := W2
    sum := rep_sum _
    low := fun i t zs h _ => by rw [yCM] at h; split at h; cases h; exact yAF _; cases h
    ne := wof wd _ pa.hwd.hd
    spn := ⟨svs, S12 _ _ hsp, hM.keep fun _ _ z => S12 _ _ z⟩ }
  rw [yCK, Nat.one_mul, hml] at K0
  clear f2 W2 htr hlf hnn hfin hl60 st pa R hR s1 h1 hlg hws
  refine ZA5 (SqL.of K0.rst.h) (by rw [yAA, K0.rst.len]; omega) (fun i ys σ H' => ∃ v, σ = [v] /\ H' = H2 /\ ys = ((pcs.take i).map fun xs => ((xs.length : Nat) : Int)).map V.int) ⟨_, rfl, rfl, rfl⟩ (fun i ys σ H' _ ⟨_, _, e, e2⟩ => ⟨by rw [e]; exact SqL.of K0.rst.h, by rw [e2, yAA, yAA, yAT]; omega⟩) ?_ ?_
  . rintro i ys x σ H' hi hx ⟨v, rfl, rfl, rfl⟩
    rw [yAA, K0.rst.len] at hi
    obtain ⟨l', zs, t, a1, a2, a3, a4, _⟩ := K0.rst.at hi
    rw [yCM, if_pos hi] at a3
    cases a3
    rw [yAG, a1] at hx
    cases hx
    walk_at "rd"
    refine ⟨l', _, rfl, .inl (SqL.of a4), ?_⟩
    refine Nxt.of (by rw [yAA, K0.rst.len]; exact hi) ⟨_, rfl, rfl, ?_⟩
    rw [yCB, a2, yAQ, yAQ]
    show _ = _ ++ [V.int ((zs.length : Nat) : Int)]
    rw [yAA, ZD1, List.drop_zero]
  rintro ys σ H' ⟨v, rfl, rfl, rfl⟩ sl hsl
  rw [yAA, K0.rst.len, yBI (yAB _)]
  obtain ⟨H3, e3, s3, h3⟩ := newH hsl (.lst ((pcs.map fun xs => ((xs.length : Nat) : Int)).map V.int))
  rw [e3]; clear e3
  refine ⟨sl, _, rfl, SqL.of h3, ⟨by rw [yAA]; omega, fun x hx => by
    obtain ⟨zs, h2, rfl⟩ := yBF.mp hx
    have := (hpc zs h2).2.2
    omega⟩, ?_⟩
  rw [show (pcs.map fun xs => ((xs.length : Nat) : Int)) = (pcs.map List.length).map fun (n : Nat) => (n : Int) by rw [List.map_map]; rfl, ZDj]
  have K1 := K0.mono s3
  clear K0 h3 s3 hsl
  refine ZCi (by omega) (ZDR (fun k σ X => ∃ v6 v7 v8 v9 v10 wd' pr ts w kvs kvo, σ = [some (.ref p), some (.ref lg), some (.ref sp), some (.ref rs), some (.bl bb), some (.ref wo), v6, v7, v8, v9, v10] /\ Wk bb C_Asker C_AskedRule (cond bb C_LastPour C_Pour) H X ks xs a rl ru tl g lg bl p pl tk ml wd' wo rs sp pls rls pcs pr ts w kvs kvo (pcs.length - 0 - 1) k) ⟨_, _, _, _, _, wd, _, _, w0, kvs, kvo, rfl, K1⟩ ?_ ?_)
  clear K1
  . rintro k σ X hk ⟨v6, v7, v8, v9, v10, wd', pr, ts, w, kvs', kvo', rfl, W⟩
    have hk' : k < (pcs.map List.length).sum := by omega
    have hkl : k < 119 := by omega
    have hts := ZED ts pcs W.rst.tl W.low
    obtain ⟨i0, t0, zs0, b1, b2, b3⟩ := hts.2.mp (by rw [W.sum]; exact hk')
    have hz : 0 < pcs.length := by have := (yAJ.mp b2).1; omega
    obtain ⟨v, hw0, hv1, hv2⟩ := Po.RR.top _ _ hz (W.rr hz)
    obtain ⟨x, i, hwx, hi, hfi⟩ : ∃ x i, w 0 pcs.length = some (some (x, i)) /\ i < pcs.length /\ frs pcs ts i = some (x, i) := by
      cases v with
      | none =>
        have := hv2 rfl i0 (yAF _) (yAJ.mp b2).1
        rw [ZD6 b2 b1] at this
        unfold ZBa at this
        rw [yAC b3] at this
        cases this
      | some z =>
        obtain ⟨i, _, h1, h2⟩ := hv1 z rfl
        obtain ⟨_, _, _, e⟩ := ZDP h2
        obtain ⟨x, i'⟩ := z
        cases e
        exact ⟨x, i', hw0, h1, h2⟩
    clear v hw0 hv1 hv2 hts b1 b2 b3 i0 t0 zs0
    obtain ⟨l', zs, t, a1, a2, a3, a4, ef⟩ := W.rst.at hi
    have hzt : t < zs.length := by
      rw [hfi] at ef
      unfold ZBa at ef
      rcases Nat.lt_or_ge t zs.length with z | z
      . exact z
      . rw [yBE z] at ef; cases ef
    have hxz : zs[t] = x := by
      rw [hfi] at ef
      unfold ZBa at ef
      rw [yAC hzt] at ef
      injection ef with ef
      injection ef with ef
      exact ef.symm
    clear ef
    have hlv : ∀ j, j < pcs.length -> w j (j + 1) = some (frs pcs ts j) := fun j hj => (W.rr hz).lf j (yAF _) hj
    walk_at "rd"
    refine ⟨rs, _, rfl, .inl (SqL.of W.rst.h), ?_⟩
    rw [yAA, W.rst.len]
    refine ⟨bb, wo, rs, rls, pcs, ts, w, _, kvo', 0, pcs.length, some (x, i), rfl, W.wdl, W.rst, hz, yAB _, hlv, hwx, fun X1 s1 => ?_⟩
    replace W := W.mono s1
    obtain ⟨ws, hlg, hws⟩ := W.st.hlg
    refine ZAd ?_
    walk_at "rd"
    refine ⟨lg, ws, rfl, .inl (SqL.of hlg), ?_⟩
    rw [hws.len]
    refine ZAd ?_
    walk_at "rd"
    have eF : ∀ X, PourAt bb (cond bb C_LastPour C_Pour) X p a pl tk ml wd' pls pcs ts w kvs' -> ∀ R : VK, (∀ X', Same X X' -> R (.int (x : Int)) X') -> ((∃ a dx fs, V.ref p = V.ref a /\ X a = some (HO.ins C_Pour dx fs) /\ List.lookup (Str.ofString "first") fs = none /\ ZBk false C_Pour [V.ref p] X R E0) ∨ (∃ a dx fs, V.ref p = V.ref a /\ X a = some (HO.ins C_LastPour dx fs) /\ List.lookup (Str.ofString "first") fs = none /\ ZBk true C_LastPour [V.ref p] X R E0)) := fun X paX R h => by
      cases bb
      . exact .inl (paX.pb.hp.meth (by walk_at "lk") ⟨p, a, pl, tk, ml, wd', pls, pcs, w, _, kvs', some (x, i), rfl, paX.pb, paX.hwd, .inl hwx, h⟩)
      . exact .inr (paX.pb.hp.meth (by walk_at "lk") ⟨p, a, pl, tk, ml, wd', pls, pcs, w, _, kvs', some (x, i), rfl, paX.pb, paX.hwd, .inl hwx, h⟩)
    refine eF X1 W.pa _ fun X2 s2 => ?_
    replace W := W.mono s2
    have hx0 : plv (some (x, i)) = .int (x : Int) := rfl
    rw [hx0]
    walk_at "rd"
    obtain ⟨ws2, hlg2, hws2⟩ := W.st.hlg
    refine ⟨lg, ws2, rfl, .inl (SqL.of hlg2), ?_⟩
    rw [hws2.len, if_neg (fun z => z rfl)]
    clear hlg hws ws
    have hpcs : ∀ ys ∈ pcs, ∀ y ∈ ys, y < ks.length := fun ys h => (hpc ys h).2.1
    obtain ⟨fr', efr⟩ : ∃ fr', fr' = frs pcs (ts.set i (t + 1)) := ⟨_, rfl⟩
    have eT : ∀ R : VK, (∀ wd2 w2 l2 Y kv2, X2 wd2 = none -> Po.RR (frs pcs (ts.set i (t + 1))) w2 0 pcs.length -> l2.length <= 40 -> Po.FineA ks.length l2 -> Po.Tr ((Po.mts 0 pcs.length).filter (Po.onWay i)) (Po.put w i (i + 1) (frs pcs (ts.set i (t + 1)) i)) l2 w2 -> Fr [p, tk, a, lg, tl] X2 Y -> PourAt bb (cond bb C_LastPour C_Pour) Y p a pl tk ml wd2 pls pcs (ts.set i (t + 1)) w2 kv2 -> SitO C_Asker C_AskedRule Y ks xs a rl ru tl g lg bl (pr ++ l2.map (mxo bb)) -> R (.int (x : Int)) Y) -> ((∃ a dx fs, V.ref p = V.ref a /\ X2 a = some (HO.ins C_Pour dx fs) /\ List.lookup (Str.ofString "take") fs = none /\ ZCc C_Asker C_AskedRule false C_Pour [V.ref p] X2 R E0) ∨ (∃ a dx fs, V.ref p = V.ref a /\ X2 a = some (HO.ins C_LastPour dx fs) /\ List.lookup (Str.ofString "take") fs = none /\ ZCc C_Asker C_AskedRule true C_LastPour [V.ref p] X2 R E0)) := fun R h => by
      have core : ∀ CP, cond bb C_LastPour C_Pour = CP -> ZCc C_Asker C_AskedRule bb CP [V.ref p] X2 R E0 := fun CP eC => by
        subst eC
        refine ⟨ks, xs, a, rl, ru, tl, g, lg, bl, p, pl, tk, ml, wd', pr, pls, pcs, ts, w, kvs', fun x' i' w' l2 => i' = i -> (Po.RR (frs pcs (ts.set i (t + 1))) w' 0 pcs.length /\ l2.length <= ((Po.mts 0 pcs.length).filter (Po.onWay i)).length /\ Po.FineA ks.length l2) /\ ∃ e, l2 = [] ++ e /\ Po.Tr ((Po.mts 0 pcs.length).filter (Po.onWay i)) (Po.put w i (i + 1) (frs pcs (ts.set i (t + 1)) i)) e w', rfl, W.st, W.pa, px, by omega, W.rr, fun x' i' t' _ hw' hi' ht' => ?_, by omega, by have := W.few; omega, ?_, ?_⟩
        . rw [hwx] at hw'
          cases hw'
          rw [a3] at ht'
          cases ht'
          exact (Po.safe_take (n := ks.length) (fr := frs pcs ts) (fr' := frs pcs (ts.set i (t + 1))) hi (W.rr hz) (fun j hj => frs_set hj) (ZDQ hpcs hdj)).tr.mono fun w' l2 z _ => z
        . rintro (z | z)
          . omega
          . rw [hwx] at z; cases z
        . intro x' i' t' _ hw' hi' ht' _ wd2 w2 l2 Y kv2 hn hG fY paY stY
          rw [hwx] at hw'
          cases hw'
          rw [a3] at ht'
          cases ht'
          obtain ⟨⟨g1, g2, g3⟩, e, g4, g5⟩ := hG rfl
          rw [yBP] at g4
          subst g4
          exact h wd2 w2 l2 Y kv2 hn g1 (yAE g2 (yAE (yCC _ _) (by rw [Po.mts_len]; omega))) g3 g5 fY paY stY
      cases bb
      . exact .inl (W.pa.pb.hp.meth (by walk_at "lk") (core _ rfl))
      . exact .inr (W.pa.pb.hp.meth (by walk_at "lk") (core _ rfl))
    refine eT _ fun wd2 w2 l2 Y kv2 hn2 gR gl gf gtr fY paY stY => ?_
    clear eT eF fr' efr
    walk_at "rd"
    have n5 : ∀ b, b ∈ rls -> b ∉ [p, tk, a, lg, tl] := fun b hb => (ax.ls b hb).1
    have rstY := W.rst.fr fY ax.nrs n5
    have tup5 : ∀ b z, X2 b = some (.tup z) -> b ∉ [p, tk, a, lg, tl] := fun b z hb hm => by
      rcases yAH.mp hm with m | m
      . obtain ⟨_, _, e1, _⟩ := W.pa.pb.hp.ex
        rw [m, e1] at hb; cases hb
      rcases yAH.mp m with m | m
      . rw [m, W.pa.htk] at hb; cases hb
      . exact W.st.tupS hb (fun _ z => by cases z) (fun _ _ _ z => by cases z) m
    have nwo : wo ∉ [p, tk, a, lg, tl] := fun hm => by
      have hwo := W.wdl.hd
      rcases yAH.mp hm with m | m
      . obtain ⟨_, _, e1, _⟩ := W.pa.pb.hp.ex
        rw [m, e1] at hwo; cases hwo
      rcases yAH.mp m with m | m
      . rw [m, W.pa.htk] at hwo; cases hwo
      rcases yAH.mp m with m | m
      . obtain ⟨_, _, e1, _⟩ := W.st.ha.ex
        rw [m, e1] at hwo; cases hwo
      rcases yAH.mp m with m | m
      . rw [m, hlg2] at hwo; cases hwo
      . obtain ⟨_, e1, _⟩ := W.st.htl
        rw [yAK.mp m, e1] at hwo; cases hwo
    have wdlY := W.wdl.fr fY nwo
    have newo : wd2 ≠ wo := Ne.symm (ZAE W.wdl.hd hn2)
    obtain ⟨svs2, hsp2, hM2⟩ := W.spn
    have hspY := fY _ _ ax.nsp hsp2
    have hMY : SpAt Y svs2 (Po.mts 0 pcs.length) := hM2.keep fun b z hb => fY _ _ (tup5 _ _ hb) hb
    have few := W.few
    have Wsum := W.sum
    have Wlow := W.low
    have Wrr := W.rr hz
    clear W hlg2 hws2 nwo n5 tup5 fY s1 s2
    rw [if_neg (fun z => z trivial)]
    refine ZAd ?_
    walk_at "rd"
    refine ⟨rs, _, rfl, .inl (SqL.of rstY.h), ?_⟩
    rw [yAA, rstY.len]
    refine ZCz (by omega) (fun j ys σ X => ∃ v, σ = [v, some (.int (x : Int)), some (.ref rs)] /\ X = Y /\ ys = nL ((List.range j).filter fun q => decide (q = i))) ⟨_, rfl, rfl, rfl⟩ (fun j ys σ X ⟨_, _, _, e⟩ => by rw [e, yAA]; exact yAE (yCC _ _) (by rw [List.length_range]; exact yAB _)) ?_ ?_
    . rintro j ys σ X hj ⟨v, rfl, rfl, rfl⟩
      have hj' : j < pcs.length := by omega
      obtain ⟨lj, zj, tj, c1, c2, c3, c4, _⟩ := rstY.at hj'
      walk_at "rd"
      rw [show (0 + (j : Int)) = (j : Int) by omega]
      refine ZAz (SqL.of rstY.h) (ZAb (v := .ref lj) (by omega) (by rw [Int.toNat_natCast, yAG, c1]; rfl)) ?_
      have hin : (x ∈ rv bb (zj.drop tj)) ↔ j = i := by
        rw [rv_mem]
        constructor
        . intro h
          rcases Classical.em (j = i) with z | z
          . exact z
          . exact absurd (List.mem_of_mem_drop h) (hdj i j zs zj x (Ne.symm z) a2 c2 (by rw [<- hxz]; exact yCT hzt))
        . intro e
          subst e
          rw [a2] at c2
          cases c2
          rw [a3] at c3
          cases c3
          rw [yCJ hzt, hxz]
          exact yAI
      have erg : (List.range (j + 1)).filter (fun q => decide (q = i)) = (List.range j).filter (fun q => decide (q = i)) ++ if j = i then [j] else [] := by
        rw [List.range_succ, yBO]
        by_cases z : j = i
        . rw [if_pos z, yBT (by simpa using z)]; rfl
        . rw [if_neg z, yBK (by simpa using z)]; rfl
      refine ⟨lj, nL (rv bb (zj.drop tj)), rfl, .inl (SqL.of c4), rfl, flat_nats _, ?_⟩
      rw [if_neg (by decide), show inV (.int (x : Int)) (nL (rv bb (zj.drop tj))) = decide (x ∈ rv bb (zj.drop tj)) from inV_nats x _]
      refine ⟨_, rfl, ?_⟩
      by_cases e : j = i
      . rw [if_pos (decide_eq_true (hin.mpr e))]
        refine Nxt.of hj ⟨_, rfl, rfl, ?_⟩
        rw [erg, if_pos e]
        unfold nL
        rw [yAQ]; rfl
      . rw [if_neg (fun z => e (hin.mp (of_decide_eq_true z)))]
        refine Nxt.of hj ⟨_, rfl, rfl, ?_⟩
        rw [erg, if_neg e, yAZ]
    rintro ys σ X ⟨v, rfl, rfl, rfl⟩ nl hnl0
    rw [Int.toNat_natCast, rng_one hi]
    obtain ⟨Y1, e1, sY1, hY1⟩ := newH hnl0 (.lst (nL [i]))
    rw [e1]; clear e1
    refine ZAz (SqL.of hY1) (ZAb (by decide) rfl) ?_
    walk_at "rd"
    replace rstY := rstY.mono sY1
    replace hspY := sY1 _ _ hspY
    replace hMY := hMY.keep fun _ _ z => sY1 _ _ z
    replace wdlY := wdlY.mono sY1
    replace paY := paY.mono sY1
    replace stY := stY.mono sY1
    clear sY1 hY1 hnl0
    have a4Y := rstY.pc i l' zs t a1 a2 a3
    refine ZAd ?_
    walk_at "rd"
    obtain ⟨kk, r1, r2, r3⟩ := rm69 (bb := bb) hzt (hpc zs (yAM a2)).1
    rw [hxz] at r1 r2
    have a4Z := a4Y
    rw [ZDo] at a4Z
    have gm : ∀ m, ((rv bb (zs.drop t)).map fun (n : Nat) => (n : Int))[m]? = ((rv bb (zs.drop t))[m]?).map fun (n : Nat) => (n : Int) := fun m => yAG ..
    refine ZAz (SqL.of rstY.h) (ZAb (v := .ref l') (by omega) (by rw [Int.toNat_natCast, yAG, a1]; rfl)) ?_
    refine ⟨.inl ⟨rfl, _, SqL.of a4Y⟩, l', _, (x : Int), kk, rfl, rfl, a4Z, by rw [gm, r1]; rfl, fun m hm hmm => ?_, ?_⟩
    . rw [gm] at hmm
      obtain ⟨y, hy1, hy2⟩ := yBU.mp hmm
      exact r2 m hm (by rw [hy1]; congr 1; omega)
    rw [ZBi, <- ZBi, show (((rv bb (zs.drop t)).map fun (n : Nat) => (n : Int)).eraseIdx kk).map V.int = nL (rv bb (zs.drop (t + 1))) by rw [<- r3, <- ZBi, <- ZDo]]
    have hl'm : l' ∈ rls := yAM a1
    have al := ax.ls l' hl'm
    have fZ : Fr [l'] Y1 (upd Y1 l' (.lst (nL (rv bb (zs.drop (t + 1)))))) := Fr.upd yAI
    have hZl : upd Y1 l' (.lst (nL (rv bb (zs.drop (t + 1))))) l' = some (.lst (nL (rv bb (zs.drop (t + 1))))) := ZAG
    generalize upd Y1 l' (.lst (nL (rv bb (zs.drop (t + 1))))) = Z at fZ hZl ⊢
    have n1 : ∀ b, b ≠ l' -> b ∉ [l'] := fun b h z => h (yAK.mp z)
    have ls1 : ∀ b ∈ [l'], ∃ l, Y1 b = some (.lst l) := fun b hb => by rw [yAK.mp hb]; exact ⟨_, a4Y⟩
    have am : ∀ b, b ∈ [p, tk, a, lg, tl] -> b ≠ l' := fun b hb e => al.1 (by rw [<- e]; exact hb)
    have am2 : ∀ b, b ∈ [rs, sp, pl, ml, rl, bl] -> b ≠ l' := fun b hb e => al.2.1 (by rw [<- e]; exact hb)
    have stZ := stY.apartP fZ ls1 ⟨n1 _ (am2 _ (by simp)), n1 _ (am _ (by simp)), n1 _ (am _ (by simp)), n1 _ (am2 _ (by simp))⟩
    have paZ := paY.fr fZ ls1 ⟨n1 _ (am2 _ (by simp)), n1 _ (am _ (by simp)), n1 _ (am2 _ (by simp)), fun l hl => n1 l (fun e => al.2.2 (by rw [<- e]; exact hl))⟩
    have wdlZ := wdlY.fr fZ (n1 _ (fun e => by have := wdlY.hd; rw [e, a4Y] at this; cases this))
    have hspZ := fZ _ _ (n1 _ (am2 _ (by simp))) hspY
    have hMZ : SpAt Z svs2 (Po.mts 0 pcs.length) := hMY.keep fun b z hb => fZ _ _ (n1 _ fun e => by rw [e, a4Y] at hb; cases hb) hb
    have rstZ : RS bb Z rs rls pcs (ts.set i (t + 1)) := ⟨fZ _ _ (n1 _ (am2 _ (by simp))) rstY.h, rstY.len, by rw [yCQ]; exact rstY.tl, fun j l zj tj c1 c2 c3 => by
      rw [yCY] at c3
      by_cases e : i = j
      . subst e
        rw [if_pos rfl, if_pos (by rw [rstY.tl]; exact hi)] at c3
        cases c3
        rw [a1] at c1
        cases c1
        rw [a2] at c2
        cases c2
        exact hZl
      . rw [if_neg e] at c3
        exact fZ _ _ (n1 _ fun el => by
          rw [el] at c1
          obtain ⟨q1, q2⟩ := yAJ.mp c1
          obtain ⟨q3, q4⟩ := yAJ.mp a1
          exact e ((List.getElem_inj ax.nd).mp (q4.trans q2.symm))) (rstY.pc j l zj tj c1 c2 c3)⟩
    clear rstY hspY hMY wdlY paY stY a4Y a4Z fZ ls1 gm r1 r2 r3
    refine ZAd ?_
    walk_at "rd"
    have hml' := hMZ.len
    rw [Po.mts_len] at hml'
    refine ZA5 (SqL.of hspZ) (by omega) (fun j ys σ X => ∃ v, σ = [v, some (.int (i : Int))] /\ X = Z /\ SpAt Z ys (((Po.mts 0 pcs.length).take j).filter (Po.onWay i))) ⟨_, rfl, rfl, SpAt.nil⟩ (fun j ys σ X _ ⟨_, _, e, hM⟩ => ⟨by rw [e]; exact SqL.of hspZ, by rw [hM.len]; exact yAE (yCC _ _) (by rw [yAT]; omega)⟩) ?_ ?_
    . rintro j ys u σ X hj hu ⟨v, rfl, rfl, hM⟩
      obtain ⟨m, hm⟩ : ∃ m, (Po.mts 0 pcs.length)[j]? = some m := ⟨_, yAC (by rw [Po.mts_len]; omega)⟩
      obtain ⟨tm, hm1, hm3⟩ := hMZ.get j m hm
      rw [hu] at hm1
      cases hm1
      have etk : (Po.mts 0 pcs.length).take (j + 1) = (Po.mts 0 pcs.length).take j ++ [m] := by rw [yCB, hm]; rfl
      walk_at "rd"
      refine ZBK (SqT.of hm3) (ZAb (by decide) rfl) ?_
      walk_at "rd"
      by_cases h1 : (m.1 : Int) <= i
      . rw [if_pos h1]
        refine ZBK (SqT.of hm3) (ZAb (by decide) rfl) ?_
        walk_at "rd"
        by_cases h2 : (i : Int) < m.2.2
        . rw [if_pos h2]
          refine Nxt.of hj ⟨_, rfl, rfl, ?_⟩
          rw [etk, yBO, yBT (by unfold Po.onWay; rw [decide_eq_true (by omega), decide_eq_true (by omega)]; rfl)]
          exact hM.app (SpAt.one hm3)
        . rw [if_neg h2]
          refine Nxt.of hj ⟨_, rfl, rfl, ?_⟩
          rw [etk, yBO, yBK (by unfold Po.onWay; rw [decide_eq_false (show ¬ i < m.2.2 by omega), Bool.and_false]; decide), yCX, yAZ]
          exact hM
      . rw [if_neg h1]
        refine Nxt.of hj ⟨_, rfl, rfl, ?_⟩
        rw [etk, yBO, yBK (by unfold Po.onWay; rw [decide_eq_false (show ¬ m.1 <= i by omega), Bool.false_and]; decide), yCX, yAZ]
        exact hM
    rintro ys σ X ⟨v, rfl, rfl, hMw⟩ wy hwy0
    rw [hMZ.len, yBI (yAB _)] at hMw
    obtain ⟨Z1, e1, sZ1, hZ1⟩ := newH hwy0 (.lst ys)
    rw [e1]; clear e1
    walk_at "rd"
    refine ZAd ?_
    walk_at "rd"
    obtain ⟨wsZ, hlgZ, hwsZ⟩ := stZ.hlg
    have hwl := hwsZ.len
    rw [yAD, yAA] at hwl
    refine ZD0 (SqL.of (sZ1 _ _ hlgZ)) fun al2 hal0 => ?_
    rw [cutV_from (by omega)]
    obtain ⟨Z2, e2, sZ2, hZ2⟩ := newH hal0 (.lst (wsZ.drop pr.length))
    rw [e2]; clear e2
    have S2 := sZ1.trans sZ2
    have efi : Po.put w i (i + 1) (frs pcs (ts.set i (t + 1)) i) i (i + 1) = some (frs pcs (ts.set i (t + 1)) i) := by unfold Po.put; rw [if_pos ⟨rfl, rfl⟩]
    refine ⟨bb, al2, wy, wo, rs, _, _, rls, pcs, ts.set i (t + 1), _, _, w2, l2, pcs.length - 0 - 1, 0, kvo', rfl, hZ2, (hwsZ.drop).keep (fun _ _ z => S2 _ _ z), sZ2 _ _ hZ1, hMw.keep (fun _ _ z => S2 _ _ z), (wdlZ.leaf).mono S2, rstZ.mono S2, fun j hj => ?_, gtr, fun c hc => (gf c hc).1, fun m hm => hmsA m (yBV.mp hm).1, by omega, yAE (yCC _ _) (by omega), by omega, .inr ⟨rfl, fun m hm => ?_⟩, fun Z3 kv3 f3 W3 => ?_⟩
    . by_cases e : j = i
      . subst e; exact efi
      . unfold Po.put
        rw [if_neg (by omega), hlv j hj, frs_set e]
    . obtain ⟨_, _, _, _, _, e⟩ := Wrr.nd m (yBV.mp hm).1
      unfold Po.put
      split
      . rfl
      . rw [e]; rfl
    rw [Nat.zero_mul, yCA] at W3
    walk_at "rd"
    have wd2Z := (wdlZ.mono S2).hd
    have nw : ∀ b o, Z2 b = some o -> (∀ k, o ≠ .dT k) -> b ∉ [wo] := fun b o h n z => by rw [yAK.mp z, wd2Z] at h; exact n _ (Option.some.inj h).symm
    have pa2 := paZ.mono S2
    have rst2 := rstZ.mono S2
    obtain ⟨mvs2, hml2, _⟩ := pa2.hml
    refine ⟨_, _, _, _, _, wd2, pr ++ l2.map (mxo bb), ts.set i (t + 1), w2, kv2, kv3, rfl, ?_⟩
    exact {
      st := (stZ.mono S2).but fun b o hb n => f3 b o (nw b o hb n) hb
      few := by rw [yAD, yAA]; omega
      pa := pa2.fr2 f3 ⟨(by obtain ⟨_, _, e1, _⟩ := pa2.pb.hp.ex; exact nw _ _ e1 fun _ z => by cases z), nw _ _ pa2.pb.hpl (fun _ z => by cases z), nw _ _ pa2.htk (fun _ z => by cases z), nw _ _ hml2 (fun _ z => by cases z), (fun z => newo (yAK.mp z)), fun l hl => by
        obtain ⟨j, hj, ej⟩ := yCP hl
        have hjp : j < pcs.length := by rw [<- pa2.pb.len]; exact hj
        exact nw _ _ (pa2.pb.pc j l pcs[j] (by rw [yAC hj, ej]) (yAC hjp)) (fun _ z => by cases z)⟩ fun b z hb => nw _ _ hb (fun _ z => by cases z)
      rr := fun _ => gR
      rst := rst2.fr f3 (nw _ _ rst2.h (fun _ z => by cases z)) fun l hl => by
        obtain ⟨j, hj, ej⟩ := yCP hl
        have hjp : j < pcs.length := by rw [<- rst2.len]; exact hj
        obtain ⟨lj, zj, tj, c1, _, _, c4, _⟩ := rst2.at hjp
        rw [yAC hj, ej] at c1
        cases c1
        exact nw _ _ c4 (fun _ z => by cases z)
      wdl := W3
      sum := by rw [sum_set1 a3, Wsum]
      low := fun j tj zj h1 h2 => by
        rw [yCY] at h1
        by_cases e : i = j
        . subst e
          rw [if_pos rfl, if_pos (by rw [rstZ.tl.symm.trans (by rw [yCQ])] at hi; exact hi)] at h1
          cases h1
          rw [a2] at h2
          cases h2
          exact hzt
        . rw [if_neg e] at h1
          exact Wlow j tj zj h1 h2
      ne := newo
      spn := ⟨svs2, f3 _ _ (nw _ _ (S2 _ _ hspZ) (fun _ z => by cases z)) (S2 _ _ hspZ), hMZ.keep fun b z hb => f3 _ _ (nw _ _ (S2 _ _ hb) (fun _ z => by cases z)) (S2 _ _ hb)⟩ }
  rintro σ X ⟨v6, v7, v8, v9, v10, wd', pr, ts, w, kvs', kvo', rfl, W⟩
  rw [Int.toNat_natCast] at W
  have hts := ZED ts pcs W.rst.tl W.low
  have hnone : ∀ i, frs pcs ts i = none := fun i => by
    rcases Nat.lt_or_ge i pcs.length with hi | hi
    . obtain ⟨l', zs, t, a1, a2, a3, _, ef⟩ := W.rst.at hi
      rw [ef]
      unfold ZBa
      rw [yBE]
      . rfl
      rcases Nat.lt_or_ge t zs.length with z | z
      . have := hts.2.mpr ⟨i, t, zs, a3, a2, z⟩
        rw [W.sum] at this
        omega
      . exact z
    . unfold frs ZBa
      rw [yBL, yBE hi]; rfl
  obtain htop : w 0 pcs.length = some none ∨ 2 * pcs.length - 1 = 0 /\ (none : Po.Fr) = none := by
    by_cases hz : 0 < pcs.length
    . obtain ⟨v, h1, h2, _⟩ := Po.RR.top _ _ hz (W.rr hz)
      cases v with
      | none => exact .inl h1
      | some z =>
        obtain ⟨i, _, _, h⟩ := h2 z rfl
        rw [hnone i] at h; cases h
    . exact .inr ⟨by omega, rfl⟩
  dsimp only
  refine ZAd ?_
  walk_at "rd"
  have eF : ∀ R : VK, (∀ X', Same X X' -> R .non X') -> ((∃ a dx fs, V.ref p = V.ref a /\ X a = some (HO.ins C_Pour dx fs) /\ List.lookup (Str.ofString "first") fs = none /\ ZBk false C_Pour [V.ref p] X R E0) ∨ (∃ a dx fs, V.ref p = V.ref a /\ X a = some (HO.ins C_LastPour dx fs) /\ List.lookup (Str.ofString "first") fs = none /\ ZBk true C_LastPour [V.ref p] X R E0)) := fun R h => by
    cases bb
    . exact .inl (W.pa.pb.hp.meth (by walk_at "lk") ⟨p, a, pl, tk, ml, wd', pls, pcs, w, _, kvs', none, rfl, W.pa.pb, W.pa.hwd, htop, h⟩)
    . exact .inr (W.pa.pb.hp.meth (by walk_at "lk") ⟨p, a, pl, tk, ml, wd', pls, pcs, w, _, kvs', none, rfl, W.pa.pb, W.pa.hwd, htop, h⟩)
  refine eF _ fun X1 s1 => ?_
  walk_at "rd"
  have W1 := W.mono s1
  have hb5 : ∀ t ∈ ts, t <= 500 := fun t ht => by
    obtain ⟨j, hj, ej⟩ := yCP ht
    have hjp : j < pcs.length := by rw [<- W.rst.tl]; exact hj
    have := W.low j t pcs[j] (by rw [yAC hj, ej]) (yAC hjp)
    have := (hpc pcs[j] (yCT hjp)).2.2
    omega
  have eL : ∀ R : VK, (∀ X', Same X1 X' -> R (.int 0) X') -> ((∃ a dx fs, V.ref p = V.ref a /\ X1 a = some (HO.ins C_Pour dx fs) /\ List.lookup (Str.ofString "left") fs = none /\ ZCd false C_Pour [V.ref p] X1 R E0) ∨ (∃ a dx fs, V.ref p = V.ref a /\ X1 a = some (HO.ins C_LastPour dx fs) /\ List.lookup (Str.ofString "left") fs = none /\ ZCd true C_LastPour [V.ref p] X1 R E0)) := fun R h => by
    have core : ∀ CP, cond bb C_LastPour C_Pour = CP -> ZCd bb CP [V.ref p] X1 R E0 := fun CP eC => by
      subst eC
      refine ⟨p, a, pl, tk, ml, wd', pls, pcs, ts, rfl, W1.pa.pb, W1.pa.htk, by omega, by rw [W1.rst.tl]; omega, fun ys h => by have := (hpc ys h).2.2; omega, hb5, fun X' sX => ?_⟩
      rw [W.sum, Int.sub_self]
      exact h X' sX
    cases bb
    . exact .inl (W1.pa.pb.hp.meth (by walk_at "lk") (core _ rfl))
    . exact .inr (W1.pa.pb.hp.meth (by walk_at "lk") (core _ rfl))
  refine eL _ fun X3 s3 => ?_
  walk_at "rd"
  exact q X3 pr (W1.st.mono s3)
theorem ok_bits {f : Addr} {fd : FuncData} (F : Fun K "_law_bits" "_law_bits" ZDA f fd) (T : Bt K mg C_Pour C_LastPour C_Asker C_AskedRule)
    (f_digits : Fn P w K mg base CX0 "_law_digits" 2 ["_law_script", "_law_k", "_law_base"] (ZCN K))
    (f_stream : Fn P w K mg base CX0 "_law_stream" 1 ["_law_cell", "_law_many"] (ZBS))
    (f_cell_at : Fn P w K mg base CX0 "_law_cell_at" 1 ["_law_script", "_law_k"] (ZCp K))
    : FnOk P w K mg base CX0 3 f fd ["_law_script", "_law_mix"] (ZDH K) := by
  refine F.ok sc_bits (fun vs H Q E h => ?_) (fun cdv A outer s H vs Q E hr h => ?_)
  . obtain ⟨a, ns, m, rfl, hS, h63, q⟩ := h
    rfl
  obtain ⟨a, ns, m, rfl, hS, h63, q⟩ := h
  refine ⟨_, (ZAB (ZA4 (ZAP ZBh (ZAR ZAq (ZAR ZAm (ZAu f_cell_at (hr.mono (by decide)) rfl ZAZ (ZAA (pv 0) (ZAA ZAF ZAD))) ZAF) ZAF) ZAF (ZAS _))
   (ZAH (ZAW (ZAu f_digits (hr.mono (by decide)) rfl ZAZ (ZAA (pv 0) (ZAA ZAF (ZAA ZAF ZAD)))))) ZAX)
   (ZAH (ZAW (ZBL rfl (k := 1) (js := []) (N' := ["_law_number"]) (by rfl) (ZAs (ZAu f_stream (hr.mono (by decide)) rfl ZAZ (ZAA (pv 1) (ZAA ZAF ZAD)))) (fun _ _ _ _ => ZAY (i := 0) (show (["_law_number"] : List Str).Nodup by decide +kernel) rfl (by walk_at "o")) (fun _ _ _ _ => ZAy) (fun _ _ _ _ => (ZAR ZAq (ZAR ZAm (pv 0) ZAF) ZAF)))))), ?_⟩
  walk_at "rd"
  refine ⟨a, ns, 0, rfl, hS, by decide, ?_⟩
  walk_at "rd"
  refine ⟨⟨by decide, by decide⟩, by decide, ?_⟩
  by_cases h : cellOf ns 0 / 32 % 2 = 1
  . rw [if_pos h]
    exact ⟨a, ns, 8, 2, rfl, hS, h63, by decide, by decide, by decide, fun l1 H1 zs s1 hl10 hl1 hz _ => q l1 H1 zs s1 hl10 hl1 (by omega)⟩
  . rw [if_neg h]
    refine ⟨_, 64, rfl, by omega, by omega, fun l1 H1 zs s1 hl10 hl1 hz hzb => ?_⟩
    refine ZA5 (SqL.of hl1) (by rw [yAA]; omega) (fun i ys σ H' => ∃ v, σ = [v] /\ Same H1 H' /\ ys = ((zs.take i).map fun z => z / 5 % 2).map V.int) ⟨_, rfl, .refl _, rfl⟩ (fun i ys σ H' _ ⟨_, _, e, e2⟩ => ⟨SqL.of (e _ _ hl1), by rw [e2, yAA, yAA, yAT]; omega⟩) ?_ ?_
    . rintro i ys x σ H' hi hx ⟨v, rfl, sA, rfl⟩
      obtain ⟨z, hz', rfl⟩ := ZB9 hx
      walk_at "rd"
      refine ⟨⟨by decide, by decide⟩, by decide, ?_⟩
      refine Nxt.of hi ⟨_, rfl, sA, ?_⟩
      rw [yCB, hz', yAQ, yAQ]; rfl
    rintro ys σ H2 ⟨v, rfl, s2, rfl⟩ l2 hl2
    rw [yAA, yBI (yAB _)]
    exact q l2 _ (zs.map fun z => z / 5 % 2) (s1.trans (s2.new hl2)) (s1.free (s2.free hl2)) ZAG (by rw [yAA]; omega)
theorem ok_law {f : Addr} {fd : FuncData} (F : Fun K "law" "law" ZDJ f fd) (T : Bt K mg C_Pour C_LastPour C_Asker C_AskedRule)
    (f_keys : Fn P w K mg base CX0 "_law_keys" 3 ["_law_script", "_law_most"] (ZEK K))
    (f_cell_at : Fn P w K mg base CX0 "_law_cell_at" 1 ["_law_script", "_law_k"] (ZCp K))
    (f_dealt : Fn P w K mg base CX0 "_law_dealt" 3 ["_law_keys_here", "_law_script"] (ZCo K))
    (f_spans : Fn P w K mg base CX0 "_law_spans" 8 ["_law_low", "_law_high"] (ZCU 8))
    (f_bits : Fn P w K mg base CX0 "_law_bits" 3 ["_law_script", "_law_mix"] (ZDH K))
    (f_walked : Fn P w K mg base CX0 "_law_walked" 8 ["_law_pour", "_law_log", "_law_spans_here", "_law_rest", "_law_last"] (ZDG C_Asker C_AskedRule C_LastPour C_Pour))
    (f_teller : Fn P w K mg base CX0 "_law_teller" 1 ["_law_log", "_law_bits_here"] (ZDy Pt_teller (ZEX ZAM) "_law_teller_here" "_law_teller.<locals>._law_teller_here" (ZAQ ZAM) (ZAL ZAM) (ZAC ZAM) ["_law_bits_here", "_law_log"] [1, 0] 2))
    (k_Asker_3 : KlD P w K mg base CX0 "Asker" C_Asker 1 ["self", "row", "rule", "most"] (ZCF C_Asker) [.non])
    (k_AskedRule : Kl P w K mg base CX0 "AskedRule" C_AskedRule 1 ["self", "teller"] (ZCV C_AskedRule))
    (k_LastPour : Kl P w K mg base CX0 "LastPour" C_LastPour 10 ["self", "asker", "pieces"] (ZBb C_Asker C_AskedRule true C_LastPour))
    (k_Pour : Kl P w K mg base CX0 "Pour" C_Pour 10 ["self", "asker", "pieces"] (ZBb C_Asker C_AskedRule false C_Pour))
    : FnOk P w K mg base CX0 12 f fd ["_law_script"] (ZEJ K [(cc_teller, Pt_teller)]) := by
  refine F.ok sc_law (fun vs H Q E h => ?_) (fun cdv A outer s H vs Q E hr h => ?_)
  . obtain ⟨a, ns, rfl, hS, h63, hT, q⟩ := h
    rfl
  obtain ⟨a, ns, rfl, hS, h63, hT, q⟩ := h
  refine ⟨_, (ZAB (ZAN (i := 1) sc_law.nd rfl (by walk_at "o") (ZAu f_keys (hr.mono (by decide)) rfl ZAZ (ZAA (pv 0) (ZAA ZAF ZAD))))
    (ZAU
   (ZAB (ZAN (i := 2) sc_law.nd rfl (by walk_at "o") (ZAu f_cell_at (hr.mono (by decide)) rfl ZAZ (ZAA (pv 0) (ZAA ZAF ZAD))))
   (ZAB (ZAN (i := 3) sc_law.nd rfl (by walk_at "o") (ZAu f_dealt (hr.mono (by decide)) rfl ZAZ (ZAA (pv 1) (ZAA (pv 0) ZAD))))
    (ZAU
   (ZAB (ZAN (i := 4) sc_law.nd rfl (by walk_at "o") (ZBM ZAD))
   (ZAB (ZA4 (ZAP ZBh (ZAR ZAq (ZAR ZAm (ZAu f_cell_at (hr.mono (by decide)) rfl ZAZ (ZAA (pv 0) (ZAA ZAF ZAD))) ZAF) ZAF) ZAF (ZAS _))
   (ZAH (ZAN (i := 4) sc_law.nd rfl (by walk_at "o") (ZAu f_bits (hr.mono (by decide)) rfl ZAZ (ZAA (pv 0) (ZAA (ZAR ZAm (ZAu f_cell_at (hr.mono (by decide)) rfl ZAZ (ZAA (pv 0) (ZAA ZAF ZAD))) ZAF) ZAD))))) ZAX)
    (ZAU
   (ZAB (ZAN (i := 5) sc_law.nd rfl (by walk_at "o") (ZBM ZAD))
    (ZAU
   (ZAB (ZAN (i := 6) sc_law.nd rfl (by walk_at "o") (pe_mkD k_Asker_3 (hr.mono (by decide)) rfl ZAZ (ZAA (ZBL rfl (k := 2) (js := []) (N' := ["_law_k", "_law_key"]) (by rfl) (pi_enum rfl T.b_enumerate (ZAA (pv 1) ZAD)) (fun _ _ _ _ => pg_tupK (n := 2) K rfl (ZBn (ZAY (i := 0) (show (["_law_k", "_law_key"] : List Str).Nodup by decide +kernel) rfl (by walk_at "o")) (ZBn (ZAY (i := 1) (show (["_law_k", "_law_key"] : List Str).Nodup by decide +kernel) rfl (by walk_at "o")) ZDm))) (fun _ _ _ _ => ZAy) (fun _ _ _ _ => (ZBC (ZAA (pv 1) (ZAA (pv 0) ZAD))))) (ZAA (ZEz k_AskedRule (hr.mono (by decide)) rfl ZAZ (ZAA (ZAu f_teller (hr.mono (by decide)) rfl ZAZ (ZAA (pv 5) (ZAA (pv 4) ZAD))) ZAD)) ZAD))))
    (ZAU
   (ZAB (ZAN (i := 7) sc_law.nd rfl (by walk_at "o") (ZBY ZBh (ZAR ZAq (ZAu f_cell_at (hr.mono (by decide)) rfl ZAZ (ZAA (pv 0) (ZAA ZAF ZAD))) ZAF) ZAF (ZAS _)))
    (ZAU
   (ZAB (ZA4 (ZCr (pv 7))
   (ZAH (ZAN (i := 8) sc_law.nd rfl (by walk_at "o") (ZEz k_LastPour (hr.mono (by decide)) rfl ZAZ (ZAA (pv 6) (ZAA (ZBL rfl (k := 1) (js := []) (N' := ["_law_piece"]) (by rfl) (ZAs (pv 3)) (fun _ _ _ _ => ZAY (i := 0) (show (["_law_piece"] : List Str).Nodup by decide +kernel) rfl (by walk_at "o")) (fun _ _ _ _ => ZAy) (fun _ _ _ _ => (ZBg (ZBu K) rfl T.b_list PyProof.Rows.boot_list (ZAA (pv 0) ZAD)))) ZAD)))))
   (ZAH (ZAN (i := 8) sc_law.nd rfl (by walk_at "o") (ZEz k_Pour (hr.mono (by decide)) rfl ZAZ (ZAA (pv 6) (ZAA (ZBL rfl (k := 1) (js := []) (N' := ["_law_piece"]) (by rfl) (ZAs (pv 3)) (fun _ _ _ _ => ZAY (i := 0) (show (["_law_piece"] : List Str).Nodup by decide +kernel) rfl (by walk_at "o")) (fun _ _ _ _ => ZAy) (fun _ _ _ _ => (ZBg (ZBu K) rfl T.b_list PyProof.Rows.boot_list (ZAA (pv 0) ZAD)))) ZAD))))))
    (ZAU
   (ZAB (ZAN (i := 9) sc_law.nd rfl (by walk_at "o") (ZAu f_spans (hr.mono (by decide)) rfl ZAZ (ZAA ZAF (ZAA (ZAK ZAJ rfl T.b_len PySem.boot_len (ZAA (pv 3) ZAD)) ZAD))))
    (ZAU
   (ZAH (ZAW (pe_and (ZAu f_walked (hr.mono (by decide)) rfl ZAZ (ZAA (pv 8) (ZAA (pv 5) (ZAA (pv 9) (ZAA (pv 3) (ZAA (pv 7) ZAD)))))) (pe_one (ZBY ZBh (ZAp (pv 6) rfl) (ZAK ZAJ rfl T.b_len PySem.boot_len (ZAA (pv 5) ZAD)) (ZAS _)))))))))))))))))))))))), ?_⟩
  walk_at "rd"
  refine ⟨a, ns, rfl, hS, h63, fun ky H1 ks S1 hnky hky hkl => ?_⟩
  refine ZAd ?_
  walk_at "rd"
  refine ⟨a, ns, 3, rfl, S1.seq hS, by decide, ?_⟩
  generalize cellOf ns 3 = c3
  refine ⟨ky, a, ks, ns, rfl, hky, hkl, S1.seq hS, h63, fun pl0 hls pcs H2 s2 hpl00 hpl0 hPL hfrL hpn hpsrt hpdj hpsum => ?_⟩
  have hlb := hPL.len
  refine ZAd ?_
  walk_at "rd"
  refine ⟨yAF _, fun b0 hb0 => ?_⟩
  obtain ⟨H3, e3, s3, h3⟩ := newH hb0 (.lst [])
  rw [e3]; clear e3
  have S3 := S1.trans (s2.trans s3)
  walk_at "rd"
  refine ⟨a, ns, 1, rfl, S3.seq hS, by decide, ?_⟩
  walk_at "rd"
  refine ⟨⟨by decide, by decide⟩, by decide, ?_⟩
  apply ZE1 (α := Addr × Hp) (fun x => [some (.ref a), some (.ref ky), some (.int c3), some (.ref pl0), some (.ref x.1), none, none, none, none, none]) (fun x => x.2) (fun x => Same H2 x.2 /\ H2 x.1 = none /\ ∃ bs : List Int, x.2 x.1 = some (.lst (bs.map V.int)) /\ bs.length <= 1000)
  . intro tailp
    by_cases hc : cellOf ns 1 / 2 % 2 = 1
    . rw [if_pos hc]
      refine ⟨a, ns, 1, rfl, S3.seq hS, by decide, ?_⟩
      walk_at "rd"
      refine ⟨⟨by decide, by decide⟩, ?_⟩
      refine ⟨a, ns, _, rfl, S3.seq hS, h63, fun bl H4 zs s4 hbl0 hbl hz => ?_⟩
      exact tailp (bl, H4) ⟨s3.trans s4, s3.free hbl0, zs, hbl, by omega⟩
    . rw [if_neg hc]
      exact tailp (b0, H3) ⟨s3, hb0, [], h3, by decide⟩
  clear s3 h3 S3 hb0
  rintro ⟨bl, H3⟩ ⟨s3, hbl0, bs, hbl, hbz⟩
  dsimp only at s3 hbl0 hbl
  refine ZAd ?_
  walk_at "rd"
  refine ⟨yAF _, fun lg hlg => ?_⟩
  obtain ⟨H4, e4, s4, h4lg⟩ := newH hlg (.lst [])
  rw [e4]; clear e4
  have s24 := s3.trans s4
  have hky4 := (s2.trans s24) _ _ hky
  walk_at "rd"
  refine ZAd ?_
  walk_at "rd"
  refine compE_of (SqL.of hky4) (by rw [yAA]; omega) (fun i ys σ H' => ∃ v w, σ = [v, w] /\ Same H4 H' /\ ys.length = i /\ ∀ (j : Nat) k, j < i -> ks[j]? = some k -> ∃ r, ys[j]? = some (V.ref r) /\ H' r = some (.tup [.int k, .int j])) ⟨_, _, rfl, .refl _, rfl, fun _ _ h => by omega⟩ (fun i ys σ H' _ ⟨_, _, _, s, l, _⟩ => ⟨SqL.of (s _ _ hky4), Nat.le_of_eq l⟩) ?_ ?_
  . rintro i ys x σ H' p hi hx ⟨v, w, rfl, s3', hl, hth⟩ hp
    obtain ⟨k, hk, rfl⟩ := ZB9 hx
    walk_at "rd"
    refine ZDu (SqT.of ZAG) rfl ?_
    walk_at "rd"
    refine ⟨ZAV (by decide), fun t ht => ?_⟩
    refine Nxt.of hi ⟨_, _, rfl, (s3'.new hp).new ht, by rw [yAD, hl]; rfl, fun j k' hj hk' => ?_⟩
    by_cases z : j < i
    . obtain ⟨r, a1, a2⟩ := hth j k' z hk'
      exact ⟨r, by rw [yAV (by omega)]; exact a1, ZAO ht _ _ _ (ZAO hp _ _ _ a2)⟩
    . have : j = i := by omega
      subst this
      rw [hk] at hk'; cases hk'
      exact ⟨t, by rw [<- hl, yAU (yAB _), yBJ]; rfl, ZAG⟩
  rintro xs σ H5 ⟨v, w, rfl, s5, hxl, hth⟩ xl hxl0
  rw [yAA] at hxl hth
  obtain ⟨H6, e6, s6, h6⟩ := newH hxl0 (.lst xs)
  rw [e6]; clear e6
  have s26 := s24.trans (s5.trans s6)
  have S6 : Same H H6 := S1.trans (s2.trans s26)
  have h6lg := s6 _ _ (s5 _ _ h4lg)
  have h6bl := s6 _ _ (s5 _ _ (s4 _ _ hbl))
  have nbl : bl ≠ lg := ZAE hbl hlg
  have hPt : H Pt_teller = some (.tbl #[]) := hT _ yAI
  have hPt6 : H6 Pt_teller = some (.tbl #[]) := S6 _ _ hPt
  refine ⟨rfl, .inl hPt6, fun g H7 md => ?_⟩
  have u7 : ∀ b o, H6 b = some o -> (∀ t, o ≠ .tbl t) -> H7 b = some o := fun b o h n => md.same b o (fun z => by rw [z, hPt6] at h; exact n _ (Option.some.inj h).symm) h
  intro ru dr hru hdr nrd
  have hru' : upd H7 dr (.own ru) ru = none := by rw [ZAI (Ne.symm nrd)]; exact hru
  have s8 : Same H7 (upd (upd H7 dr (.own ru)) ru (.ins C_AskedRule dr [])) := (ZAO hdr _).trans (ZAO hru' _)
  refine ⟨ru, dr, g, rfl, ZAG, fun H9 k9 ir => ⟨rfl, ?_⟩⟩
  have k9' : ∀ b o, H7 b = some o -> H9 b = some o := fun b o h => k9 b o (ZAE h hru) (s8 _ _ h)
  intro ak da hak hda nad
  have hak' : upd H9 da (.own ak) ak = none := by rw [ZAI (Ne.symm nad)]; exact hak
  have s10 : Same H9 (upd (upd H9 da (.own ak)) ak (.ins C_Asker da [])) := (ZAO hda _).trans (ZAO hak' _)
  have u9 : ∀ b o, H6 b = some o -> (∀ t, o ≠ .tbl t) -> H9 b = some o := fun b o h n => k9' _ _ (u7 b o h n)
  have h9xl := u9 xl _ h6 fun _ z => by cases z
  refine ⟨ak, da, xl, ru, .non, xs, rfl, ZAG, s10 _ _ h9xl, fun rl tl HA kA nrl ntl nrt ia hrl htlA => ⟨rfl, ?_⟩⟩
  have uA : ∀ b o, H9 b = some o -> HA b = some o := fun b o h => kA b o (ZAE h hak) (s10 _ _ h)
  have h9lg := u9 lg _ h6lg fun _ z => by cases z
  have h9bl := u9 bl _ h6bl fun _ z => by cases z
  have hAak : upd (upd H9 da (.own ak)) ak (.ins C_Asker da []) ak = some (.ins C_Asker da []) := ZAG
  obtain ⟨dr', fs'', er, _, _⟩ := ir.ex
  have nak_ru : ru ≠ ak := ZAE er hak
  have st : SitO C_Asker C_AskedRule HA ks xs ak rl ru tl g lg bl [] := {
    ha := ia
    hrl := hrl
    hru := ZCR (S := [ak]) (fun b o n h => kA b o (fun z => n (by rw [z]; exact yAI)) (s10 _ _ h)) (fun z => nak_ru (yAK.mp z)) ir
    clo := TlO.mono (fun b o h => uA _ _ (k9' _ _ h)) md.clo
    hbl := ⟨bs, uA _ _ h9bl, hbz⟩
    len := hxl
    row := fun i k hk => by
      have hi := (yAJ.mp hk).1
      obtain ⟨r, a1, a2⟩ := hth i k (by omega) hk
      exact ⟨r, a1, uA _ _ (u9 _ _ (s6 _ _ a2) fun _ z => by cases z)⟩
    hlg := ⟨[], uA _ _ h9lg, rfl, fun j p q b h => by simp at h⟩
    htl := ⟨[], htlA, rfl, fun j p q b h => by simp at h⟩
    ne := ⟨ZAE (s10 _ _ h9lg) ntl, ZE3 (Ne.symm (ZAE hAak nrl)) (Ne.symm (ZAE (s10 _ _ h9lg) nrl)) nrt, nak_ru, ZE3 (ZAE h9bl hak) nbl (ZAE (s10 _ _ h9bl) ntl)⟩ }
  have n2lg : ∀ b o, H2 b = some o -> b ≠ lg := fun b o h => ZAE (s3 _ _ h) hlg
  have up2 : ∀ b o, H2 b = some o -> (∀ t, o ≠ .tbl t) -> HA b = some o /\ b ∉ [ak, lg, tl] /\ b ≠ rl /\ b ≠ bl := fun b o h n => by
    have h9 := u9 b o (s26 _ _ h) n
    exact ⟨uA _ _ h9, ZE3 (ZAE h9 hak) (n2lg b o h) (ZAE (s10 _ _ h9) ntl), ZAE (s10 _ _ h9) nrl, ZAE h hbl0⟩
  have hplA := (up2 pl0 _ hpl0 fun _ z => by cases z).1
  have hPLA : PL HA hls pcs := ⟨hPL.len, fun i b ys h1 h2 => (up2 b _ (hPL.at' i b ys h1 h2) fun _ z => by cases z).1, hPL.nd⟩
  have hat2 : ∀ l ∈ hls, ∃ ys, H2 l = some (.lst (nL ys)) := fun l hl => by
    obtain ⟨j, hj, ej⟩ := yCP hl
    exact ⟨_, hPL.at' j l (pcs[j]'(by omega)) (by rw [yAC hj, ej]) (yAC (by omega))⟩
  have hpS : ∀ bv : Bool, (∀ ys ∈ pcs.map (rv bv), ∀ y ∈ ys, y < ks.length) /\ (∀ (i j : Nat) xi xj y, i ≠ j -> (pcs.map (rv bv))[i]? = some xi -> (pcs.map (rv bv))[j]? = some xj -> y ∈ xi -> y ∉ xj) /\ (∀ ys ∈ pcs.map (rv bv), ys.Nodup /\ ys.length <= 119) := fun bv => by
    refine ⟨fun ys h y hy => ?_, fun i j xi xj y hij h1 h2 hy1 hy2 => ?_, fun ys h => ?_⟩
    . obtain ⟨z, hz, rfl⟩ := yBF.mp h
      exact (hpsrt z hz).2.1 y (rv_mem.mp hy)
    . rw [yAG] at h1 h2
      obtain ⟨z1, hz1, rfl⟩ := yBU.mp h1
      obtain ⟨z2, hz2, rfl⟩ := yBU.mp h2
      exact hpdj i j z1 z2 y hij hz1 hz2 (rv_mem.mp hy1) (rv_mem.mp hy2)
    . obtain ⟨z, hz, rfl⟩ := yBF.mp h
      have hnd : z.Nodup := (hpsrt z hz).1.imp fun {x y} h e => by subst e; exact lx_asym h h
      refine ⟨?_, by rw [ZD1]; exact (hpsrt z hz).2.2⟩
      cases bv
      . exact hnd
      . exact (List.reverse_perm z).nodup_iff.mpr hnd
  have scr : SqL K HA a (ns.map V.int) := sqL_fr (S := [Pt_teller]) (fun b o n h => uA _ _ (k9' _ _ (md.same b o (fun z => n (by rw [z]; exact yAI)) (S6 _ _ h)))) (fun o ho h z => by
    rw [yAK.mp z, hPt] at h; exact ho _ (Option.some.inj h).symm) hS
  clear u7 u9 uA kA k9 k9' md s8 s10 hru hru' hak hak' hdr hda er hAak nak_ru ia hrl htlA ir h9lg h9bl h9xl h6 h6lg h6bl hPt6 s26 S6 s5 s6 s24 s4 s3 h4lg hth hxl hky4
  refine ZAd ?_
  walk_at "rd"
  refine ⟨a, ns, 1, rfl, scr, by decide, ?_⟩
  walk_at "rd"
  refine ⟨by decide, ?_⟩
  generalize decide (cellOf ns 1 % 2 = 1) = bb
  refine ZAd ?_
  walk_at "rd"
  apply ZE1 (α := Addr × Hp) (fun x => [some (.ref a), some (.ref ky), some (.int c3), some (.ref pl0), some (.ref bl), some (.ref lg), some (.ref ak), some (.bl bb), some (.ref x.1), none]) (fun x => x.2) (fun x => ∃ pl tk ml wd pls w1 wn kvs l1, SitO C_Asker C_AskedRule x.2 ks xs ak rl ru tl g lg bl (l1.map (mxo bb)) /\ PourAt bb (cond bb C_LastPour C_Pour) x.2 x.1 ak pl tk ml wd pls (pcs.map (rv bb)) (List.replicate (pcs.map (rv bb)).length 0) w1 kvs /\ PX ak rl bl lg tl x.1 pl tk ml pls /\ (0 < (pcs.map (rv bb)).length -> Po.RR (frs (pcs.map (rv bb)) (List.replicate (pcs.map (rv bb)).length 0)) w1 0 (pcs.map (rv bb)).length) /\ l1.length <= (pcs.map (rv bb)).length - 1 /\ Po.FineA ks.length l1 /\ (∀ i, i < (pcs.map (rv bb)).length -> wn i (i + 1) = some (frs (pcs.map (rv bb)) (List.replicate (pcs.map (rv bb)).length 0) i)) /\ (∀ a c, ¬ c - a < 2 -> wn a c = none) /\ Po.Tr (Po.mts 0 (pcs.map (rv bb)).length) wn l1 w1 /\ (∀ b o, HA b = some o -> b ≠ x.1 /\ b ≠ tk /\ b ≠ pl /\ b ≠ ml /\ b ∉ pls) /\ ∀ b o, b ∉ [ak, lg, tl] -> HA b = some o -> x.2 b = some o)
  . intro tailp
    cases bb
    . rw [if_neg (by decide)]
      refine ZA5 (SqL.of hplA) (by rw [yAA]; omega) (fun i ys σ X => ∃ v ls, σ = [v] /\ Same HA X /\ ys = ls.map V.ref /\ ls.length = i /\ (∀ (j : Nat) l zs, ls[j]? = some l -> pcs[j]? = some zs -> X l = some (.lst (nL zs)))) ⟨_, [], rfl, .refl _, rfl, rfl, fun j l zs h => by simp at h⟩ (fun i ys σ X _ ⟨_, ls, _, e, e2, e3, _⟩ => ⟨SqL.of (e _ _ hplA), by rw [e2, yAA]; omega⟩) ?_ ?_
      . rintro i ys u σ X hi hu ⟨v, ls, rfl, sX, rfl, hll, hls2⟩
        rw [yAA] at hi
        have hi2 : i < pcs.length := by omega
        obtain ⟨zs, hzs⟩ : ∃ zs, pcs[i]? = some zs := ⟨_, yAC hi2⟩
        rw [yAG, yAC hi] at hu
        cases hu
        have hl2 := sX _ _ (hPLA.at' i _ zs (yAC hi) hzs)
        walk_at "rd"
        refine ⟨_, _, rfl, .inl (SqL.of hl2), fun l' hl' => ?_⟩
        refine Nxt.of (by rw [yAA]; exact hi) ⟨_, ls ++ [l'], rfl, sX.new hl', by rw [yAQ]; rfl, by rw [yAD, hll]; rfl, fun j l zs' h1 h2 => ?_⟩
        by_cases z : j < ls.length
        . rw [yAV z] at h1
          exact ZAO hl' _ _ _ (hls2 j l zs' h1 h2)
        . have h3 := (yAJ.mp h1).1
          rw [yAD, yBN] at h3
          have : j = i := by omega
          subst this
          rw [yAU (by omega), hll, yBJ] at h1
          cases h1
          rw [hzs] at h2
          cases h2
          exact ZAG
      rintro ys σ X ⟨v, ls, rfl, sX, rfl, hll, hls2⟩ hl hhl0
      rw [yAA] at hll
      obtain ⟨H15, e15, s15, h15⟩ := newH hhl0 (.lst (ls.map V.ref))
      rw [e15]; clear e15
      have S15 := sX.trans s15
      intro po dp hpo hdp npd
      have hpo' : upd H15 dp (.own po) po = none := by rw [ZAI (Ne.symm npd)]; exact hpo
      have s16 : Same H15 (upd (upd H15 dp (.own po)) po (.ins C_Pour dp [])) := (ZAO hdp _).trans (ZAO hpo' _)
      have h16 : (upd (upd H15 dp (.own po)) po (.ins C_Pour dp [])) po = some (.ins C_Pour dp []) := ZAG
      generalize upd (upd H15 dp (.own po)) po (.ins C_Pour dp []) = H16 at s16 h16 ⊢
      have S16 := S15.trans s16
      have npo := (st.mono S15).newS hpo
      refine ⟨ks, xs, ak, rl, ru, tl, g, lg, bl, po, dp, hl, [], ls, pcs.map (rv false), fun w' l' => ((0 < (pcs.map (rv false)).length -> Po.RR (frs (pcs.map (rv false)) (List.replicate (pcs.map (rv false)).length 0)) w' 0 (pcs.map (rv false)).length) /\ l'.length <= (pcs.map (rv false)).length - 1 /\ Po.FineA ks.length l') /\ ∃ wn : Po.W, (∀ i, i < (pcs.map (rv false)).length -> wn i (i + 1) = some (frs (pcs.map (rv false)) (List.replicate (pcs.map (rv false)).length 0) i)) /\ (∀ a c, ¬ c - a < 2 -> wn a c = none) /\ Po.Tr (Po.mts 0 (pcs.map (rv false)).length) wn l' w', rfl, h16, st.mono S16, s16 _ _ h15, by rw [yAA]; omega, fun j l zs h1 h2 => ?_, by rw [yAA]; omega, fun w' hw hn => (Po.safe_make hw (ZDQ (hpS false).1 (hpS false).2.1)).tr.mono fun w2 l2 ⟨z1, e, z2, z3⟩ => ⟨z1, w', hw, hn, by rw [z2, yBP]; exact z3⟩, npo, by omega, yAF _, fun pl tk ml wd pls w1 l1 H17 kvs k17 pa hG hnew st17 => ⟨rfl, ?_⟩⟩
      . rw [yAG] at h2
        obtain ⟨z0, h3, rfl⟩ := yBU.mp h2
        rw [ZEv]
        exact s16 _ _ (s15 _ _ (hls2 j l z0 h1 h3))
      rw [yBP] at st17
      obtain ⟨hG1, wn, hG2, hG3, hG4⟩ := hG
      have nH : ∀ b o, HA b = some o -> b ≠ po /\ b ≠ tk /\ b ≠ pl /\ b ≠ ml /\ b ∉ pls := fun b o h => ⟨ZAE (S15 _ _ h) hpo, ZAE (S16 _ _ h) hnew.2.1, ZAE (S16 _ _ h) hnew.1, ZAE (S16 _ _ h) hnew.2.2.1, fun z => by have := hnew.2.2.2.2 b z; rw [S16 _ _ h] at this; cases this⟩
      obtain ⟨ubl, hblA, _⟩ := st.hbl
      exact tailp (po, H17) ⟨pl, tk, ml, wd, pls, w1, wn, kvs, l1, st17, pa, ⟨⟨(nH _ _ st.hrl).2.1, (nH _ _ hblA).2.1⟩, npo, st.newS (S16.free hnew.1), st.newS (S16.free hnew.2.1), st.newS (S16.free hnew.2.2.1), fun l h => st.newS (S16.free (hnew.2.2.2.2 l h))⟩, hG1.1, hG1.2.1, hG1.2.2, hG2, hG3, hG4, nH, fun b o n h => k17 b o (nH b o h).1 n (S16 _ _ h)⟩
    . rw [if_pos rfl]
      refine ZA5 (SqL.of hplA) (by rw [yAA]; omega) (fun i ys σ X => ∃ v ls, σ = [v] /\ Same HA X /\ ys = ls.map V.ref /\ ls.length = i /\ (∀ (j : Nat) l zs, ls[j]? = some l -> pcs[j]? = some zs -> X l = some (.lst (nL zs)))) ⟨_, [], rfl, .refl _, rfl, rfl, fun j l zs h => by simp at h⟩ (fun i ys σ X _ ⟨_, ls, _, e, e2, e3, _⟩ => ⟨SqL.of (e _ _ hplA), by rw [e2, yAA]; omega⟩) ?_ ?_
      . rintro i ys u σ X hi hu ⟨v, ls, rfl, sX, rfl, hll, hls2⟩
        rw [yAA] at hi
        have hi2 : i < pcs.length := by omega
        obtain ⟨zs, hzs⟩ : ∃ zs, pcs[i]? = some zs := ⟨_, yAC hi2⟩
        rw [yAG, yAC hi] at hu
        cases hu
        have hl2 := sX _ _ (hPLA.at' i _ zs (yAC hi) hzs)
        walk_at "rd"
        refine ⟨_, _, rfl, .inl (SqL.of hl2), fun l' hl' => ?_⟩
        refine Nxt.of (by rw [yAA]; exact hi) ⟨_, ls ++ [l'], rfl, sX.new hl', by rw [yAQ]; rfl, by rw [yAD, hll]; rfl, fun j l zs' h1 h2 => ?_⟩
        by_cases z : j < ls.length
        . rw [yAV z] at h1
          exact ZAO hl' _ _ _ (hls2 j l zs' h1 h2)
        . have h3 := (yAJ.mp h1).1
          rw [yAD, yBN] at h3
          have : j = i := by omega
          subst this
          rw [yAU (by omega), hll, yBJ] at h1
          cases h1
          rw [hzs] at h2
          cases h2
          exact ZAG
      rintro ys σ X ⟨v, ls, rfl, sX, rfl, hll, hls2⟩ hl hhl0
      rw [yAA] at hll
      obtain ⟨H15, e15, s15, h15⟩ := newH hhl0 (.lst (ls.map V.ref))
      rw [e15]; clear e15
      have S15 := sX.trans s15
      intro po dp hpo hdp npd
      have hpo' : upd H15 dp (.own po) po = none := by rw [ZAI (Ne.symm npd)]; exact hpo
      have s16 : Same H15 (upd (upd H15 dp (.own po)) po (.ins C_LastPour dp [])) := (ZAO hdp _).trans (ZAO hpo' _)
      have h16 : (upd (upd H15 dp (.own po)) po (.ins C_LastPour dp [])) po = some (.ins C_LastPour dp []) := ZAG
      generalize upd (upd H15 dp (.own po)) po (.ins C_LastPour dp []) = H16 at s16 h16 ⊢
      have S16 := S15.trans s16
      have npo := (st.mono S15).newS hpo
      refine ⟨ks, xs, ak, rl, ru, tl, g, lg, bl, po, dp, hl, [], ls, pcs.map (rv true), fun w' l' => ((0 < (pcs.map (rv true)).length -> Po.RR (frs (pcs.map (rv true)) (List.replicate (pcs.map (rv true)).length 0)) w' 0 (pcs.map (rv true)).length) /\ l'.length <= (pcs.map (rv true)).length - 1 /\ Po.FineA ks.length l') /\ ∃ wn : Po.W, (∀ i, i < (pcs.map (rv true)).length -> wn i (i + 1) = some (frs (pcs.map (rv true)) (List.replicate (pcs.map (rv true)).length 0) i)) /\ (∀ a c, ¬ c - a < 2 -> wn a c = none) /\ Po.Tr (Po.mts 0 (pcs.map (rv true)).length) wn l' w', rfl, h16, st.mono S16, s16 _ _ h15, by rw [yAA]; omega, fun j l zs h1 h2 => ?_, by rw [yAA]; omega, fun w' hw hn => (Po.safe_make hw (ZDQ (hpS true).1 (hpS true).2.1)).tr.mono fun w2 l2 ⟨z1, e, z2, z3⟩ => ⟨z1, w', hw, hn, by rw [z2, yBP]; exact z3⟩, npo, by omega, yAF _, fun pl tk ml wd pls w1 l1 H17 kvs k17 pa hG hnew st17 => ⟨rfl, ?_⟩⟩
      . rw [yAG] at h2
        obtain ⟨z0, h3, rfl⟩ := yBU.mp h2
        rw [ZEv]
        exact s16 _ _ (s15 _ _ (hls2 j l z0 h1 h3))
      rw [yBP] at st17
      obtain ⟨hG1, wn, hG2, hG3, hG4⟩ := hG
      have nH : ∀ b o, HA b = some o -> b ≠ po /\ b ≠ tk /\ b ≠ pl /\ b ≠ ml /\ b ∉ pls := fun b o h => ⟨ZAE (S15 _ _ h) hpo, ZAE (S16 _ _ h) hnew.2.1, ZAE (S16 _ _ h) hnew.1, ZAE (S16 _ _ h) hnew.2.2.1, fun z => by have := hnew.2.2.2.2 b z; rw [S16 _ _ h] at this; cases this⟩
      obtain ⟨ubl, hblA, _⟩ := st.hbl
      exact tailp (po, H17) ⟨pl, tk, ml, wd, pls, w1, wn, kvs, l1, st17, pa, ⟨⟨(nH _ _ st.hrl).2.1, (nH _ _ hblA).2.1⟩, npo, st.newS (S16.free hnew.1), st.newS (S16.free hnew.2.1), st.newS (S16.free hnew.2.2.1), fun l h => st.newS (S16.free (hnew.2.2.2.2 l h))⟩, hG1.1, hG1.2.1, hG1.2.2, hG2, hG3, hG4, nH, fun b o n h => k17 b o (nH b o h).1 n (S16 _ _ h)⟩
  rintro ⟨po, H17⟩ ⟨pl, tk, ml, wd, pls, w1, wn, kvs, l1, st17, pa, px, hR, hl1, hfin, hlf, hnn, htr, nH, k17⟩
  dsimp only at st17 pa px nH k17
  have hplX := k17 _ _ (up2 pl0 _ hpl0 fun _ z => by cases z).2.1 hplA
  refine ZAd ?_
  walk_at "rd"
  refine ⟨pl0, _, rfl, .inl (SqL.of hplX), ?_⟩
  rw [yAA, hlb]
  refine ⟨0, pcs.length, rfl, yAF _, by omega, by decide, yAE (show pcs.length - 0 <= 64 by omega) (by decide), fun sp H18 svs s18 hsp0 hsp hM => ?_⟩
  refine ZAd ?_
  walk_at "rd"
  have nspn : ∀ b o, H17 b = some o -> b ≠ sp := fun b o h => ZAE h hsp0
  have lenS : (pcs.map (rv bb)).length = pcs.length := yAA ..
  have sumS : ((pcs.map (rv bb)).map List.length).sum <= 119 := by
    have e : (pcs.map (rv bb)).map List.length = pcs.map List.length := by
      rw [List.map_map]
      exact List.map_congr_left fun x _ => ZD1 bb x
    rw [e]; exact hpsum
  have m5 : ∀ b, b ≠ po -> b ≠ tk -> b ∉ [ak, lg, tl] -> b ∉ [po, tk, ak, lg, tl] := fun b h1 h2 h3 z => by
    rcases yAH.mp z with z | z
    . exact h1 z
    rcases yAH.mp z with z | z
    . exact h2 z
    . exact h3 z
  have hls17 : ∀ l ∈ hls, ∃ ys, H2 l = some (.lst (nL ys)) /\ H17 l = some (.lst (nL ys)) := fun l hl => by
    obtain ⟨ys, h2⟩ := hat2 l hl
    have u := up2 l _ h2 fun _ z => by cases z
    exact ⟨ys, h2, k17 _ _ u.2.1 u.1⟩
  have AXX : AX ak rl bl lg tl po pl tk ml pl0 sp pls hls := by
    have u0 := up2 pl0 _ hpl0 fun _ z => by cases z
    have n0 := nH pl0 _ u0.1
    refine ⟨hPL.nd, m5 _ n0.1 n0.2.1 u0.2.1, m5 _ (pa.pb.hp.neN hsp0) (Ne.symm (nspn tk _ pa.htk)) (st17.newS hsp0), fun l hl => ?_⟩
    obtain ⟨ys, h2, h17⟩ := hls17 l hl
    have u := up2 l _ h2 fun _ z => by cases z
    have n := nH l _ u.1
    refine ⟨m5 _ n.1 n.2.1 u.2.1, fun z => ?_, n.2.2.2.2⟩
    rcases yAH.mp z with z | z
    . rw [z, hpl0] at h2
      injection h2 with h2
      injection h2 with h2
      cases hls with
      | nil => cases hl
      | cons b r =>
        cases ys with
        | nil => cases h2
        | cons y ys => injection h2 with h2 _; cases h2
    rcases yAH.mp z with z | z
    . exact nspn l _ h17 z
    rcases yAH.mp z with z | z
    . exact n.2.2.1 z
    rcases yAH.mp z with z | z
    . exact n.2.2.2.1 z
    rcases yAH.mp z with z | z
    . exact u.2.2.1 z
    . exact u.2.2.2 (yAK.mp z)
  have RSS : RS bb H18 pl0 hls (pcs.map (rv bb)) (List.replicate (pcs.map (rv bb)).length 0) := by
    refine ⟨s18 _ _ hplX, by rw [lenS]; exact hlb, yBY, fun i l zs t c1 c2 c3 => ?_⟩
    rw [yCM] at c3
    split at c3
    . cases c3
      rw [yAG] at c2
      obtain ⟨z0, h3, rfl⟩ := yBU.mp c2
      rw [List.drop_zero, ZEv]
      have h2 := hPL.at' i l z0 c1 h3
      have u := up2 l _ h2 fun _ z => by cases z
      exact s18 _ _ (k17 _ _ u.2.1 u.1)
    . cases c3
  refine ⟨bb, ks, xs, ak, rl, ru, tl, g, lg, bl, po, pl, tk, ml, wd, pls, pcs.map (rv bb), w1, wn, kvs, pl0, sp, hls, svs, l1, rfl, st17.mono s18, pa.mono s18, px, AXX, RSS, hsp, by rw [lenS]; exact hM, hR, hlf, hnn, htr, hfin, by omega, by omega, by omega, fun ys h => ⟨((hpS bb).2.2 ys h).1, (hpS bb).1 ys h, ((hpS bb).2.2 ys h).2⟩, (hpS bb).2.1, sumS, fun H' pr' st' => ⟨_, rfl, ?_⟩⟩
  rw [if_pos rfl]
  obtain ⟨ws, hlgE, hws⟩ := st'.hlg
  refine st'.ha.get T.cl_Asker T.n_Asker_asked (by walk_at "lk") ⟨lg, ws, rfl, .inl (SqL.of hlgE), ?_⟩
  walk_at "rd"
  rw [decide_eq_true (by rw [hws.len])]
  exact q _
end
theorem all_mk {l : PySem.W.OpenLaw} {w : World} {K : W.Frag} {h : Heap} {mg : Str -> Option Value} {fa C_Pour f_Pour_front_of f_Pour_goes_on f_Pour_met f_Pour_held f_Pour_top f_Pour_first f_Pour_init f_Pour_take f_Pour_left C_LastPour f_LastPour_front_of f_LastPour_goes_on C_Asker f_Asker_init T_Asker_init f_Asker_ahead C_AskedRule f_AskedRule_init f_AskedRule_before f_cell_at f_stream f_blocks f_nearly f_digits f_keys f_meetings_of f_dealt f_spans f_from f_held f_walked f_bits f_law f_teller cc_teller Pt_teller : Addr} (X : K.In h) (G : h.Ns mainGlobals mg) (hfa : mg "law" = some (.ref fa))
    {od_Pour_front_of an_Pour_front_of : Option Addr} {sl_Pour_front_of : Array (Option Value)} {oc_Pour_front_of kV_Pour_front_of dc_Pour_front_of pm_Pour_front_of cd_Pour_front_of ct_Pour_front_of : Value}
    {od_Pour_goes_on an_Pour_goes_on : Option Addr} {sl_Pour_goes_on : Array (Option Value)} {oc_Pour_goes_on kV_Pour_goes_on dc_Pour_goes_on pm_Pour_goes_on cd_Pour_goes_on ct_Pour_goes_on : Value}
    {od_Pour_met an_Pour_met : Option Addr} {sl_Pour_met : Array (Option Value)} {oc_Pour_met kV_Pour_met dc_Pour_met pm_Pour_met cd_Pour_met ct_Pour_met : Value}
    {od_Pour_held an_Pour_held : Option Addr} {sl_Pour_held : Array (Option Value)} {oc_Pour_held kV_Pour_held dc_Pour_held pm_Pour_held cd_Pour_held ct_Pour_held : Value}
    {od_Pour_top an_Pour_top : Option Addr} {sl_Pour_top : Array (Option Value)} {oc_Pour_top kV_Pour_top dc_Pour_top pm_Pour_top cd_Pour_top ct_Pour_top : Value}
    {od_Pour_first an_Pour_first : Option Addr} {sl_Pour_first : Array (Option Value)} {oc_Pour_first kV_Pour_first dc_Pour_first pm_Pour_first cd_Pour_first ct_Pour_first : Value}
    {od_Pour_init an_Pour_init : Option Addr} {sl_Pour_init : Array (Option Value)} {oc_Pour_init kV_Pour_init dc_Pour_init pm_Pour_init cd_Pour_init ct_Pour_init : Value}
    {od_Pour_take an_Pour_take : Option Addr} {sl_Pour_take : Array (Option Value)} {oc_Pour_take kV_Pour_take dc_Pour_take pm_Pour_take cd_Pour_take ct_Pour_take : Value}
    {od_Pour_left an_Pour_left : Option Addr} {sl_Pour_left : Array (Option Value)} {oc_Pour_left kV_Pour_left dc_Pour_left pm_Pour_left cd_Pour_left ct_Pour_left : Value}
    {od_LastPour_front_of an_LastPour_front_of : Option Addr} {sl_LastPour_front_of : Array (Option Value)} {oc_LastPour_front_of kV_LastPour_front_of dc_LastPour_front_of pm_LastPour_front_of cd_LastPour_front_of ct_LastPour_front_of : Value}
    {od_LastPour_goes_on an_LastPour_goes_on : Option Addr} {sl_LastPour_goes_on : Array (Option Value)} {oc_LastPour_goes_on kV_LastPour_goes_on dc_LastPour_goes_on pm_LastPour_goes_on cd_LastPour_goes_on ct_LastPour_goes_on : Value}
    {ocT_Asker_init : Value} {odT_Asker_init : Option Addr} {nT_Asker_init : Nat} {slT_Asker_init : Array (Option Value)}
    {od_Asker_init an_Asker_init : Option Addr} {sl_Asker_init : Array (Option Value)} {oc_Asker_init kV_Asker_init dc_Asker_init pm_Asker_init cd_Asker_init ct_Asker_init : Value}
    {od_Asker_ahead an_Asker_ahead : Option Addr} {sl_Asker_ahead : Array (Option Value)} {oc_Asker_ahead kV_Asker_ahead dc_Asker_ahead pm_Asker_ahead cd_Asker_ahead ct_Asker_ahead : Value}
    {od_AskedRule_init an_AskedRule_init : Option Addr} {sl_AskedRule_init : Array (Option Value)} {oc_AskedRule_init kV_AskedRule_init dc_AskedRule_init pm_AskedRule_init cd_AskedRule_init ct_AskedRule_init : Value}
    {od_AskedRule_before an_AskedRule_before : Option Addr} {sl_AskedRule_before : Array (Option Value)} {oc_AskedRule_before kV_AskedRule_before dc_AskedRule_before pm_AskedRule_before cd_AskedRule_before ct_AskedRule_before : Value}
    {od_cell_at an_cell_at : Option Addr} {sl_cell_at : Array (Option Value)} {oc_cell_at kV_cell_at dc_cell_at pm_cell_at cd_cell_at ct_cell_at : Value}
    {od_stream an_stream : Option Addr} {sl_stream : Array (Option Value)} {oc_stream kV_stream dc_stream pm_stream cd_stream ct_stream : Value}
    {od_blocks an_blocks : Option Addr} {sl_blocks : Array (Option Value)} {oc_blocks kV_blocks dc_blocks pm_blocks cd_blocks ct_blocks : Value}
    {od_nearly an_nearly : Option Addr} {sl_nearly : Array (Option Value)} {oc_nearly kV_nearly dc_nearly pm_nearly cd_nearly ct_nearly : Value}
    {od_digits an_digits : Option Addr} {sl_digits : Array (Option Value)} {oc_digits kV_digits dc_digits pm_digits cd_digits ct_digits : Value}
    {od_keys an_keys : Option Addr} {sl_keys : Array (Option Value)} {oc_keys kV_keys dc_keys pm_keys cd_keys ct_keys : Value}
    {od_meetings_of an_meetings_of : Option Addr} {sl_meetings_of : Array (Option Value)} {oc_meetings_of kV_meetings_of dc_meetings_of pm_meetings_of cd_meetings_of ct_meetings_of : Value}
    {od_dealt an_dealt : Option Addr} {sl_dealt : Array (Option Value)} {oc_dealt kV_dealt dc_dealt pm_dealt cd_dealt ct_dealt : Value}
    {od_spans an_spans : Option Addr} {sl_spans : Array (Option Value)} {oc_spans kV_spans dc_spans pm_spans cd_spans ct_spans : Value}
    {od_from an_from : Option Addr} {sl_from : Array (Option Value)} {oc_from kV_from dc_from pm_from cd_from ct_from : Value}
    {od_held an_held : Option Addr} {sl_held : Array (Option Value)} {oc_held kV_held dc_held pm_held cd_held ct_held : Value}
    {od_walked an_walked : Option Addr} {sl_walked : Array (Option Value)} {oc_walked kV_walked dc_walked pm_walked cd_walked ct_walked : Value}
    {od_bits an_bits : Option Addr} {sl_bits : Array (Option Value)} {oc_bits kV_bits dc_bits pm_bits cd_bits ct_bits : Value}
    {od_law an_law : Option Addr} {sl_law : Array (Option Value)} {oc_law kV_law dc_law pm_law cd_law ct_law : Value}
    {oc2_teller : Value} {od2_teller : Option Addr} {vs_teller : Array Value} {sl2_teller : Array (Option Value)}
    {od_teller an_teller : Option Addr} {sl_teller : Array (Option Value)} {oc_teller kV_teller dc_teller pm_teller ct_teller : Value}
    (a_Pour : W.nsIn K mainGlobals "Pour" = some (some (.ref C_Pour)))
    (pg_Pour : PySem.W.plainGet K C_Pour Str.empty = true)
    (hd_Pour : PySem.W.hasDictIn K C_Pour = true)
    (po_Pour : PySem.W.plainOver K C_Pour = true)
    (sa_Pour : W.findIn K (.ref C_Pour) "__setattr__" = some (some (.builtin "object.__setattr__")))
    (mk_Pour : PySem.W.makesIn K C_Pour = true)
    (kc_Pour : W.keepIn K (.ref C_Pour) = true)
    (n_Pour_asker : W.findIn K (.ref C_Pour) "asker" = some none)
    (n_Pour_pieces : W.findIn K (.ref C_Pour) "pieces" = some none)
    (n_Pour_taken : W.findIn K (.ref C_Pour) "taken" = some none)
    (n_Pour_meetings : W.findIn K (.ref C_Pour) "meetings" = some none)
    (n_Pour_went_on : W.findIn K (.ref C_Pour) "went_on" = some none)
    (a_Pour_front_of : W.findIn K (.ref C_Pour) "front_of" = some (some (.ref f_Pour_front_of)))
    (i_Pour_front_of : PySem.W.isFn K (.ref f_Pour_front_of) = true)
    (l_Pour_front_of : K.lookup f_Pour_front_of = some ⟨oc_Pour_front_of, od_Pour_front_of, .func (W.fnOf "front_of" "Pour.front_of" (ZAQ ZAo) (ZAL ZAo) (ZAC ZAo) .none kV_Pour_front_of dc_Pour_front_of pm_Pour_front_of an_Pour_front_of cd_Pour_front_of ct_Pour_front_of), sl_Pour_front_of⟩)
    (c_Pour_front_of : W.codeIn K cd_Pour_front_of "Pour.front_of" = true)
    (k_Pour_front_of : W.keepIn K (.ref f_Pour_front_of) = true)
    (a_Pour_goes_on : W.findIn K (.ref C_Pour) "goes_on" = some (some (.ref f_Pour_goes_on)))
    (i_Pour_goes_on : PySem.W.isFn K (.ref f_Pour_goes_on) = true)
    (l_Pour_goes_on : K.lookup f_Pour_goes_on = some ⟨oc_Pour_goes_on, od_Pour_goes_on, .func (W.fnOf "goes_on" "Pour.goes_on" (ZAQ ZAx) (ZAL ZAx) (ZAC ZAx) .none kV_Pour_goes_on dc_Pour_goes_on pm_Pour_goes_on an_Pour_goes_on cd_Pour_goes_on ct_Pour_goes_on), sl_Pour_goes_on⟩)
    (c_Pour_goes_on : W.codeIn K cd_Pour_goes_on "Pour.goes_on" = true)
    (k_Pour_goes_on : W.keepIn K (.ref f_Pour_goes_on) = true)
    (a_Pour_met : W.findIn K (.ref C_Pour) "met" = some (some (.ref f_Pour_met)))
    (i_Pour_met : PySem.W.isFn K (.ref f_Pour_met) = true)
    (l_Pour_met : K.lookup f_Pour_met = some ⟨oc_Pour_met, od_Pour_met, .func (W.fnOf "met" "Pour.met" (ZAQ ZBQ) (ZAL ZBQ) (ZAC ZBQ) .none kV_Pour_met dc_Pour_met pm_Pour_met an_Pour_met cd_Pour_met ct_Pour_met), sl_Pour_met⟩)
    (c_Pour_met : W.codeIn K cd_Pour_met "Pour.met" = true)
    (k_Pour_met : W.keepIn K (.ref f_Pour_met) = true)
    (a_Pour_held : W.findIn K (.ref C_Pour) "held" = some (some (.ref f_Pour_held)))
    (i_Pour_held : PySem.W.isFn K (.ref f_Pour_held) = true)
    (l_Pour_held : K.lookup f_Pour_held = some ⟨oc_Pour_held, od_Pour_held, .func (W.fnOf "held" "Pour.held" (ZAQ ZBI) (ZAL ZBI) (ZAC ZBI) .none kV_Pour_held dc_Pour_held pm_Pour_held an_Pour_held cd_Pour_held ct_Pour_held), sl_Pour_held⟩)
    (c_Pour_held : W.codeIn K cd_Pour_held "Pour.held" = true)
    (k_Pour_held : W.keepIn K (.ref f_Pour_held) = true)
    (a_Pour_top : W.findIn K (.ref C_Pour) "top" = some (some (.ref f_Pour_top)))
    (i_Pour_top : PySem.W.isFn K (.ref f_Pour_top) = true)
    (l_Pour_top : K.lookup f_Pour_top = some ⟨oc_Pour_top, od_Pour_top, .func (W.fnOf "top" "Pour.top" (ZAQ ZBP) (ZAL ZBP) (ZAC ZBP) .none kV_Pour_top dc_Pour_top pm_Pour_top an_Pour_top cd_Pour_top ct_Pour_top), sl_Pour_top⟩)
    (c_Pour_top : W.codeIn K cd_Pour_top "Pour.top" = true)
    (k_Pour_top : W.keepIn K (.ref f_Pour_top) = true)
    (a_Pour_first : W.findIn K (.ref C_Pour) "first" = some (some (.ref f_Pour_first)))
    (i_Pour_first : PySem.W.isFn K (.ref f_Pour_first) = true)
    (l_Pour_first : K.lookup f_Pour_first = some ⟨oc_Pour_first, od_Pour_first, .func (W.fnOf "first" "Pour.first" (ZAQ ZA7) (ZAL ZA7) (ZAC ZA7) .none kV_Pour_first dc_Pour_first pm_Pour_first an_Pour_first cd_Pour_first ct_Pour_first), sl_Pour_first⟩)
    (c_Pour_first : W.codeIn K cd_Pour_first "Pour.first" = true)
    (k_Pour_first : W.keepIn K (.ref f_Pour_first) = true)
    (a_Pour_init : W.findIn K (.ref C_Pour) "__init__" = some (some (.ref f_Pour_init)))
    (i_Pour_init : PySem.W.isFn K (.ref f_Pour_init) = true)
    (l_Pour_init : K.lookup f_Pour_init = some ⟨oc_Pour_init, od_Pour_init, .func (W.fnOf "__init__" "Pour.__init__" (ZAQ ZBH) (ZAL ZBH) (ZAC ZBH) .none kV_Pour_init dc_Pour_init pm_Pour_init an_Pour_init cd_Pour_init ct_Pour_init), sl_Pour_init⟩)
    (c_Pour_init : W.codeIn K cd_Pour_init "Pour.__init__" = true)
    (k_Pour_init : W.keepIn K (.ref f_Pour_init) = true)
    (a_Pour_take : W.findIn K (.ref C_Pour) "take" = some (some (.ref f_Pour_take)))
    (i_Pour_take : PySem.W.isFn K (.ref f_Pour_take) = true)
    (l_Pour_take : K.lookup f_Pour_take = some ⟨oc_Pour_take, od_Pour_take, .func (W.fnOf "take" "Pour.take" (ZAQ ZBF) (ZAL ZBF) (ZAC ZBF) .none kV_Pour_take dc_Pour_take pm_Pour_take an_Pour_take cd_Pour_take ct_Pour_take), sl_Pour_take⟩)
    (c_Pour_take : W.codeIn K cd_Pour_take "Pour.take" = true)
    (k_Pour_take : W.keepIn K (.ref f_Pour_take) = true)
    (a_Pour_left : W.findIn K (.ref C_Pour) "left" = some (some (.ref f_Pour_left)))
    (i_Pour_left : PySem.W.isFn K (.ref f_Pour_left) = true)
    (l_Pour_left : K.lookup f_Pour_left = some ⟨oc_Pour_left, od_Pour_left, .func (W.fnOf "left" "Pour.left" (ZAQ ZBG) (ZAL ZBG) (ZAC ZBG) .none kV_Pour_left dc_Pour_left pm_Pour_left an_Pour_left cd_Pour_left ct_Pour_left), sl_Pour_left⟩)
    (c_Pour_left : W.codeIn K cd_Pour_left "Pour.left" = true)
    (k_Pour_left : W.keepIn K (.ref f_Pour_left) = true)
    (a_LastPour : W.nsIn K mainGlobals "LastPour" = some (some (.ref C_LastPour)))
    (pg_LastPour : PySem.W.plainGet K C_LastPour Str.empty = true)
    (hd_LastPour : PySem.W.hasDictIn K C_LastPour = true)
    (po_LastPour : PySem.W.plainOver K C_LastPour = true)
    (sa_LastPour : W.findIn K (.ref C_LastPour) "__setattr__" = some (some (.builtin "object.__setattr__")))
    (mk_LastPour : PySem.W.makesIn K C_LastPour = true)
    (kc_LastPour : W.keepIn K (.ref C_LastPour) = true)
    (n_LastPour_asker : W.findIn K (.ref C_LastPour) "asker" = some none)
    (n_LastPour_pieces : W.findIn K (.ref C_LastPour) "pieces" = some none)
    (n_LastPour_taken : W.findIn K (.ref C_LastPour) "taken" = some none)
    (n_LastPour_meetings : W.findIn K (.ref C_LastPour) "meetings" = some none)
    (n_LastPour_went_on : W.findIn K (.ref C_LastPour) "went_on" = some none)
    (a_LastPour_front_of : W.findIn K (.ref C_LastPour) "front_of" = some (some (.ref f_LastPour_front_of)))
    (i_LastPour_front_of : PySem.W.isFn K (.ref f_LastPour_front_of) = true)
    (l_LastPour_front_of : K.lookup f_LastPour_front_of = some ⟨oc_LastPour_front_of, od_LastPour_front_of, .func (W.fnOf "front_of" "LastPour.front_of" (ZAQ ZAc) (ZAL ZAc) (ZAC ZAc) .none kV_LastPour_front_of dc_LastPour_front_of pm_LastPour_front_of an_LastPour_front_of cd_LastPour_front_of ct_LastPour_front_of), sl_LastPour_front_of⟩)
    (c_LastPour_front_of : W.codeIn K cd_LastPour_front_of "LastPour.front_of" = true)
    (k_LastPour_front_of : W.keepIn K (.ref f_LastPour_front_of) = true)
    (a_LastPour_goes_on : W.findIn K (.ref C_LastPour) "goes_on" = some (some (.ref f_LastPour_goes_on)))
    (i_LastPour_goes_on : PySem.W.isFn K (.ref f_LastPour_goes_on) = true)
    (l_LastPour_goes_on : K.lookup f_LastPour_goes_on = some ⟨oc_LastPour_goes_on, od_LastPour_goes_on, .func (W.fnOf "goes_on" "LastPour.goes_on" (ZAQ ZAe) (ZAL ZAe) (ZAC ZAe) .none kV_LastPour_goes_on dc_LastPour_goes_on pm_LastPour_goes_on an_LastPour_goes_on cd_LastPour_goes_on ct_LastPour_goes_on), sl_LastPour_goes_on⟩)
    (c_LastPour_goes_on : W.codeIn K cd_LastPour_goes_on "LastPour.goes_on" = true)
    (k_LastPour_goes_on : W.keepIn K (.ref f_LastPour_goes_on) = true)
    (a_LastPour_met : W.findIn K (.ref C_LastPour) "met" = some (some (.ref f_Pour_met)))
    (a_LastPour_held : W.findIn K (.ref C_LastPour) "held" = some (some (.ref f_Pour_held)))
    (a_LastPour_top : W.findIn K (.ref C_LastPour) "top" = some (some (.ref f_Pour_top)))
    (a_LastPour_first : W.findIn K (.ref C_LastPour) "first" = some (some (.ref f_Pour_first)))
    (a_LastPour_init : W.findIn K (.ref C_LastPour) "__init__" = some (some (.ref f_Pour_init)))
    (a_LastPour_take : W.findIn K (.ref C_LastPour) "take" = some (some (.ref f_Pour_take)))
    (a_LastPour_left : W.findIn K (.ref C_LastPour) "left" = some (some (.ref f_Pour_left)))
    (a_Asker : W.nsIn K mainGlobals "Asker" = some (some (.ref C_Asker)))
    (pg_Asker : PySem.W.plainGet K C_Asker Str.empty = true)
    (hd_Asker : PySem.W.hasDictIn K C_Asker = true)
    (po_Asker : PySem.W.plainOver K C_Asker = true)
    (sa_Asker : W.findIn K (.ref C_Asker) "__setattr__" = some (some (.builtin "object.__setattr__")))
    (mk_Asker : PySem.W.makesIn K C_Asker = true)
    (kc_Asker : W.keepIn K (.ref C_Asker) = true)
    (n_Asker_row : W.findIn K (.ref C_Asker) "row" = some none)
    (n_Asker_rule : W.findIn K (.ref C_Asker) "rule" = some none)
    (n_Asker_most : W.findIn K (.ref C_Asker) "most" = some none)
    (n_Asker_asked : W.findIn K (.ref C_Asker) "asked" = some none)
    (n_Asker_told : W.findIn K (.ref C_Asker) "told" = some none)
    (a_Asker_init : W.findIn K (.ref C_Asker) "__init__" = some (some (.ref f_Asker_init)))
    (i_Asker_init : PySem.W.isFn K (.ref f_Asker_init) = true)
    (l_Asker_init : K.lookup f_Asker_init = some ⟨oc_Asker_init, od_Asker_init, .func (W.fnOf "__init__" "Asker.__init__" (ZAQ ZA8) (ZAL ZA8) (ZAC ZA8) (.ref T_Asker_init) kV_Asker_init dc_Asker_init pm_Asker_init an_Asker_init cd_Asker_init ct_Asker_init), sl_Asker_init⟩)
    (c_Asker_init : W.codeIn K cd_Asker_init "Asker.__init__" = true)
    (d_Asker_init : K.lookup T_Asker_init = some ⟨ocT_Asker_init, odT_Asker_init, .seq ([.none] : List Value).toArray nT_Asker_init, slT_Asker_init⟩)
    (k_Asker_init : W.keepIn K (.ref f_Asker_init) = true)
    (a_Asker_ahead : W.findIn K (.ref C_Asker) "ahead" = some (some (.ref f_Asker_ahead)))
    (i_Asker_ahead : PySem.W.isFn K (.ref f_Asker_ahead) = true)
    (l_Asker_ahead : K.lookup f_Asker_ahead = some ⟨oc_Asker_ahead, od_Asker_ahead, .func (W.fnOf "ahead" "Asker.ahead" (ZAQ ZA1) (ZAL ZA1) (ZAC ZA1) .none kV_Asker_ahead dc_Asker_ahead pm_Asker_ahead an_Asker_ahead cd_Asker_ahead ct_Asker_ahead), sl_Asker_ahead⟩)
    (c_Asker_ahead : W.codeIn K cd_Asker_ahead "Asker.ahead" = true)
    (k_Asker_ahead : W.keepIn K (.ref f_Asker_ahead) = true)
    (a_AskedRule : W.nsIn K mainGlobals "AskedRule" = some (some (.ref C_AskedRule)))
    (pg_AskedRule : PySem.W.plainGet K C_AskedRule Str.empty = true)
    (hd_AskedRule : PySem.W.hasDictIn K C_AskedRule = true)
    (po_AskedRule : PySem.W.plainOver K C_AskedRule = true)
    (sa_AskedRule : W.findIn K (.ref C_AskedRule) "__setattr__" = some (some (.builtin "object.__setattr__")))
    (mk_AskedRule : PySem.W.makesIn K C_AskedRule = true)
    (kc_AskedRule : W.keepIn K (.ref C_AskedRule) = true)
    (n_AskedRule_teller : W.findIn K (.ref C_AskedRule) "teller" = some none)
    (a_AskedRule_init : W.findIn K (.ref C_AskedRule) "__init__" = some (some (.ref f_AskedRule_init)))
    (i_AskedRule_init : PySem.W.isFn K (.ref f_AskedRule_init) = true)
    (l_AskedRule_init : K.lookup f_AskedRule_init = some ⟨oc_AskedRule_init, od_AskedRule_init, .func (W.fnOf "__init__" "AskedRule.__init__" (ZAQ ZAk) (ZAL ZAk) (ZAC ZAk) .none kV_AskedRule_init dc_AskedRule_init pm_AskedRule_init an_AskedRule_init cd_AskedRule_init ct_AskedRule_init), sl_AskedRule_init⟩)
    (c_AskedRule_init : W.codeIn K cd_AskedRule_init "AskedRule.__init__" = true)
    (k_AskedRule_init : W.keepIn K (.ref f_AskedRule_init) = true)
    (a_AskedRule_before : W.findIn K (.ref C_AskedRule) "before" = some (some (.ref f_AskedRule_before)))
    (i_AskedRule_before : PySem.W.isFn K (.ref f_AskedRule_before) = true)
    (l_AskedRule_before : K.lookup f_AskedRule_before = some ⟨oc_AskedRule_before, od_AskedRule_before, .func (W.fnOf "before" "AskedRule.before" (ZAQ ZAf) (ZAL ZAf) (ZAC ZAf) .none kV_AskedRule_before dc_AskedRule_before pm_AskedRule_before an_AskedRule_before cd_AskedRule_before ct_AskedRule_before), sl_AskedRule_before⟩)
    (c_AskedRule_before : W.codeIn K cd_AskedRule_before "AskedRule.before" = true)
    (k_AskedRule_before : W.keepIn K (.ref f_AskedRule_before) = true)
    (a_cell_at : W.nsIn K mainGlobals "_law_cell_at" = some (some (.ref f_cell_at)))
    (l_cell_at : K.lookup f_cell_at = some ⟨oc_cell_at, od_cell_at, .func (W.fnOf "_law_cell_at" "_law_cell_at" (ZAQ ZBd) (ZAL ZBd) (ZAC ZBd) .none kV_cell_at dc_cell_at pm_cell_at an_cell_at cd_cell_at ct_cell_at), sl_cell_at⟩)
    (c_cell_at : W.codeIn K cd_cell_at "_law_cell_at" = true)
    (k_cell_at : W.keepIn K (.ref f_cell_at) = true)
    (a_stream : W.nsIn K mainGlobals "_law_stream" = some (some (.ref f_stream)))
    (l_stream : K.lookup f_stream = some ⟨oc_stream, od_stream, .func (W.fnOf "_law_stream" "_law_stream" (ZAQ ZB3) (ZAL ZB3) (ZAC ZB3) .none kV_stream dc_stream pm_stream an_stream cd_stream ct_stream), sl_stream⟩)
    (c_stream : W.codeIn K cd_stream "_law_stream" = true)
    (k_stream : W.keepIn K (.ref f_stream) = true)
    (a_blocks : W.nsIn K mainGlobals "_law_blocks" = some (some (.ref f_blocks)))
    (l_blocks : K.lookup f_blocks = some ⟨oc_blocks, od_blocks, .func (W.fnOf "_law_blocks" "_law_blocks" (ZAQ ZB6) (ZAL ZB6) (ZAC ZB6) .none kV_blocks dc_blocks pm_blocks an_blocks cd_blocks ct_blocks), sl_blocks⟩)
    (c_blocks : W.codeIn K cd_blocks "_law_blocks" = true)
    (k_blocks : W.keepIn K (.ref f_blocks) = true)
    (a_nearly : W.nsIn K mainGlobals "_law_nearly" = some (some (.ref f_nearly)))
    (l_nearly : K.lookup f_nearly = some ⟨oc_nearly, od_nearly, .func (W.fnOf "_law_nearly" "_law_nearly" (ZAQ ZB4) (ZAL ZB4) (ZAC ZB4) .none kV_nearly dc_nearly pm_nearly an_nearly cd_nearly ct_nearly), sl_nearly⟩)
    (c_nearly : W.codeIn K cd_nearly "_law_nearly" = true)
    (k_nearly : W.keepIn K (.ref f_nearly) = true)
    (a_digits : W.nsIn K mainGlobals "_law_digits" = some (some (.ref f_digits)))
    (l_digits : K.lookup f_digits = some ⟨oc_digits, od_digits, .func (W.fnOf "_law_digits" "_law_digits" (ZAQ ZB5) (ZAL ZB5) (ZAC ZB5) .none kV_digits dc_digits pm_digits an_digits cd_digits ct_digits), sl_digits⟩)
    (c_digits : W.codeIn K cd_digits "_law_digits" = true)
    (k_digits : W.keepIn K (.ref f_digits) = true)
    (a_keys : W.nsIn K mainGlobals "_law_keys" = some (some (.ref f_keys)))
    (l_keys : K.lookup f_keys = some ⟨oc_keys, od_keys, .func (W.fnOf "_law_keys" "_law_keys" (ZAQ ZC7) (ZAL ZC7) (ZAC ZC7) .none kV_keys dc_keys pm_keys an_keys cd_keys ct_keys), sl_keys⟩)
    (c_keys : W.codeIn K cd_keys "_law_keys" = true)
    (k_keys : W.keepIn K (.ref f_keys) = true)
    (a_meetings_of : W.nsIn K mainGlobals "meetings_of" = some (some (.ref f_meetings_of)))
    (l_meetings_of : K.lookup f_meetings_of = some ⟨oc_meetings_of, od_meetings_of, .func (W.fnOf "meetings_of" "meetings_of" (ZAQ ZA0) (ZAL ZA0) (ZAC ZA0) .none kV_meetings_of dc_meetings_of pm_meetings_of an_meetings_of cd_meetings_of ct_meetings_of), sl_meetings_of⟩)
    (c_meetings_of : W.codeIn K cd_meetings_of "meetings_of" = true)
    (k_meetings_of : W.keepIn K (.ref f_meetings_of) = true)
    (a_dealt : W.nsIn K mainGlobals "_law_dealt" = some (some (.ref f_dealt)))
    (l_dealt : K.lookup f_dealt = some ⟨oc_dealt, od_dealt, .func (W.fnOf "_law_dealt" "_law_dealt" (ZAQ ZCX) (ZAL ZCX) (ZAC ZCX) .none kV_dealt dc_dealt pm_dealt an_dealt cd_dealt ct_dealt), sl_dealt⟩)
    (c_dealt : W.codeIn K cd_dealt "_law_dealt" = true)
    (k_dealt : W.keepIn K (.ref f_dealt) = true)
    (a_spans : W.nsIn K mainGlobals "_law_spans" = some (some (.ref f_spans)))
    (l_spans : K.lookup f_spans = some ⟨oc_spans, od_spans, .func (W.fnOf "_law_spans" "_law_spans" (ZAQ ZCW) (ZAL ZCW) (ZAC ZCW) .none kV_spans dc_spans pm_spans an_spans cd_spans ct_spans), sl_spans⟩)
    (c_spans : W.codeIn K cd_spans "_law_spans" = true)
    (k_spans : W.keepIn K (.ref f_spans) = true)
    (a_from : W.nsIn K mainGlobals "_law_from" = some (some (.ref f_from)))
    (l_from : K.lookup f_from = some ⟨oc_from, od_from, .func (W.fnOf "_law_from" "_law_from" (ZAQ ZC9) (ZAL ZC9) (ZAC ZC9) .none kV_from dc_from pm_from an_from cd_from ct_from), sl_from⟩)
    (c_from : W.codeIn K cd_from "_law_from" = true)
    (k_from : W.keepIn K (.ref f_from) = true)
    (a_held : W.nsIn K mainGlobals "_law_held" = some (some (.ref f_held)))
    (l_held : K.lookup f_held = some ⟨oc_held, od_held, .func (W.fnOf "_law_held" "_law_held" (ZAQ ZC8) (ZAL ZC8) (ZAC ZC8) .none kV_held dc_held pm_held an_held cd_held ct_held), sl_held⟩)
    (c_held : W.codeIn K cd_held "_law_held" = true)
    (k_held : W.keepIn K (.ref f_held) = true)
    (a_walked : W.nsIn K mainGlobals "_law_walked" = some (some (.ref f_walked)))
    (l_walked : K.lookup f_walked = some ⟨oc_walked, od_walked, .func (W.fnOf "_law_walked" "_law_walked" (ZAQ ZB2) (ZAL ZB2) (ZAC ZB2) .none kV_walked dc_walked pm_walked an_walked cd_walked ct_walked), sl_walked⟩)
    (c_walked : W.codeIn K cd_walked "_law_walked" = true)
    (k_walked : W.keepIn K (.ref f_walked) = true)
    (a_bits : W.nsIn K mainGlobals "_law_bits" = some (some (.ref f_bits)))
    (l_bits : K.lookup f_bits = some ⟨oc_bits, od_bits, .func (W.fnOf "_law_bits" "_law_bits" (ZAQ ZDA) (ZAL ZDA) (ZAC ZDA) .none kV_bits dc_bits pm_bits an_bits cd_bits ct_bits), sl_bits⟩)
    (c_bits : W.codeIn K cd_bits "_law_bits" = true)
    (k_bits : W.keepIn K (.ref f_bits) = true)
    (a_law : W.nsIn K mainGlobals "law" = some (some (.ref f_law)))
    (l_law : K.lookup f_law = some ⟨oc_law, od_law, .func (W.fnOf "law" "law" (ZAQ ZDJ) (ZAL ZDJ) (ZAC ZDJ) .none kV_law dc_law pm_law an_law cd_law ct_law), sl_law⟩)
    (c_law : W.codeIn K cd_law "law" = true)
    (k_law : W.keepIn K (.ref f_law) = true)
    (a_teller : W.nsIn K mainGlobals "_law_teller" = some (some (.ref f_teller)))
    (l_teller : K.lookup f_teller = some ⟨oc_teller, od_teller, .func (W.fnOf "_law_teller" "_law_teller" (ZAQ ZBm) (ZAL ZBm) (ZAC ZBm) .none kV_teller dc_teller pm_teller an_teller (.ref cc_teller) ct_teller), sl_teller⟩)
    (c_teller : W.codeIn K (.ref cc_teller) "_law_teller" = true)
    (lc_teller : K.lookup cc_teller = some ⟨oc2_teller, od2_teller, .fields vs_teller, sl2_teller⟩)
    (tp_teller : vs_teller[11]? = some (.ref Pt_teller))
    (k_teller : W.keepIn K (.ref f_teller) = true)
    (z_len : W.nsIn K mainGlobals "len" = some none)
    (z_range : W.nsIn K mainGlobals "range" = some none)
    (z_list : W.nsIn K mainGlobals "list" = some none)
    (z_max : W.nsIn K mainGlobals "max" = some none)
    (z_min : W.nsIn K mainGlobals "min" = some none)
    (z_sum : W.nsIn K mainGlobals "sum" = some none)
    (z_sorted : W.nsIn K mainGlobals "sorted" = some none)
    (z_reversed : W.nsIn K mainGlobals "reversed" = some none)
    (z_enumerate : W.nsIn K mainGlobals "enumerate" = some none)
    (z_dict : W.nsIn K mainGlobals "dict" = some none)
    (z_ValueError : W.nsIn K mainGlobals "ValueError" = some none)
    (kit_int_bool : PySem.W.kitOne K (.type "int") (.type "bool") = some false)
    (nt : PySem.W.noTabs K = true) :
    ∃ (tabs : List (Addr × Addr)) (fd : FuncData), PySem.W.noTabs K = true /\ (∀ t ∈ tabs, ∃ y ∈ (["_law_teller"] : List Str), PySem.W.tabIn K y = some t) /\ (∀ (s : Shared) (v : Value), BindsTo s fd ⟨[v], []⟩ [("_law_script", v)]) /\ ∀ base : Heap, K.In base -> base.Ns mainGlobals mg -> (∀ t ∈ tabs, PySem.W.CodeHd base t.1 t.2) -> ZDd mg base -> FnOk l.prog w K mg base CX0 12 fa fd ["_law_script"] (ZEJ K tabs) := by
  have e := hfa.symm.trans (PySem.W.mg_of X G a_law)
  cases e
  have cl_Pour : Cls K C_Pour := ⟨pg_Pour, hd_Pour, po_Pour, sa_Pour⟩
  have F_Pour_front_of := ZAl (st := ZAo) l_Pour_front_of c_Pour_front_of k_Pour_front_of
  have b_Pour_front_of := F_Pour_front_of.binds (ps := ["self", "piece", "taken"]) fun _ _ _ _ _ _ us hl => by obtain ⟨_, _, _, rfl⟩ := us3 hl; rfl
  have F_Pour_goes_on := ZAl (st := ZAx) l_Pour_goes_on c_Pour_goes_on k_Pour_goes_on
  have b_Pour_goes_on := F_Pour_goes_on.binds (ps := ["self", "p", "q"]) fun _ _ _ _ _ _ us hl => by obtain ⟨_, _, _, rfl⟩ := us3 hl; rfl
  have F_Pour_met := ZAl (st := ZBQ) l_Pour_met c_Pour_met k_Pour_met
  have b_Pour_met := F_Pour_met.binds (ps := ["self", "one", "other"]) fun _ _ _ _ _ _ us hl => by obtain ⟨_, _, _, rfl⟩ := us3 hl; rfl
  have F_Pour_held := ZAl (st := ZBI) l_Pour_held c_Pour_held k_Pour_held
  have b_Pour_held := F_Pour_held.binds (ps := ["self", "meetings", "went_on"]) fun _ _ _ _ _ _ us hl => by obtain ⟨_, _, _, rfl⟩ := us3 hl; rfl
  have F_Pour_top := ZAl (st := ZBP) l_Pour_top c_Pour_top k_Pour_top
  have b_Pour_top := F_Pour_top.binds (ps := ["self"]) fun _ _ _ _ _ _ us hl => by obtain ⟨_, rfl⟩ := us1 hl; rfl
  have F_Pour_first := ZAl (st := ZA7) l_Pour_first c_Pour_first k_Pour_first
  have b_Pour_first := F_Pour_first.binds (ps := ["self"]) fun _ _ _ _ _ _ us hl => by obtain ⟨_, rfl⟩ := us1 hl; rfl
  have F_Pour_init := ZAl (st := ZBH) l_Pour_init c_Pour_init k_Pour_init
  have b_Pour_init := F_Pour_init.binds (ps := ["self", "asker", "pieces"]) fun _ _ _ _ _ _ us hl => by obtain ⟨_, _, _, rfl⟩ := us3 hl; rfl
  have F_Pour_take := ZAl (st := ZBF) l_Pour_take c_Pour_take k_Pour_take
  have b_Pour_take := F_Pour_take.binds (ps := ["self"]) fun _ _ _ _ _ _ us hl => by obtain ⟨_, rfl⟩ := us1 hl; rfl
  have F_Pour_left := ZAl (st := ZBG) l_Pour_left c_Pour_left k_Pour_left
  have b_Pour_left := F_Pour_left.binds (ps := ["self"]) fun _ _ _ _ _ _ us hl => by obtain ⟨_, rfl⟩ := us1 hl; rfl
  have TX_Pour : BtX K C_Pour := ⟨cl_Pour, n_Pour_asker, n_Pour_pieces, n_Pour_taken, n_Pour_meetings, n_Pour_went_on⟩
  have cl_LastPour : Cls K C_LastPour := ⟨pg_LastPour, hd_LastPour, po_LastPour, sa_LastPour⟩
  have F_LastPour_front_of := ZAl (st := ZAc) l_LastPour_front_of c_LastPour_front_of k_LastPour_front_of
  have b_LastPour_front_of := F_LastPour_front_of.binds (ps := ["self", "piece", "taken"]) fun _ _ _ _ _ _ us hl => by obtain ⟨_, _, _, rfl⟩ := us3 hl; rfl
  have F_LastPour_goes_on := ZAl (st := ZAe) l_LastPour_goes_on c_LastPour_goes_on k_LastPour_goes_on
  have b_LastPour_goes_on := F_LastPour_goes_on.binds (ps := ["self", "p", "q"]) fun _ _ _ _ _ _ us hl => by obtain ⟨_, _, _, rfl⟩ := us3 hl; rfl
  have TX_LastPour : BtX K C_LastPour := ⟨cl_LastPour, n_LastPour_asker, n_LastPour_pieces, n_LastPour_taken, n_LastPour_meetings, n_LastPour_went_on⟩
  have cl_Asker : Cls K C_Asker := ⟨pg_Asker, hd_Asker, po_Asker, sa_Asker⟩
  have F_Asker_init := funD_mk (st := ZA8) l_Asker_init c_Asker_init k_Asker_init d_Asker_init
  have b_Asker_init_4 := F_Asker_init.binds (ps := ["self", "row", "rule", "most"]) (ds := []) fun _ _ _ _ _ _ _ us hl => match us, us_len (n := 4) hl rfl with | [_, _, _, _], _ => ⟨_, rfl, rfl⟩
  have b_Asker_init_3 := F_Asker_init.binds (ps := ["self", "row", "rule", "most"]) (ds := [.none]) fun _ _ _ _ _ _ _ us hl => match us, us_len (n := 3) hl rfl with | [_, _, _], _ => ⟨_, rfl, rfl⟩
  have F_Asker_ahead := ZAl (st := ZA1) l_Asker_ahead c_Asker_ahead k_Asker_ahead
  have b_Asker_ahead := F_Asker_ahead.binds (ps := ["self", "p", "q"]) fun _ _ _ _ _ _ us hl => by obtain ⟨_, _, _, rfl⟩ := us3 hl; rfl
  have cl_AskedRule : Cls K C_AskedRule := ⟨pg_AskedRule, hd_AskedRule, po_AskedRule, sa_AskedRule⟩
  have F_AskedRule_init := ZAl (st := ZAk) l_AskedRule_init c_AskedRule_init k_AskedRule_init
  have b_AskedRule_init := F_AskedRule_init.binds (ps := ["self", "teller"]) fun _ _ _ _ _ _ us hl => by obtain ⟨_, _, rfl⟩ := us2 hl; rfl
  have F_AskedRule_before := ZAl (st := ZAf) l_AskedRule_before c_AskedRule_before k_AskedRule_before
  have b_AskedRule_before := F_AskedRule_before.binds (ps := ["self", "x", "y"]) fun _ _ _ _ _ _ us hl => by obtain ⟨_, _, _, rfl⟩ := us3 hl; rfl
  have F_cell_at := ZAl (st := ZBd) l_cell_at c_cell_at k_cell_at
  have b_cell_at := F_cell_at.binds (ps := ["_law_script", "_law_k"]) fun _ _ _ _ _ _ us hl => by obtain ⟨_, _, rfl⟩ := us2 hl; rfl
  have F_stream := ZAl (st := ZB3) l_stream c_stream k_stream
  have b_stream := F_stream.binds (ps := ["_law_cell", "_law_many"]) fun _ _ _ _ _ _ us hl => by obtain ⟨_, _, rfl⟩ := us2 hl; rfl
  have F_blocks := ZAl (st := ZB6) l_blocks c_blocks k_blocks
  have b_blocks := F_blocks.binds (ps := ["_law_keys_here", "_law_cell"]) fun _ _ _ _ _ _ us hl => by obtain ⟨_, _, rfl⟩ := us2 hl; rfl
  have F_nearly := ZAl (st := ZB4) l_nearly c_nearly k_nearly
  have b_nearly := F_nearly.binds (ps := ["_law_keys_here", "_law_cell"]) fun _ _ _ _ _ _ us hl => by obtain ⟨_, _, rfl⟩ := us2 hl; rfl
  have F_digits := ZAl (st := ZB5) l_digits c_digits k_digits
  have b_digits := F_digits.binds (ps := ["_law_script", "_law_k", "_law_base"]) fun _ _ _ _ _ _ us hl => by obtain ⟨_, _, _, rfl⟩ := us3 hl; rfl
  have F_keys := ZAl (st := ZC7) l_keys c_keys k_keys
  have b_keys := F_keys.binds (ps := ["_law_script", "_law_most"]) fun _ _ _ _ _ _ us hl => by obtain ⟨_, _, rfl⟩ := us2 hl; rfl
  have F_meetings_of := ZAl (st := ZA0) l_meetings_of c_meetings_of k_meetings_of
  have b_meetings_of := F_meetings_of.binds (ps := ["first", "beyond"]) fun _ _ _ _ _ _ us hl => by obtain ⟨_, _, rfl⟩ := us2 hl; rfl
  have F_dealt := ZAl (st := ZCX) l_dealt c_dealt k_dealt
  have b_dealt := F_dealt.binds (ps := ["_law_keys_here", "_law_script"]) fun _ _ _ _ _ _ us hl => by obtain ⟨_, _, rfl⟩ := us2 hl; rfl
  have F_spans := ZAl (st := ZCW) l_spans c_spans k_spans
  have b_spans := F_spans.binds (ps := ["_law_low", "_law_high"]) fun _ _ _ _ _ _ us hl => by obtain ⟨_, _, rfl⟩ := us2 hl; rfl
  have F_from := ZAl (st := ZC9) l_from c_from k_from
  have b_from := F_from.binds (ps := ["_law_won", "_law_rest", "_law_low", "_law_high", "_law_last"]) fun _ _ _ _ _ _ us hl => by obtain ⟨_, _, _, _, _, rfl⟩ := us5 hl; rfl
  have F_held := ZAl (st := ZC8) l_held c_held k_held
  have b_held := F_held.binds (ps := ["_law_asks", "_law_spans_here", "_law_won", "_law_rest", "_law_last"]) fun _ _ _ _ _ _ us hl => by obtain ⟨_, _, _, _, _, rfl⟩ := us5 hl; rfl
  have F_walked := ZAl (st := ZB2) l_walked c_walked k_walked
  have b_walked := F_walked.binds (ps := ["_law_pour", "_law_log", "_law_spans_here", "_law_rest", "_law_last"]) fun _ _ _ _ _ _ us hl => by obtain ⟨_, _, _, _, _, rfl⟩ := us5 hl; rfl
  have F_bits := ZAl (st := ZDA) l_bits c_bits k_bits
  have b_bits := F_bits.binds (ps := ["_law_script", "_law_mix"]) fun _ _ _ _ _ _ us hl => by obtain ⟨_, _, rfl⟩ := us2 hl; rfl
  have F_law := ZAl (st := ZDJ) l_law c_law k_law
  have b_law := F_law.binds (ps := ["_law_script"]) fun _ _ _ _ _ _ us hl => by obtain ⟨_, rfl⟩ := us1 hl; rfl
  have F_teller := ZAl (st := ZBm) l_teller c_teller k_teller
  have b_teller := F_teller.binds (ps := ["_law_log", "_law_bits_here"]) fun _ _ _ _ _ _ us hl => by obtain ⟨_, _, rfl⟩ := us2 hl; rfl
  have T : Bt K mg C_Pour C_LastPour C_Asker C_AskedRule := ⟨PySem.W.mg_none_of X G z_len, PySem.W.mg_none_of X G z_range, PySem.W.mg_none_of X G z_list, PySem.W.mg_none_of X G z_max, PySem.W.mg_none_of X G z_min, PySem.W.mg_none_of X G z_sum, PySem.W.mg_none_of X G z_sorted, PySem.W.mg_none_of X G z_reversed, PySem.W.mg_none_of X G z_enumerate, PySem.W.mg_none_of X G z_dict, PySem.W.mg_none_of X G z_ValueError, PySem.W.mg_of X G a_Pour, cl_Pour, n_Pour_asker, n_Pour_pieces, n_Pour_taken, n_Pour_meetings, n_Pour_went_on, PySem.W.mg_of X G a_LastPour, cl_LastPour, n_LastPour_asker, n_LastPour_pieces, n_LastPour_taken, n_LastPour_meetings, n_LastPour_went_on, PySem.W.mg_of X G a_Asker, cl_Asker, n_Asker_row, n_Asker_rule, n_Asker_most, n_Asker_asked, n_Asker_told, PySem.W.mg_of X G a_AskedRule, cl_AskedRule, n_AskedRule_teller, kit_int_bool⟩
  refine ⟨[(cc_teller, Pt_teller)], W.fnOf "law" "law" (ZAQ ZDJ) (ZAL ZDJ) (ZAC ZDJ) .none kV_law dc_law pm_law an_law cd_law ct_law, nt, List.forall_mem_cons.mpr ⟨⟨"_law_teller", by simp, tabIn_of a_teller l_teller rfl lc_teller tp_teller⟩, fun _ h => nomatch h⟩, fun s v => .of_eq rfl, fun base _ _ hC hB => ?_⟩
  have f_cell_at' : Fn l.prog w K mg base CX0 "_law_cell_at" 1 ["_law_script", "_law_k"] (ZCp K) := ⟨_, _, ok_cell_at F_cell_at T , b_cell_at, k_cell_at, PySem.W.mg_of X G a_cell_at⟩
  have f_stream' : Fn l.prog w K mg base CX0 "_law_stream" 1 ["_law_cell", "_law_many"] (ZBS) := ⟨_, _, ok_stream F_stream T , b_stream, k_stream, PySem.W.mg_of X G a_stream⟩
  have f_blocks' : Fn l.prog w K mg base CX0 "_law_blocks" 2 ["_law_keys_here", "_law_cell"] (ZBl) := ⟨_, _, ok_blocks F_blocks T f_stream', b_blocks, k_blocks, PySem.W.mg_of X G a_blocks⟩
  have f_nearly' : Fn l.prog w K mg base CX0 "_law_nearly" 2 ["_law_keys_here", "_law_cell"] (ZBl) := ⟨_, _, ok_nearly F_nearly T f_stream', b_nearly, k_nearly, PySem.W.mg_of X G a_nearly⟩
  have f_digits' : Fn l.prog w K mg base CX0 "_law_digits" 2 ["_law_script", "_law_k", "_law_base"] (ZCN K) := ⟨_, _, ok_digits F_digits T f_stream' f_cell_at', b_digits, k_digits, PySem.W.mg_of X G a_digits⟩
  have f_keys' : Fn l.prog w K mg base CX0 "_law_keys" 3 ["_law_script", "_law_most"] (ZEK K) := ⟨_, _, ok_keys F_keys T f_cell_at' f_blocks' f_nearly' f_digits' f_stream', b_keys, k_keys, PySem.W.mg_of X G a_keys⟩
  have f_dealt' : Fn l.prog w K mg base CX0 "_law_dealt" 3 ["_law_keys_here", "_law_script"] (ZCo K) := ⟨_, _, ok_dealt F_dealt T f_cell_at' f_digits' f_stream', b_dealt, k_dealt, PySem.W.mg_of X G a_dealt⟩
  have f_spans' : Fn l.prog w K mg base CX0 "_law_spans" 8 ["_law_low", "_law_high"] (ZCU 8) := ZEO (sp := ZCU) (fun _ _ _ _ z => spSpans_no z) b_spans k_spans (PySem.W.mg_of X G a_spans) (fun n h => ok_spans F_spans T h) 8
  have f_bits' : Fn l.prog w K mg base CX0 "_law_bits" 3 ["_law_script", "_law_mix"] (ZDH K) := ⟨_, _, ok_bits F_bits T f_digits' f_stream' f_cell_at', b_bits, k_bits, PySem.W.mg_of X G a_bits⟩
  have f_from' : Fn l.prog w K mg base CX0 "_law_from" 1 ["_law_won", "_law_rest", "_law_low", "_law_high", "_law_last"] (ZDz) := ⟨_, _, ok_from F_from T , b_from, k_from, PySem.W.mg_of X G a_from⟩
  have f_held' : Fn l.prog w K mg base CX0 "_law_held" 2 ["_law_asks", "_law_spans_here", "_law_won", "_law_rest", "_law_last"] (ZDk) := ⟨_, _, ok_held F_held T f_from', b_held, k_held, PySem.W.mg_of X G a_held⟩
  have t_Pour_top' : Mt l.prog w K mg base CX0 C_Pour "top" 1 ["self"] (ZEI false C_Pour) := ⟨cl_Pour, _, _, ok_Pour_top F_Pour_top T TX_Pour , b_Pour_top, a_Pour_top, i_Pour_top, k_Pour_top⟩
  have t_Pour_first' : Mt l.prog w K mg base CX0 C_Pour "first" 2 ["self"] (ZBk false C_Pour) := ⟨cl_Pour, _, _, ok_Pour_first F_Pour_first T TX_Pour t_Pour_top', b_Pour_first, a_Pour_first, i_Pour_first, k_Pour_first⟩
  have t_LastPour_top' : Mt l.prog w K mg base CX0 C_LastPour "top" 1 ["self"] (ZEI true C_LastPour) := ⟨cl_LastPour, _, _, ok_Pour_top F_Pour_top T TX_LastPour , b_Pour_top, a_LastPour_top, i_Pour_top, k_Pour_top⟩
  have t_LastPour_first' : Mt l.prog w K mg base CX0 C_LastPour "first" 2 ["self"] (ZBk true C_LastPour) := ⟨cl_LastPour, _, _, ok_Pour_first F_Pour_first T TX_LastPour t_LastPour_top', b_Pour_first, a_LastPour_first, i_Pour_first, k_Pour_first⟩
  have t_Pour_left' : Mt l.prog w K mg base CX0 C_Pour "left" 1 ["self"] (ZCd false C_Pour) := ⟨cl_Pour, _, _, ok_Pour_left F_Pour_left T TX_Pour , b_Pour_left, a_Pour_left, i_Pour_left, k_Pour_left⟩
  have t_LastPour_left' : Mt l.prog w K mg base CX0 C_LastPour "left" 1 ["self"] (ZCd true C_LastPour) := ⟨cl_LastPour, _, _, ok_Pour_left F_Pour_left T TX_LastPour , b_Pour_left, a_LastPour_left, i_Pour_left, k_Pour_left⟩
  have t_Pour_front_of' : Mt l.prog w K mg base CX0 C_Pour "front_of" 1 ["self", "piece", "taken"] (ZBc false C_Pour) := ⟨cl_Pour, _, _, ok_Pour_front_of F_Pour_front_of T , b_Pour_front_of, a_Pour_front_of, i_Pour_front_of, k_Pour_front_of⟩
  have clo_teller' : CloOk l.prog w K mg base 1 (ZBB) := clo_teller T
  have t_AskedRule_before' : Mt l.prog w K mg base CX0 C_AskedRule "before" 2 ["self", "x", "y"] (ZCg C_AskedRule ZBB) := ⟨cl_AskedRule, _, _, ok_AskedRule_before F_AskedRule_before T clo_teller', b_AskedRule_before, a_AskedRule_before, i_AskedRule_before, k_AskedRule_before⟩
  have t_Asker_ahead' : Mt l.prog w K mg base CX0 C_Asker "ahead" 3 ["self", "p", "q"] (ZCq C_Asker C_AskedRule ZBB) := ⟨cl_Asker, _, _, ok_Asker_ahead F_Asker_ahead T t_AskedRule_before', b_Asker_ahead, a_Asker_ahead, i_Asker_ahead, k_Asker_ahead⟩
  have t_Pour_goes_on' : Mt l.prog w K mg base CX0 C_Pour "goes_on" 4 ["self", "p", "q"] (ZCM C_Asker C_AskedRule false C_Pour) := ⟨cl_Pour, _, _, ok_Pour_goes_on F_Pour_goes_on T t_Asker_ahead', b_Pour_goes_on, a_Pour_goes_on, i_Pour_goes_on, k_Pour_goes_on⟩
  have t_Pour_met' : Mt l.prog w K mg base CX0 C_Pour "met" 5 ["self", "one", "other"] (ZEe C_Asker C_AskedRule false C_Pour) := ⟨cl_Pour, _, _, ok_Pour_met F_Pour_met T TX_Pour t_Pour_goes_on', b_Pour_met, a_Pour_met, i_Pour_met, k_Pour_met⟩
  have t_Pour_held' : Mt l.prog w K mg base CX0 C_Pour "held" 6 ["self", "meetings", "went_on"] (ZDW C_Asker C_AskedRule false C_Pour) := ⟨cl_Pour, _, _, ok_Pour_held F_Pour_held T TX_Pour t_Pour_met', b_Pour_held, a_Pour_held, i_Pour_held, k_Pour_held⟩
  have t_Pour_take' : Mt l.prog w K mg base CX0 C_Pour "take" 7 ["self"] (ZCc C_Asker C_AskedRule false C_Pour) := ⟨cl_Pour, _, _, ok_Pour_take F_Pour_take T TX_Pour t_Pour_top' t_Pour_front_of' t_Pour_held', b_Pour_take, a_Pour_take, i_Pour_take, k_Pour_take⟩
  have t_LastPour_front_of' : Mt l.prog w K mg base CX0 C_LastPour "front_of" 1 ["self", "piece", "taken"] (ZBc true C_LastPour) := ⟨cl_LastPour, _, _, ok_LastPour_front_of F_LastPour_front_of T , b_LastPour_front_of, a_LastPour_front_of, i_LastPour_front_of, k_LastPour_front_of⟩
  have t_LastPour_goes_on' : Mt l.prog w K mg base CX0 C_LastPour "goes_on" 4 ["self", "p", "q"] (ZCM C_Asker C_AskedRule true C_LastPour) := ⟨cl_LastPour, _, _, ok_LastPour_goes_on F_LastPour_goes_on T t_Asker_ahead', b_LastPour_goes_on, a_LastPour_goes_on, i_LastPour_goes_on, k_LastPour_goes_on⟩
  have t_LastPour_met' : Mt l.prog w K mg base CX0 C_LastPour "met" 5 ["self", "one", "other"] (ZEe C_Asker C_AskedRule true C_LastPour) := ⟨cl_LastPour, _, _, ok_Pour_met F_Pour_met T TX_LastPour t_LastPour_goes_on', b_Pour_met, a_LastPour_met, i_Pour_met, k_Pour_met⟩
  have t_LastPour_held' : Mt l.prog w K mg base CX0 C_LastPour "held" 6 ["self", "meetings", "went_on"] (ZDW C_Asker C_AskedRule true C_LastPour) := ⟨cl_LastPour, _, _, ok_Pour_held F_Pour_held T TX_LastPour t_LastPour_met', b_Pour_held, a_LastPour_held, i_Pour_held, k_Pour_held⟩
  have t_LastPour_take' : Mt l.prog w K mg base CX0 C_LastPour "take" 7 ["self"] (ZCc C_Asker C_AskedRule true C_LastPour) := ⟨cl_LastPour, _, _, ok_Pour_take F_Pour_take T TX_LastPour t_LastPour_top' t_LastPour_front_of' t_LastPour_held', b_Pour_take, a_LastPour_take, i_Pour_take, k_Pour_take⟩
  have f_walked' : Fn l.prog w K mg base CX0 "_law_walked" 8 ["_law_pour", "_law_log", "_law_spans_here", "_law_rest", "_law_last"] (ZDG C_Asker C_AskedRule C_LastPour C_Pour) := ⟨_, _, ok_walked F_walked T f_held' f_from' t_Pour_first' t_LastPour_first' t_Pour_left' t_LastPour_left' t_Pour_take' t_LastPour_take', b_walked, k_walked, PySem.W.mg_of X G a_walked⟩
  have f_teller' : Fn l.prog w K mg base CX0 "_law_teller" 1 ["_law_log", "_law_bits_here"] (ZDy Pt_teller (ZEX ZAM) "_law_teller_here" "_law_teller.<locals>._law_teller_here" (ZAQ ZAM) (ZAL ZAM) (ZAC ZAM) ["_law_bits_here", "_law_log"] [1, 0] 2) := ⟨_, _, ok_teller F_teller rfl (hC (cc_teller, Pt_teller) (by simp)) hB, b_teller, k_teller, PySem.W.mg_of X G a_teller⟩
  have k_Asker_3' : KlD l.prog w K mg base CX0 "Asker" C_Asker 1 ["self", "row", "rule", "most"] (ZCF C_Asker) [.non] := ⟨PySem.W.mg_of X G a_Asker, _, _, _, ok_Asker_init F_Asker_init T , b_Asker_init_3, (.cons rfl .nil), mk_Asker, a_Asker_init, i_Asker_init, kc_Asker⟩
  have k_AskedRule' : Kl l.prog w K mg base CX0 "AskedRule" C_AskedRule 1 ["self", "teller"] (ZCV C_AskedRule) := ⟨PySem.W.mg_of X G a_AskedRule, _, _, ok_AskedRule_init F_AskedRule_init T , b_AskedRule_init, mk_AskedRule, a_AskedRule_init, i_AskedRule_init, kc_AskedRule⟩
  have f_meetings_of' : Fn l.prog w K mg base CX0 "meetings_of" 9 ["first", "beyond"] (ZBO 9) := ZEO (sp := ZBO) (fun _ _ _ _ z => spMeetings_no z) b_meetings_of k_meetings_of (PySem.W.mg_of X G a_meetings_of) (fun n h => ok_meetings_of F_meetings_of T h) 9
  have k_LastPour' : Kl l.prog w K mg base CX0 "LastPour" C_LastPour 10 ["self", "asker", "pieces"] (ZBb C_Asker C_AskedRule true C_LastPour) := ⟨PySem.W.mg_of X G a_LastPour, _, _, ok_Pour_init F_Pour_init T TX_LastPour f_meetings_of' t_LastPour_held' t_LastPour_front_of', b_Pour_init, mk_LastPour, a_LastPour_init, i_Pour_init, kc_LastPour⟩
  have k_Pour' : Kl l.prog w K mg base CX0 "Pour" C_Pour 10 ["self", "asker", "pieces"] (ZBb C_Asker C_AskedRule false C_Pour) := ⟨PySem.W.mg_of X G a_Pour, _, _, ok_Pour_init F_Pour_init T TX_Pour f_meetings_of' t_Pour_held' t_Pour_front_of', b_Pour_init, mk_Pour, a_Pour_init, i_Pour_init, kc_Pour⟩
  exact ok_law F_law T f_keys' f_cell_at' f_dealt' f_spans' f_bits' f_walked' f_teller' k_Asker_3' k_AskedRule' k_LastPour' k_Pour'
end Law
open PySem PySem.W PyProof.Rows
set_option maxRecDepth 100000 in
set_option maxHeartbeats 0 in
theorem PySem.Challenge.cw_sorthall_k69_whole_asks_by_the_tree_holds : PySem.Challenge.rw_sorthall_k69_whole_asks_by_the_tree.Holds := by
  refine L2.hd0 ?_
  k_fill
  refine L2.walk_ofT2 (l := PySem.Challenge.rw_sorthall_k69_whole_asks_by_the_tree) (k := 12) (x := "_law_script") (names := ["_law_teller"]) rfl rfl ⟨rfl, by decide, by decide⟩ (fun w h Y => PySem.W.km_in_of Y) (List.forall_mem_cons.mpr ⟨⟨_, rfl⟩, fun _ h => nomatch h⟩) ?F
  case F =>
    intro w mg fa h KX G hmg
    refine' Law.all_mk KX G hmg ?a_Pour ?pg_Pour ?hd_Pour ?po_Pour ?sa_Pour ?mk_Pour ?kc_Pour ?n_Pour_asker ?n_Pour_pieces ?n_Pour_taken ?n_Pour_meetings ?n_Pour_went_on ?a_Pour_front_of ?i_Pour_front_of ?l_Pour_front_of ?c_Pour_front_of ?k_Pour_front_of ?a_Pour_goes_on ?i_Pour_goes_on ?l_Pour_goes_on ?c_Pour_goes_on ?k_Pour_goes_on ?a_Pour_met ?i_Pour_met ?l_Pour_met ?c_Pour_met ?k_Pour_met ?a_Pour_held ?i_Pour_held ?l_Pour_held ?c_Pour_held ?k_Pour_held ?a_Pour_top ?i_Pour_top ?l_Pour_top ?c_Pour_top ?k_Pour_top ?a_Pour_first ?i_Pour_first ?l_Pour_first ?c_Pour_first ?k_Pour_first ?a_Pour_init ?i_Pour_init ?l_Pour_init ?c_Pour_init ?k_Pour_init ?a_Pour_take ?i_Pour_take ?l_Pour_take ?c_Pour_take ?k_Pour_take ?a_Pour_left ?i_Pour_left ?l_Pour_left ?c_Pour_left ?k_Pour_left ?a_LastPour ?pg_LastPour ?hd_LastPour ?po_LastPour ?sa_LastPour ?mk_LastPour ?kc_LastPour ?n_LastPour_asker ?n_LastPour_pieces ?n_LastPour_taken ?n_LastPour_meetings ?n_LastPour_went_on ?a_LastPour_front_of ?i_LastPour_front_of ?l_LastPour_front_of ?c_LastPour_front_of ?k_LastPour_front_of ?a_LastPour_goes_on ?i_LastPour_goes_on ?l_LastPour_goes_on ?c_LastPour_goes_on ?k_LastPour_goes_on ?a_LastPour_met ?a_LastPour_held ?a_LastPour_top ?a_LastPour_first ?a_LastPour_init ?a_LastPour_take ?a_LastPour_left ?a_Asker ?pg_Asker ?hd_Asker ?po_Asker ?sa_Asker ?mk_Asker ?kc_Asker ?n_Asker_row ?n_Asker_rule ?n_Asker_most ?n_Asker_asked ?n_Asker_told ?a_Asker_init ?i_Asker_init ?l_Asker_init ?c_Asker_init ?d_Asker_init ?k_Asker_init ?a_Asker_ahead ?i_Asker_ahead ?l_Asker_ahead ?c_Asker_ahead ?k_Asker_ahead ?a_AskedRule ?pg_AskedRule ?hd_AskedRule ?po_AskedRule ?sa_AskedRule ?mk_AskedRule ?kc_AskedRule ?n_AskedRule_teller ?a_AskedRule_init ?i_AskedRule_init ?l_AskedRule_init ?c_AskedRule_init ?k_AskedRule_init ?a_AskedRule_before ?i_AskedRule_before ?l_AskedRule_before ?c_AskedRule_before ?k_AskedRule_before ?a_cell_at ?l_cell_at ?c_cell_at ?k_cell_at ?a_stream ?l_stream ?c_stream ?k_stream ?a_blocks ?l_blocks ?c_blocks ?k_blocks ?a_nearly ?l_nearly ?c_nearly ?k_nearly ?a_digits ?l_digits ?c_digits ?k_digits ?a_keys ?l_keys ?c_keys ?k_keys ?a_meetings_of ?l_meetings_of ?c_meetings_of ?k_meetings_of ?a_dealt ?l_dealt ?c_dealt ?k_dealt ?a_spans ?l_spans ?c_spans ?k_spans ?a_from ?l_from ?c_from ?k_from ?a_held ?l_held ?c_held ?k_held ?a_walked ?l_walked ?c_walked ?k_walked ?a_bits ?l_bits ?c_bits ?k_bits ?a_law ?l_law ?c_law ?k_law ?a_teller ?l_teller ?c_teller ?lc_teller ?tp_teller ?k_teller ?z_len ?z_range ?z_list ?z_max ?z_min ?z_sum ?z_sorted ?z_reversed ?z_enumerate ?z_dict ?z_ValueError ?kit_int_bool ?nt
    (case a_Pour => k_is)
    (case pg_Pour => k_is)
    (case hd_Pour => k_is)
    (case po_Pour => k_is)
    (case sa_Pour => k_is)
    (case mk_Pour => k_is)
    (case kc_Pour => k_is)
    (case n_Pour_asker => k_is)
    (case n_Pour_pieces => k_is)
    (case n_Pour_taken => k_is)
    (case n_Pour_meetings => k_is)
    (case n_Pour_went_on => k_is)
    (case a_Pour_front_of => k_is)
    (case i_Pour_front_of => k_is)
    (case l_Pour_front_of => k_is)
    (case c_Pour_front_of => k_is)
    (case k_Pour_front_of => k_is)
    (case a_Pour_goes_on => k_is)
    (case i_Pour_goes_on => k_is)
    (case l_Pour_goes_on => k_is)
    (case c_Pour_goes_on => k_is)
    (case k_Pour_goes_on => k_is)
    (case a_Pour_met => k_is)
    (case i_Pour_met => k_is)
    (case l_Pour_met => k_is)
    (case c_Pour_met => k_is)
    (case k_Pour_met => k_is)
    (case a_Pour_held => k_is)
    (case i_Pour_held => k_is)
    (case l_Pour_held => k_is)
    (case c_Pour_held => k_is)
    (case k_Pour_held => k_is)
    (case a_Pour_top => k_is)
    (case i_Pour_top => k_is)
    (case l_Pour_top => k_is)
    (case c_Pour_top => k_is)
    (case k_Pour_top => k_is)
    (case a_Pour_first => k_is)
    (case i_Pour_first => k_is)
    (case l_Pour_first => k_is)
    (case c_Pour_first => k_is)
    (case k_Pour_first => k_is)
    (case a_Pour_init => k_is)
    (case i_Pour_init => k_is)
    (case l_Pour_init => k_is)
    (case c_Pour_init => k_is)
    (case k_Pour_init => k_is)
    (case a_Pour_take => k_is)
    (case i_Pour_take => k_is)
    (case l_Pour_take => k_is)
    (case c_Pour_take => k_is)
    (case k_Pour_take => k_is)
    (case a_Pour_left => k_is)
    (case i_Pour_left => k_is)
    (case l_Pour_left => k_is)
    (case c_Pour_left => k_is)
    (case k_Pour_left => k_is)
    (case a_LastPour => k_is)
    (case pg_LastPour => k_is)
    (case hd_LastPour => k_is)
    (case po_LastPour => k_is)
    (case sa_LastPour => k_is)
    (case mk_LastPour => k_is)
    (case kc_LastPour => k_is)
    (case n_LastPour_asker => k_is)
    (case n_LastPour_pieces => k_is)
    (case n_LastPour_taken => k_is)
    (case n_LastPour_meetings => k_is)
    (case n_LastPour_went_on => k_is)
    (case a_LastPour_front_of => k_is)
    (case i_LastPour_front_of => k_is)
    (case l_LastPour_front_of => k_is)
    (case c_LastPour_front_of => k_is)
    (case k_LastPour_front_of => k_is)
    (case a_LastPour_goes_on => k_is)
    (case i_LastPour_goes_on => k_is)
    (case l_LastPour_goes_on => k_is)
    (case c_LastPour_goes_on => k_is)
    (case k_LastPour_goes_on => k_is)
    (case a_LastPour_met => k_is)
    (case a_LastPour_held => k_is)
    (case a_LastPour_top => k_is)
    (case a_LastPour_first => k_is)
    (case a_LastPour_init => k_is)
    (case a_LastPour_take => k_is)
    (case a_LastPour_left => k_is)
    (case a_Asker => k_is)
    (case pg_Asker => k_is)
    (case hd_Asker => k_is)
    (case po_Asker => k_is)
    (case sa_Asker => k_is)
    (case mk_Asker => k_is)
    (case kc_Asker => k_is)
    (case n_Asker_row => k_is)
    (case n_Asker_rule => k_is)
    (case n_Asker_most => k_is)
    (case n_Asker_asked => k_is)
    (case n_Asker_told => k_is)
    (case a_Asker_init => k_is)
    (case i_Asker_init => k_is)
    (case l_Asker_init => k_is)
    (case c_Asker_init => k_is)
    (case d_Asker_init => k_is)
    (case k_Asker_init => k_is)
    (case a_Asker_ahead => k_is)
    (case i_Asker_ahead => k_is)
    (case l_Asker_ahead => k_is)
    (case c_Asker_ahead => k_is)
    (case k_Asker_ahead => k_is)
    (case a_AskedRule => k_is)
    (case pg_AskedRule => k_is)
    (case hd_AskedRule => k_is)
    (case po_AskedRule => k_is)
    (case sa_AskedRule => k_is)
    (case mk_AskedRule => k_is)
    (case kc_AskedRule => k_is)
    (case n_AskedRule_teller => k_is)
    (case a_AskedRule_init => k_is)
    (case i_AskedRule_init => k_is)
    (case l_AskedRule_init => k_is)
    (case c_AskedRule_init => k_is)
    (case k_AskedRule_init => k_is)
    (case a_AskedRule_before => k_is)
    (case i_AskedRule_before => k_is)
    (case l_AskedRule_before => k_is)
    (case c_AskedRule_before => k_is)
    (case k_AskedRule_before => k_is)
    (case a_cell_at => k_is)
    (case l_cell_at => k_is)
    (case c_cell_at => k_is)
    (case k_cell_at => k_is)
    (case a_stream => k_is)
    (case l_stream => k_is)
    (case c_stream => k_is)
    (case k_stream => k_is)
    (case a_blocks => k_is)
    (case l_blocks => k_is)
    (case c_blocks => k_is)
    (case k_blocks => k_is)
    (case a_nearly => k_is)
    (case l_nearly => k_is)
    (case c_nearly => k_is)
    (case k_nearly => k_is)
    (case a_digits => k_is)
    (case l_digits => k_is)
    (case c_digits => k_is)
    (case k_digits => k_is)
    (case a_keys => k_is)
    (case l_keys => k_is)
    (case c_keys => k_is)
    (case k_keys => k_is)
    (case a_meetings_of => k_is)
    (case l_meetings_of => k_is)
    (case c_meetings_of => k_is)
    (case k_meetings_of => k_is)
    (case a_dealt => k_is)
    (case l_dealt => k_is)
    (case c_dealt => k_is)
    (case k_dealt => k_is)
    (case a_spans => k_is)
    (case l_spans => k_is)
    (case c_spans => k_is)
    (case k_spans => k_is)
    (case a_from => k_is)
    (case l_from => k_is)
    (case c_from => k_is)
    (case k_from => k_is)
    (case a_held => k_is)
    (case l_held => k_is)
    (case c_held => k_is)
    (case k_held => k_is)
    (case a_walked => k_is)
    (case l_walked => k_is)
    (case c_walked => k_is)
    (case k_walked => k_is)
    (case a_bits => k_is)
    (case l_bits => k_is)
    (case c_bits => k_is)
    (case k_bits => k_is)
    (case a_law => k_is)
    (case l_law => k_is)
    (case c_law => k_is)
    (case k_law => k_is)
    (case a_teller => k_is)
    (case l_teller => k_is)
    (case c_teller => k_is)
    (case lc_teller => k_is)
    (case tp_teller => rfl)
    (case k_teller => k_is)
    (case z_len => k_is)
    (case z_range => k_is)
    (case z_list => k_is)
    (case z_max => k_is)
    (case z_min => k_is)
    (case z_sum => k_is)
    (case z_sorted => k_is)
    (case z_reversed => k_is)
    (case z_enumerate => k_is)
    (case z_dict => k_is)
    (case z_ValueError => k_is)
    (case kit_int_bool => kit_is)
    (case nt => kernel_rfl)
