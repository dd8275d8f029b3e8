import PyProof.Rows.All
import Wide.All
import OpenK.AllK
import Wide.FinOn
import Lean
import PyProof.EqAt
import PyProof.EqKinds
import PyProof.TupleCall
import KE.KRevIter
import PyProof.CollectIter
import PyProof.SumWalkG
import KE.KDictOf
import PyProof.IsiH_list
import PyProof.RaisesAny
import PyProof.P3In
import PyProof.Rows.SortRuns
import PyProof.Rows.SortShell
import KE.KSortTup
import PySem.Challenge.RW_sorthall_k27_whole_asks_that_show
set_option Elab.async false
set_option linter.all false
set_option maxRecDepth 100000
namespace L2
open PySem PySem.W
theorem left_boot {p q : Program} {loose : List Str} {Xt : Shared → Bool} {α : Type} {Yf : Shared → α} {Ya : World → α} {N : Nat} {g0 : Bool}
    (open_ : ∀ w : World, (fencedOpening treeTable p w N).map (fun s => (s.heap, s.gens, s.drawn, s.toks)) = some (boot_heap w.params, Array.mk [], boot_drawn, boot_toks))
    (h : ∀ (w : World) (os : OsState), (topFrom treeTable p w N ⟨boot_heap w.params, Array.mk [], boot_drawn, boot_toks, os⟩).map (fun s => (openSeen q loose (importedModules p.main.body) Xt g0 s, Yf s)) = some (openGood q loose, Ya w)) : LeftO p q loose Xt Yf Ya N g0 := fun w => by
  obtain ⟨⟨hh, gs, d, k, os⟩, e, e'⟩ := Option.map_eq_some_iff.mp (open_ w)
  obtain ⟨rfl, rfl, rfl, rfl⟩ : hh = boot_heap w.params ∧ gs = Array.mk [] ∧ d = boot_drawn ∧ k = boot_toks := by simpa using e'
  unfold openEnds
  rw [e]
  exact h w os
theorem left_two {p q : Program} {loose : List Str} {Xt : Shared → Bool} {α : Type} {Yf : Shared → α} {Ya : World → α} {N : Nat} {g0 : Bool}
    (open_ : ∀ w : World, (fencedOpening treeTable p w N).map (fun s => (s.heap, s.gens, s.drawn, s.toks)) = some (boot_heap w.params, Array.mk [], boot_drawn, boot_toks))
    (h1 : ∀ (w : World) (os : OsState), (topFrom treeTable p w N ⟨boot_heap w.params, Array.mk [], boot_drawn, boot_toks, os⟩).map (fun s => openSeen q loose (importedModules p.main.body) Xt g0 s) = some (openGood q loose))
    (h2 : ∀ (w : World) (os : OsState), (topFrom treeTable p w N ⟨boot_heap w.params, Array.mk [], boot_drawn, boot_toks, os⟩).map (fun s => Yf s) = some (Ya w)) : LeftO p q loose Xt Yf Ya N g0 :=
  left_boot open_ fun w os => by
    have a := h1 w os
    have b := h2 w os
    generalize topFrom treeTable p w N ⟨boot_heap w.params, Array.mk [], boot_drawn, boot_toks, os⟩ = r at a b
    cases r with
    | none => cases a
    | some s => exact congrArg some (Prod.ext (Option.some.inj a) (Option.some.inj b))
def vw (p : Program) (ix : List Nat) : Program := { p with main := { p.main with body := ix.filterMap fun i => p.main.body[i]? } }
def Vw : Program := vw PySem.Challenge.pw_sorthall_k27_whole_asks_that_show [0, 2, 3, 4, 5, 7, 8, 9, 10, 11, 12, 13, 14, 16, 18, 19, 20, 21, 22, 23, 24, 26, 27, 28, 29, 30, 31, 32, 34, 35, 36, 37, 38, 39, 40, 41, 42, 43, 44]
set_option maxHeartbeats 0 in
theorem seen1 : ∀ (w : World) (os : OsState), (topFrom treeTable PySem.Challenge.pw_sorthall_k27_whole_asks_that_show w 5582 ⟨boot_heap w.params, Array.mk [], boot_drawn, boot_toks, os⟩).map (fun s => openSeen L2.Vw [] (importedModules PySem.Challenge.pw_sorthall_k27_whole_asks_that_show.main.body) (fun s => xlAt L2.Vw [] s && recOk (RowW.records (OpenRow.toRowW (OpenLaw.row PySem.Challenge.rw_sorthall_k27_whole_asks_that_show))) s) true s) = some (openGood L2.Vw []) := by
  intro w os
  kernel_rfl
set_option hygiene false in
local macro_rules | `(tactic| o_head $H) => `(tactic| (refine holds_open (q := L2.Vw) (loose := []) (Xt := fun s => xlAt L2.Vw [] s && recOk (RowW.records _) s) (XP := XL L2.Vw []) (Yf := Hook.obs $H) (Ya := Hook.val $H) (YP := Hook.says $H) (N := 5582) ?hl (Hook.of $H) (Hook.keeps $H) (fun s e => xl_of s (Bool.and_eq_true_iff.mp e).1) XL.keeps (by rfl) (by rfl) (by rfl) (fun s e => recFacts_of (Bool.and_eq_true_iff.mp e).2) (by rfl) (by first | assumption | decide +kernel) (by decide +kernel) ⟨rfl, rfl, rfl, rfl, rfl, by decide +kernel⟩ ?hw ?hc; (case hl => (refine L2.left_two (PySem.W.boot_open (by rfl) (by decide) (fun s => rfl)) (fun w os => ?h1) (fun w os => ?h2); (case h1 => exact L2.seen1 w os); (case h2 => kernel_rfl)))))
set_option maxHeartbeats 0 in
open_top hd0 for PySem.Challenge.rw_sorthall_k27_whole_asks_that_show
end L2

-- CHANGE: your row's module here, as the last of these rows
set_option Elab.async false
set_option linter.all false
set_option maxRecDepth 100000
namespace L2
open PySem PySem.Spec PyProof.Rows

/-- a key: an int or a str -/
abbrev Key := Sum Int Str
def keyIs : Key → Value → Bool
  | .inl k, v => Value.isInt k v
  | .inr x, v => Value.isStrOf x v
def keyH (w : World) : Key → Int
  | .inl k => hashInt k
  | .inr x => hashStr w x
theorem keyIs_shape : ∀ {k : Key} {v : Value}, keyIs k v = true → (∃ i t, k = Sum.inl i ∧ v = Value.int i t) ∨ (∃ x t, k = Sum.inr x ∧ v = Value.str x t)
  | .inl i, v, h => by
    obtain ⟨t, e⟩ := Value.isInt_shape (k := i) (v := v) h
    exact .inl ⟨i, t, rfl, e⟩
  | .inr x, v, h => by
    obtain ⟨t, e⟩ := Value.isStrOf_shape (x := x) (v := v) h
    exact .inr ⟨x, t, rfl, e⟩
theorem keyIs_int (i : Int) (t : Tok) : keyIs (.inl i) (.int i t) = true := by simp [keyIs, Value.isInt]
theorem keyIs_str (x : Str) (t : Tok) : keyIs (.inr x) (.str x t) = true := by simp [keyIs, Value.isStrOf]
theorem key_ll (a b : Int) : decide ((Sum.inl a : Key) = Sum.inl b) = (a == b) := by
  by_cases e : a = b
  · subst e; simp
  · have h : ¬ (Sum.inl a : Key) = Sum.inl b := fun q => e (Sum.inl.inj q)
    rw [decide_eq_false h]
    exact (beq_eq_false_iff_ne.mpr e).symm
theorem key_rr (a b : Str) : decide ((Sum.inr a : Key) = Sum.inr b) = decide (a = b) := by
  by_cases e : a = b
  · subst e; simp
  · have h : ¬ (Sum.inr a : Key) = Sum.inr b := fun q => e (Sum.inr.inj q)
    rw [decide_eq_false h, decide_eq_false e]
theorem key_lr (a : Int) (b : Str) : decide ((Sum.inl a : Key) = Sum.inr b) = false := decide_eq_false (fun q => nomatch q)
theorem key_rl (a : Str) (b : Int) : decide ((Sum.inr a : Key) = Sum.inl b) = false := decide_eq_false (fun q => nomatch q)

def mixKind (prog : Program) (w : World) : PySem.KeyKind prog w Key where
  is := keyIs
  hash := keyH w
  inj := fun v a b ha hb => by
    rcases keyIs_shape ha with ⟨i, t, rfl, rfl⟩ | ⟨x, t, rfl, rfl⟩
    · rcases keyIs_shape hb with ⟨j, u, rfl, e⟩ | ⟨y, u, rfl, e⟩
      · injection e with e1 _; rw [e1]
      · exact nomatch e
    · rcases keyIs_shape hb with ⟨j, u, rfl, e⟩ | ⟨y, u, rfl, e⟩
      · exact nomatch e
      · injection e with e1 _; rw [e1]
  byValue := fun k v h => by
    rcases keyIs_shape h with ⟨i, t, rfl, rfl⟩ | ⟨x, t, rfl, rfl⟩ <;> rfl
  pyHash := fun hv h => by
    rcases keyIs_shape hv with ⟨i, t, rfl, rfl⟩ | ⟨x, t, rfl, rfl⟩
    · exact wpAny_pyHash_int h
    · exact wpAny_pyHash_str h
  eqBool := fun hu hv h => by
    rcases keyIs_shape hu with ⟨i, t, rfl, rfl⟩ | ⟨x, t, rfl, rfl⟩
    · rcases keyIs_shape hv with ⟨j, u, rfl, rfl⟩ | ⟨y, u, rfl, rfl⟩
      · rw [key_ll] at h; exact wpAny_eqBool_int h
      · rw [key_lr] at h; exact SeqAt.EqAt.int_str i t y u _ _ _ _ h
    · rcases keyIs_shape hv with ⟨j, u, rfl, rfl⟩ | ⟨y, u, rfl, rfl⟩
      · rw [key_rl] at h; exact SeqAt.EqAt.str_int x t j u _ _ _ _ h
      · rw [key_rr] at h; exact wpAny_eqBool_str h
  «strs» := fun k x t v h => by
    rcases keyIs_shape h with ⟨i, u, rfl, e⟩ | ⟨y, u, rfl, e⟩
    · exact nomatch e
    · injection e with e1 _
      subst e1
      cases v <;> rfl

theorem mixKind_int (prog : Program) (w : World) (i : Int) (t : Tok) : (mixKind prog w).is (.inl i) (.int i t) = true := keyIs_int i t
theorem mixKind_str (prog : Program) (w : World) (x : Str) (t : Tok) : (mixKind prog w).is (.inr x) (.str x t) = true := keyIs_str x t
end L2

namespace L2
open PySem PySem.Spec PyProof.Rows

/-- a value, without the heap -/
inductive V where
  | non | bl (b : Bool) | int (i : Int) | str (x : Str) | byt (b : Array UInt8) | flt (b : UInt64) | ref (a : Addr) | ty (n : String)
  deriving DecidableEq

def RelV : V → Value → Prop
  | .non, u => u = Value.none
  | .bl b, u => u = Value.bool b
  | .int i, u => ∃ t, u = Value.int i t
  | .str x, u => ∃ t, u = Value.str x t
  | .byt b, u => ∃ t, u = Value.bytes b t
  | .flt b, u => ∃ t, u = Value.float b t
  | .ref a, u => u = Value.ref a
  | .ty n, u => u = Value.type n

abbrev Vals : List V → List Value → Prop := Paired RelV
theorem Vals.length {xs : List V} {us : List Value} (r : Vals xs us) : xs.length = us.length := Paired.length r
theorem Vals.get : ∀ {xs : List V} {us : List Value} {i : Nat} {x : V}, Vals xs us → xs[i]? = some x → ∃ u, us[i]? = some u ∧ RelV x u
  | _, _, _, _, .nil, e => by simp at e
  | _, _, 0, _, .cons r _, e => by simp at e; subst e; exact ⟨_, rfl, r⟩
  | _, _, i + 1, x, .cons _ t, e => by
    obtain ⟨u, h1, h2⟩ := Vals.get (i := i) (x := x) t (by simpa using e)
    exact ⟨u, by simpa using h1, h2⟩
theorem Vals.set {x : V} {u : Value} (r : RelV x u) : ∀ {xs : List V} {us : List Value} (i : Nat), Vals xs us → Vals (xs.set i x) (us.set i u)
  | _, _, _, .nil => .nil
  | _, _, 0, .cons _ t => .cons r t
  | _, _, i + 1, .cons q t => .cons q (Vals.set r i t)
theorem Vals.append : ∀ {xs ys : List V} {us ws : List Value}, Vals xs us → Vals ys ws → Vals (xs ++ ys) (us ++ ws)
  | _, _, _, _, .nil, s => s
  | _, _, _, _, .cons r t, s => .cons r (Vals.append t s)
theorem Vals.take : ∀ {xs : List V} {us : List Value} (n : Nat), Vals xs us → Vals (xs.take n) (us.take n)
  | _, _, 0, _ => .nil
  | _, _, _ + 1, .nil => .nil
  | _, _, n + 1, .cons r t => .cons r (Vals.take n t)
theorem Vals.drop : ∀ {xs : List V} {us : List Value} (n : Nat), Vals xs us → Vals (xs.drop n) (us.drop n)
  | _, _, 0, r => r
  | _, _, _ + 1, .nil => .nil
  | _, _, n + 1, .cons _ t => Vals.drop n t
def RelO : Option V → Option Value → Prop
  | some v, some u => RelV v u
  | none, none => True
  | _, _ => False
def KV {κ : Type} : List (κ × V) → List (κ × Value) → Prop := Paired fun (p : κ × V) (q : κ × Value) => p.1 = q.1 ∧ RelV p.2 q.2

/-- a key of a dict (00_mix): an int or a text -/
def kV : Key → V
  | .inl i => .int i
  | .inr x => .str x

/-- what stands at a tracked address -/
inductive HO where
  /-- a list -/
  | lst (xs : List V)
  /-- a tuple (never changes) -/
  | tup (xs : List V)
  /-- a dict whose keys are ints and texts; one whose keys are tuples of ints and texts (the empty one is both) -/
  | dK (kvs : List (Key × V)) | dT (kvs : List (List Key × V))
  /-- a set of ints: its members, its size -/
  | set (S : Int → Bool) (n : Nat)
  /-- an instance of the class at C, its dict at dx, its attributes -/
  | ins (C dx : Addr) (fs : List (Str × V))
  /-- the dict of the instance at x -/
  | own (x : Addr)
  /-- the dict of an exception -/
  | xd (fs : List (Str × V))
  /-- a bound method, f of x -/
  | met (f x : Addr)
  /-- a range object lo, lo + 1, .. below hi -/
  | rng (lo hi : Int)
  /-- a thing that is known to the object (the script; a dict while a loop walks it): read, never written while it is so -/
  | frz (o : Obj) (u : HO)
  /-- a code object's table -/
  | tbl (ps : Array Value)
  /-- any other thing, by what is true of its one object (a def of one's own: SetO a S n := HO.ext fun h => ..) -/
  | ext (φ : Heap → Prop)

abbrev Hp := Addr → Option HO
def upd (H : Hp) (a : Addr) (o : HO) : Hp := fun b => if b = a then some o else H b
theorem upd_same {H : Hp} {a : Addr} {o : HO} : upd H a o a = some o := by unfold upd; rw [if_pos rfl]
theorem upd_ne {H : Hp} {a b : Addr} {o : HO} (h : b ≠ a) : upd H a o b = H b := by unfold upd; rw [if_neg h]
theorem ne_of_none {H : Hp} {a b : Addr} {o : HO} (h : H a = some o) (h' : H b = none) : a ≠ b := by
  intro e; subst e; rw [h] at h'; cases h'

section
variable (P : Program) (w : World)
def ObjOk (H : Hp) (h : Heap) (a : Addr) : HO → Prop
  | .lst xs => xs.length ≤ sizeLine ∧ ∃ (its : List Value) (n : Nat), Vals xs its ∧ h.get? a = some { cls := .type "list", data := .seq its.toArray n }
  | .tup xs => xs.length ≤ sizeLine ∧ ∃ its : List Value, Vals xs its ∧ IsTup h a its.toArray
  | .dK kvs => kvs.length ≤ sizeLine ∧ (a == sysModules) = false ∧ ∃ vs, KV kvs vs ∧ h.DictOf (mixKind P w) a vs
  | .dT kvs => kvs.length ≤ sizeLine ∧ (a == sysModules) = false ∧ ∃ xs : List (List Key × Addr × Value),
      Paired (fun (p : List Key × V) (q : List Key × Addr × Value) => p.1 = q.1 ∧ H q.2.1 = some (.tup (p.1.map kV)) ∧ RelV p.2 q.2.2) kvs xs ∧
      ∃ o es ep, h.get? a = some o ∧ o.ExactDict ∧ o.data = .dict es ep ∧ es.toList = xs.map (entryOfKey (tupleKind (mixKind P w))) ∧ (xs.map (·.1)).Nodup
  | .set S n => h.SetOf (intKind P w) a S n
  | .ins C dx fs => H dx = some (.own a) ∧ fs.length ≤ 1000 ∧ dx ≠ a ∧ h.get? a = some (PySem.W.instObj C dx) ∧
      ∃ mA, h.Ns1 dx mA ∧ (∀ f, RelO (fs.lookup f) (mA f)) ∧ PySem.Within mA (fs.map (·.1))
  | .own _ => ∃ o, h.get? a = some o
  | .xd fs => ∃ mA, h.Ns1 a mA ∧ ∀ f, RelO (fs.lookup f) (mA f)
  | .rng lo hi => ∃ t u v, h.get? a = some { cls := .type "range", data := .fields #[.int lo t, .int hi u, .int 1 v] }
  | .frz o u => h.get? a = some o ∧ ObjOk H h a u
  | .tbl ps => h.get? a = some { cls := .none, data := .fields ps }
  | .met f x => h.get? a = some (PySem.W.methodObj (.ref f) (.ref x))
  | .ext φ => φ h ∧ (∃ o, h.get? a = some o) ∧ ∀ h1 h2 : Heap, φ h1 → (∀ o, h1.get? a = some o → h2.get? a = some o) → φ h2
/-- the abstract heap is held -/
def HOk (H : Hp) (h : Heap) : Prop := ∀ a o, H a = some o → ObjOk P w H h a o
end

section
variable {P : Program} {w : World} {H H' : Hp} {h h' : Heap} {a : Addr} {o : HO}
theorem ObjOk.lt (x : ObjOk P w H h a o) : a < h.objs.size := by
  cases o with
  | lst xs => obtain ⟨_, _, _, _, e⟩ := x; exact Heap.lt_size e
  | tup xs => obtain ⟨_, _, _, p⟩ := x; exact p.lt
  | dK kvs => obtain ⟨_, _, _, _, o, _, _, e, _⟩ := x; exact Heap.lt_size e
  | dT kvs => obtain ⟨_, _, _, _, o, _, _, e, _⟩ := x; exact Heap.lt_size e
  | set S n => obtain ⟨o, _, _, _, e, _⟩ := x; exact Heap.lt_size e
  | ins C dx fs => obtain ⟨_, _, _, e, _⟩ := x; exact Heap.lt_size e
  | own y => obtain ⟨_, e⟩ := x; exact Heap.lt_size e
  | xd fs => obtain ⟨_, ⟨_, _, _, e, _⟩, _⟩ := x; exact Heap.lt_size e
  | rng lo hi => obtain ⟨_, _, _, e⟩ := x; exact Heap.lt_size e
  | frz ob u => obtain ⟨e, _⟩ := x; exact Heap.lt_size e
  | tbl ps => exact Heap.lt_size (show h.get? a = some _ from x)
  | met f y => exact Heap.lt_size (show h.get? a = some _ from x)
  | ext φ => obtain ⟨_, ⟨_, e⟩, _⟩ := x; exact Heap.lt_size e
theorem Paired.mapP {α β : Type} {F G : α → β → Prop} : ∀ {l₁ : List α} {l₂ : List β}, Paired F l₁ l₂ → (∀ a b, F a b → G a b) → Paired G l₁ l₂
  | _, _, .nil, _ => .nil
  | _, _, .cons r t, f => .cons (f _ _ r) (Paired.mapP t f)
/-- what an object's description leans on: its own object, its own dict, the tuples -/
theorem ObjOk.stay (x : ObjOk P w H h a o) (k : ∀ b u, (b = a ∨ H b = some (.own a)) → h.get? b = some u → h'.get? b = some u)
    (ho : ∀ b, H b = some (.own a) → H' b = some (.own a)) (ht : ∀ b xs, H b = some (.tup xs) → H' b = some (.tup xs)) : ObjOk P w H' h' a o := by
  induction o with
  | lst xs => obtain ⟨z, its, n, r, e⟩ := x; exact ⟨z, its, n, r, k _ _ (.inl rfl) e⟩
  | tup xs => obtain ⟨z, its, r, ob, e, c⟩ := x; exact ⟨z, its, r, ob, k _ _ (.inl rfl) e, c⟩
  | dK kvs => obtain ⟨z, y, vs, r, ob, es, ep, e, c⟩ := x; exact ⟨z, y, vs, r, ob, es, ep, k _ _ (.inl rfl) e, c⟩
  | dT kvs =>
    obtain ⟨z, y, xs, r, ob, es, ep, e, c⟩ := x
    exact ⟨z, y, xs, Paired.mapP r fun p q z => ⟨z.1, ht _ _ z.2.1, z.2.2⟩, ob, es, ep, k _ _ (.inl rfl) e, c⟩
  | set S n => obtain ⟨ob, es, ep, t, e, c⟩ := x; exact ⟨ob, es, ep, t, k _ _ (.inl rfl) e, c⟩
  | ins C dx fs =>
    obtain ⟨d, z, ne, e, mA, ⟨od, es, ep, e2, c⟩, r⟩ := x
    exact ⟨ho _ d, z, ne, k _ _ (.inl rfl) e, mA, ⟨od, es, ep, k _ _ (.inr d) e2, c⟩, r⟩
  | own y => obtain ⟨ob, e⟩ := x; exact ⟨ob, k _ _ (.inl rfl) e⟩
  | xd fs => obtain ⟨mA, ⟨od, es, ep, e, c⟩, r⟩ := x; exact ⟨mA, ⟨od, es, ep, k _ _ (.inl rfl) e, c⟩, r⟩
  | rng lo hi => obtain ⟨t, u, v, e⟩ := x; exact ⟨t, u, v, k _ _ (.inl rfl) e⟩
  | frz ob u ih => obtain ⟨e, q⟩ := x; exact ⟨k _ _ (.inl rfl) e, ih q⟩
  | tbl ps =>
    have e : h.get? a = some { cls := .none, data := .fields ps } := x
    show h'.get? a = some { cls := .none, data := .fields ps }
    exact k a _ (.inl rfl) e
  | met f y =>
    have e : h.get? a = some (PySem.W.methodObj (.ref f) (.ref y)) := x
    show h'.get? a = some (PySem.W.methodObj (.ref f) (.ref y))
    exact k a _ (.inl rfl) e
  | ext φ => obtain ⟨p, ⟨o, e⟩, st⟩ := x; exact ⟨st _ _ p fun o q => k _ _ (.inl rfl) q, ⟨o, k _ _ (.inl rfl) e⟩, st⟩
theorem HOk.lt (x : HOk P w H h) (e : H a = some o) : a < h.objs.size := (x a o e).lt
theorem HOk.fresh (x : HOk P w H h) (e : h.objs.size ≤ a) : H a = none := by
  cases q : H a with
  | none => rfl
  | some u => exact absurd (Nat.lt_of_lt_of_le (x.lt q) e) (Nat.lt_irrefl _)
/-- every object of the heap is kept -/
theorem HOk.kept (x : HOk P w H h) (k : ∀ b u, h.get? b = some u → h'.get? b = some u) : HOk P w H h' := fun a o e =>
  (x a o e).stay (fun b u _ q => k b u q) (fun _ q => q) fun _ _ q => q
/-- a new object is laid and tracked -/
theorem HOk.laid (x : HOk P w H h) (k : ∀ b u, h.get? b = some u → h'.get? b = some u) (hp : h.objs.size ≤ a) (new : ObjOk P w (upd H a o) h' a o) : HOk P w (upd H a o) h' := fun b u e => by
  have hn := x.fresh hp
  by_cases hb : b = a
  · subst hb; rw [upd_same] at e; cases e; exact new
  · rw [upd_ne hb] at e
    exact (x b u e).stay (fun c v _ q => k c v q) (fun c q => by rw [upd_ne (ne_of_none q hn)]; exact q) fun c xs q => by rw [upd_ne (ne_of_none q hn)]; exact q
end

/-- what may be read as u: it is u, or a known u -/
def Rd (H : Hp) (a : Addr) (u : HO) : Prop := H a = some u ∨ ∃ o, H a = some (.frz o u)
theorem Rd.ok {P : Program} {w : World} {H : Hp} {h : Heap} {a : Addr} {u : HO} (r : Rd H a u) (x : HOk P w H h) : ObjOk P w H h a u := by
  rcases r with r | ⟨o, r⟩
  · exact x a u r
  · obtain ⟨_, q⟩ := x a _ r
    exact q
/-- what may be written -/
def Mut : Option HO → Prop
  | some (.lst _) => True
  | some (.dK _) => True
  | some (.dT _) => True
  | some (.set _ _) => True
  | some (.ins _ _ _) => True
  | some (.ext _) => True
  | _ => False
section
variable {P : Program} {w : World} {H : Hp} {h h' : Heap} {x e : Addr} {o' : HO}
/-- the object at e is changed: x itself, or the dict of the instance x -/
theorem HOk.write (ok : HOk P w H h) (mu : Mut (H x)) (he : e = x ∨ H e = some (.own x)) (k : ∀ b u, b ≠ e → h.get? b = some u → h'.get? b = some u) (heo : ∃ u, h'.get? e = some u)
    (new : ObjOk P w (upd H x o') h' x o') : HOk P w (upd H x o') h' := fun b u q => by
  have nown : ∀ c y, H c = some (.own y) → c ≠ x := fun c y r z => by subst z; rw [r] at mu; exact mu
  have ntup : ∀ c xs, H c = some (.tup xs) → c ≠ x := fun c xs r z => by subst z; rw [r] at mu; exact mu
  by_cases hb : b = x
  · subst hb; rw [upd_same] at q; cases q; exact new
  · rw [upd_ne hb] at q
    by_cases hbe : b = e
    · have q' : H b = some (.own x) := by
        rcases he with z | z
        · exact absurd (hbe.trans z) hb
        · rw [hbe]; exact z
      rw [q] at q'; cases q'
      obtain ⟨v, hv⟩ := heo
      exact ⟨v, by rw [hbe]; exact hv⟩
    · refine (ok b u q).stay (fun c v hc r => k c v ?_ r) (fun c r => by rw [upd_ne (nown c b r)]; exact r) fun c xs r => by rw [upd_ne (ntup c xs r)]; exact r
      rcases hc with rfl | hc
      · exact hbe
      · rintro rfl
        rcases he with z | z
        · exact nown c b hc z
        · rw [hc] at z; cases z; exact hb rfl
end

structure Un (fs ex : List Addr) (H H' : Hp) (h h' : Heap) : Prop where
  keep : ∀ b o, h.get? b = some o → H b = none → b ∉ fs → b ∉ ex → h'.get? b = some o
  slot : ∀ b o, h.get? b = some o → H b = none → b ∈ fs → b ∉ ex → ∃ sl, h'.get? b = some { o with slots := sl }
  free : ∀ b o, h.get? b = some o → H b = none → b ∉ ex → H' b = none
  there : ∀ b o, h.get? b = some o → b ∉ ex → ∃ o', h'.get? b = some o'
  tups : ∀ b xs, H b = some (.tup xs) → H' b = some (.tup xs)
  frzs : ∀ b o u, H b = some (.frz o u) → H' b = some (.frz o u)
  tbls : ∀ b ps, H b = some (.tbl ps) → ∃ more, H' b = some (.tbl (ps ++ more))
section
variable {fs fs' ex ex' : List Addr} {H H1 H2 : Hp} {h h1 h2 h' : Heap} {a x e : Addr} {o : HO}
theorem Un.any (u : Un fs ex H H1 h h1) {b : Addr} {ob : Obj} (q : h.get? b = some ob) (n : H b = none) (hx : b ∉ ex) : ∃ sl, h1.get? b = some { ob with slots := sl } := by
  by_cases hb : b ∈ fs
  · exact u.slot b ob q n hb hx
  · exact ⟨ob.slots, u.keep b ob q n hb hx⟩
theorem Un.kept (k : ∀ b u, h.get? b = some u → h'.get? b = some u) : Un fs ex H H h h' :=
  ⟨fun b ob q _ _ _ => k b ob q, fun b ob q _ _ _ => ⟨ob.slots, k b ob q⟩, fun _ _ _ n _ => n, fun b ob q _ => ⟨ob, k b ob q⟩, fun _ _ q => q, fun _ _ _ q => q, fun _ ps q => ⟨#[], by rw [q]; simp⟩⟩
theorem Un.refl : Un fs ex H H h h := Un.kept fun _ _ q => q
theorem Un.laid (k : ∀ b u, h.get? b = some u → h'.get? b = some u) (hp : h.objs.size ≤ a) (hn : H a = none) : Un fs ex H (upd H a o) h h' where
  keep := fun b u q _ _ _ => k b u q
  slot := fun b u q _ _ _ => ⟨u.slots, k b u q⟩
  free := fun b u q n _ => by rw [upd_ne (Nat.ne_of_lt (Nat.lt_of_lt_of_le (Heap.lt_size q) hp))]; exact n
  there := fun b u q _ => ⟨u, k b u q⟩
  tups := fun b xs q => by rw [upd_ne (ne_of_none q hn)]; exact q
  frzs := fun b u xs q => by rw [upd_ne (ne_of_none q hn)]; exact q
  tbls := fun b ps q => ⟨#[], by rw [upd_ne (ne_of_none q hn), q]; simp⟩
theorem Un.write (mu : Mut (H x)) (he : e = x ∨ H e = some (.own x)) (k : ∀ b u, b ≠ e → h.get? b = some u → h'.get? b = some u) (heo : ∃ u, h'.get? e = some u) : Un fs ex H (upd H x o) h h' := by
  have hx : ∀ b, H b = none → b ≠ x := fun b n z => by subst z; rw [n] at mu; exact mu
  have hb : ∀ b, H b = none → b ≠ e := fun b n z => by
    subst z
    rcases he with r | r
    · exact hx b n r
    · rw [n] at r; cases r
  have hm : ∀ b u, H b = some u → ¬ Mut (some u) → b ≠ x := fun b u q nm z => by subst z; rw [q] at mu; exact nm mu
  refine ⟨fun b u q n _ _ => k b u (hb b n) q, fun b u q n _ _ => ⟨u.slots, k b u (hb b n) q⟩, fun b u q n _ => by rw [upd_ne (hx b n)]; exact n, fun b u q _ => ?_,
    fun b xs q => by rw [upd_ne (hm b _ q fun z => z)]; exact q, fun b u xs q => by rw [upd_ne (hm b _ q fun z => z)]; exact q, fun b ps q => ⟨#[], by rw [upd_ne (hm b _ q fun z => z), q]; simp⟩⟩
  by_cases hbe : b = e
  · subst hbe; exact heo
  · exact ⟨u, k b u hbe q⟩
end

def trk (h : Heap) (H : Hp) : List Addr := (List.range h.objs.size).filter fun a => (H a).isSome
def hidT (h : Heap) (H : Hp) : Heap := PySem.W.hideAll h (trk h H)
theorem hidT_size (h : Heap) (H : Hp) : (hidT h H).objs.size = h.objs.size := PySem.W.hideAll_size _ _
theorem hidT_get {h : Heap} {H : Hp} {b : Addr} {o : Obj} (e : h.get? b = some o) (n : H b = none) : (hidT h H).get? b = some o :=
  PySem.W.hideAll_get _ e fun hm => by
    have q : (H b).isSome = true := (List.mem_filter.mp hm).2
    rw [n] at q; simp at q
theorem of_hidT {h : Heap} {H : Hp} {b : Addr} {o : Obj} (e : (hidT h H).get? b = some o) : h.get? b = some o ∧ H b = none := by
  have e' : h.get? b = some o := PySem.W.of_hideAll (trk h H) e
  refine ⟨e', ?_⟩
  cases q : H b with
  | none => rfl
  | some x =>
    have hm : b ∈ trk h H := List.mem_filter.mpr ⟨List.mem_range.mpr (Heap.lt_size e'), by simp [q]⟩
    have z : (hidT h H).get? b = none := PySem.W.hideAll_none (trk h H) hm
    rw [z] at e; cases e

end L2

namespace L2
open PySem PySem.Spec PyProof.Rows

/-- the module's facts, over the base: the heap at the law's entry without what is tracked there -/
structure Mod (K : PySem.W.Frag) (mg : Str → Option Value) (base : Heap) : Prop where
  kin : K.In base
  glob : base.Ns mainGlobals mg
  blt : ∃ mb, base.Ns builtinsNs mb ∧ ∀ x : Str, x ≠ "__name__" → mb x = bootBuiltins x
  nolimit : base.NoLimit

/-- the context: a def's body (or a comprehension's block) running. base: fixed through the whole law; s₀, H₀: the entry; outer: the frames whose slots others may change (a def's callers); stack: all frames that run;
   ex: iterators that were made ahead of the entry and are walked here (a comprehension's); fn: the names whose cells were made at the entry (a def: all; a comprehension's block: its own); calm: not within an except suite; pn: pins that every state bears; xe: what is wanted of an exception that leaves the code -/
structure Cx where
  prog : Program
  w : World
  K : PySem.W.Frag
  mg : Str → Option Value
  base : Heap
  A : Around
  N : List Str
  s₀ : Shared
  H₀ : Hp
  env : Env
  outer : List Env
  stack : List Env
  ex : List Addr
  fn : Str → Bool
  calm : Bool
  pn : List (Addr × Obj)
  xe : Value → Shared → Prop
/-- the callers' frames -/
def frs (l : List Env) : List Addr := l.filterMap (·.frame)
abbrev Cx.fs (X : Cx) : List Addr := frs X.outer

def Vis (sc : Scope) (x : Str) : Prop := sc.names.lookup x = some .local ∨ sc.names.lookup x = some .cell ∨ sc.names.lookup x = some .free
def Loc (sc : Scope) (x : Str) : Prop := sc.names.lookup x = some .local ∨ sc.names.lookup x = some .cell
def Look (env : Env) (h : Heap) (m : Str → Option Value) (x : Str) (u : Value) : Prop :=
  (env.kindOf x = some .local ∧ m x = some u) ∨ ((env.kindOf x = some .cell ∨ env.kindOf x = some .free) ∧ ∃ c, env.cells.lookup x = some c ∧ h.IsCell c (some u))

structure Cx.Ok (X : Cx) : Prop where
  mod : Mod X.K X.mg X.base
  kind : X.env.scope.kind = .function
  glob : X.env.globals = mainGlobals
  blt : X.env.builtins = builtinsNs
  above : X.s₀.heap.objs.size ≤ X.env.locals
  inj : ∀ x y c, X.env.cells.lookup x = some c → X.env.cells.lookup y = some c → x = y
  has : ∀ x, (X.env.kindOf x = some .cell ∨ X.env.kindOf x = some .free) → ∃ c, X.env.cells.lookup x = some c
  cab : ∀ x c, X.fn x = true → X.env.cells.lookup x = some c → X.s₀.heap.objs.size ≤ c
  hd : X.calm = true → X.A.handled = none
  frames : X.A.frames = some X.stack
  stk : X.stack = X.outer ∨ (X.stack = X.env :: X.outer ∧ X.env.frame = some X.env.locals)
  exf : ∀ b ∈ X.ex, b ≠ X.env.locals ∧ ∀ x c, X.env.cells.lookup x = some c → c ≠ b
  bs : ∀ b o, X.base.get? b = some o → X.s₀.heap.get? b = some o ∧ X.H₀ b = none
  bsz : X.base.objs.size ≤ X.s₀.heap.objs.size
  noex : ∀ b o, X.base.get? b = some o → b ∉ X.ex
  exfs : ∀ b ∈ X.ex, b ∉ X.fs
  funs : X.s₀.heap.FunFrames X.base X.outer
  frf : ∀ b ∈ X.fs, X.H₀ b = none

structure Inv (X : Cx) (pins : List (Addr × Obj)) (σ : List (Option V)) (H : Hp) (s : Shared) : Prop where
  ok : X.Ok
  os : s.os = X.s₀.os
  bare : AllBare s.gens
  base : Un X.fs X.ex X.H₀ H X.s₀.heap s.heap
  loc : ∃ m, s.heap.Ns X.env.locals m ∧ ∀ (i : Nat) (x : Str) (v : V), X.N[i]? = some x → σ[i]? = some (some v) → Vis X.env.scope x → ∃ u, RelV v u ∧ Look X.env s.heap m x u
  cell : ∀ x c, X.env.cells.lookup x = some c → ∃ v, s.heap.IsCell c v
  free : H X.env.locals = none
  freeC : ∀ x c, X.env.cells.lookup x = some c → H c = none
  pin : ∀ p ∈ X.pn ++ pins, s.heap.get? p.1 = some p.2 ∧ H p.1 = none ∧ p.1 ≠ X.env.locals ∧ p.1 ∉ X.fs ∧ ∀ v, p.2.data ≠ .cell v
  hok : HOk X.prog X.w H s.heap
  len : σ.length = X.N.length

section
variable {X : Cx} {pins : List (Addr × Obj)} {σ : List (Option V)} {H H' : Hp} {s : Shared} {h' : Heap}

theorem Cx.Ok.nofr (ok : X.Ok) {b : Addr} {o : Obj} (e : X.base.get? b = some o) : b ∉ X.fs := fun hb => by
  have := (ok.funs.mem hb).1
  rw [e] at this; cases this
theorem Inv.bs (I : Inv X pins σ H s) : ∀ b o, X.base.get? b = some o → s.heap.get? b = some o ∧ H b = none := fun b o e =>
  ⟨I.base.keep b o (I.ok.bs b o e).1 (I.ok.bs b o e).2 (I.ok.nofr e) (I.ok.noex b o e), I.base.free b o (I.ok.bs b o e).1 (I.ok.bs b o e).2 (I.ok.noex b o e)⟩
theorem Inv.bk (I : Inv X pins σ H s) : ∀ b o, X.base.get? b = some o → s.heap.get? b = some o := fun b o e => (I.bs b o e).1
theorem Inv.mod (I : Inv X pins σ H s) : Mod X.K X.mg X.base := I.ok.mod
theorem Inv.kIn (I : Inv X pins σ H s) : X.K.In s.heap := I.ok.mod.kin.keeps I.bk
theorem Inv.lt (I : Inv X pins σ H s) : X.env.locals < s.heap.objs.size := let ⟨_, hn, _⟩ := I.loc; hn.lt
theorem Inv.sz (I : Inv X pins σ H s) : X.s₀.heap.objs.size ≤ s.heap.objs.size := Nat.le_trans I.ok.above (Nat.le_of_lt I.lt)
theorem Inv.nofs (I : Inv X pins σ H s) {a : Addr} (h : s.heap.objs.size ≤ a) : a ∉ X.fs := fun hb => by
  obtain ⟨_, o, ho, _⟩ := I.ok.funs.mem hb
  exact absurd (Nat.lt_of_lt_of_le (Heap.lt_size ho) (Nat.le_trans I.sz h)) (Nat.lt_irrefl _)
theorem Inv.cne (I : Inv X pins σ H s) : ∀ x c, X.env.cells.lookup x = some c → c ≠ X.env.locals := fun x c e z => by
  obtain ⟨v, o, ho, hd⟩ := I.cell x c e
  obtain ⟨m, ⟨o', es, ep, ho', hd', _⟩, _⟩ := I.loc
  rw [z, ho'] at ho; cases ho; rw [hd'] at hd; cases hd
theorem Inv.funs (I : Inv X pins σ H s) : s.heap.FunFrames X.base X.outer := by
  have all : ∀ (l : List Env), (∀ b ∈ frs l, b ∈ X.fs) → X.s₀.heap.FunFrames X.base l → s.heap.FunFrames X.base l := by
    intro l
    induction l with
    | nil => intro _ _; trivial
    | cons env r ih =>
      intro hs hl
      obtain ⟨hk, ⟨L, o, hf, hn, ho, hd⟩, hr⟩ := hl
      have hL : L ∈ X.fs := hs L (by unfold frs; rw [List.filterMap_cons, hf]; exact List.mem_cons_self)
      obtain ⟨sl, e⟩ := I.base.slot L o ho (I.ok.frf L hL) hL fun z => I.ok.exfs L z hL
      exact ⟨hk, ⟨L, _, hf, hn, e, hd⟩, ih (fun b hb => hs b (by unfold frs; rw [List.filterMap_cons, hf]; exact List.mem_cons_of_mem _ hb)) hr⟩
  exact all X.outer (fun _ hb => hb) I.ok.funs

/-- the frames that run, for a call -/
theorem Inv.stack (I : Inv X pins σ H s) : s.heap.FunFrames X.base X.stack := by
  rcases I.ok.stk with e | ⟨e, hf⟩
  · rw [e]; exact I.funs
  · rw [e]
    obtain ⟨m, hn, _⟩ := I.loc
    refine .cons (by rw [I.ok.kind]; decide) hf hn ?_ I.funs
    exact Heap.get?_none_of_le (Nat.le_trans I.ok.bsz I.ok.above)
theorem Inv.stkSub (I : Inv X pins σ H s) : ∀ b ∈ frs X.stack, b ∈ X.env.locals :: X.fs := fun b hb => by
  rcases I.ok.stk with e | ⟨e, hf⟩
  · rw [e] at hb; exact List.mem_cons_of_mem _ hb
  · rw [e] at hb
    unfold frs at hb
    rw [List.filterMap_cons, hf] at hb
    exact hb
theorem Inv.stkFree (I : Inv X pins σ H s) : ∀ b ∈ frs X.stack, H b = none := fun b hb => by
  rcases List.mem_cons.mp (I.stkSub b hb) with e | hb
  · rw [e]; exact I.free
  · obtain ⟨_, o, ho, _⟩ := I.ok.funs.mem hb
    exact I.base.free b o ho (I.ok.frf b hb) fun z => I.ok.exfs b z hb

/-- THE STEP: the untracked objects but the frame and the records at ch are kept (the callers' frames up to slots), the frame's map is kept, the new abstract heap is held -/
theorem Inv.step {g' : Array GenState} {t' : Nat} {d' : Drawn} {ch : List Addr} (I : Inv X pins σ H s)
    (hch : ∀ b ∈ ch, (b ∈ X.ex ∨ X.s₀.heap.objs.size ≤ b) ∧ b ≠ X.env.locals ∧ (∀ x c, X.env.cells.lookup x = some c → c ≠ b) ∧ ∀ p ∈ X.pn ++ pins, p.1 ≠ b)
    (keep : ∀ b o, b ≠ X.env.locals → b ∉ X.fs → b ∉ ch → s.heap.get? b = some o → H b = none → h'.get? b = some o)
    (slot : ∀ b o, b ≠ X.env.locals → b ∈ X.fs → b ∉ ch → s.heap.get? b = some o → H b = none → ∃ sl, h'.get? b = some { o with slots := sl }) (free : ∀ b o, b ∉ ch → s.heap.get? b = some o → H b = none → H' b = none)
    (there : ∀ b o, b ∉ ch → s.heap.get? b = some o → ∃ o', h'.get? b = some o')
    (tups : ∀ b xs, H b = some (.tup xs) → H' b = some (.tup xs)) (frzs : ∀ b o u, H b = some (.frz o u) → H' b = some (.frz o u)) (tbls : ∀ b ps, H b = some (.tbl ps) → ∃ more, H' b = some (.tbl (ps ++ more)))
    (ns : ∀ m, s.heap.Ns X.env.locals m → h'.Ns X.env.locals m) (hok : HOk X.prog X.w H' h') (hg : AllBare g') :
    Inv X pins σ H' { s with heap := h', gens := g', drawn := d', toks := t' } := by
  have neL : ∀ b o, X.s₀.heap.get? b = some o → b ≠ X.env.locals := fun b o e => Nat.ne_of_lt (Nat.lt_of_lt_of_le (Heap.lt_size e) I.ok.above)
  have neC : ∀ b o, X.s₀.heap.get? b = some o → b ∉ X.ex → b ∉ ch := fun b o e hx hb => by
    rcases (hch b hb).1 with z | z
    · exact hx z
    · exact absurd (Nat.lt_of_lt_of_le (Heap.lt_size e) z) (Nat.lt_irrefl _)
  have cellK : ∀ x c, X.env.cells.lookup x = some c → ∀ v, s.heap.IsCell c v → h'.IsCell c v := fun x c e v ⟨o, ho, hd⟩ => by
    have nch : c ∉ ch := fun z => (hch c z).2.2.1 x c e rfl
    by_cases hc : c ∈ X.fs
    · obtain ⟨sl, q⟩ := slot c o (I.cne x c e) hc nch ho (I.freeC x c e)
      exact ⟨_, q, hd⟩
    · exact ⟨o, keep c o (I.cne x c e) hc nch ho (I.freeC x c e), hd⟩
  refine ⟨I.ok, I.os, hg, ⟨fun b o e n hb hx => ?_, fun b o e n hb hx => ?_, fun b o e n hx => ?_, fun b o e hx => ?_, fun b xs e => tups b xs (I.base.tups b xs e), fun b o xs e => frzs b o xs (I.base.frzs b o xs e), fun b ps e => ?_⟩, ?_, fun x c e => ?_, ?_, fun x c e => ?_, fun p hp => ?_, hok, I.len⟩
  · exact keep b o (neL b o e) hb (neC b o e hx) (I.base.keep b o e n hb hx) (I.base.free b o e n hx)
  · obtain ⟨sl, e1⟩ := I.base.slot b o e n hb hx
    obtain ⟨sl', e2⟩ := slot b _ (neL b o e) hb (neC b o e hx) e1 (I.base.free b o e n hx)
    exact ⟨sl', e2⟩
  · obtain ⟨o', e1⟩ := I.base.there b o e hx
    exact free b o' (neC b o e hx) e1 (I.base.free b o e n hx)
  · obtain ⟨o', e1⟩ := I.base.there b o e hx
    exact there b o' (neC b o e hx) e1
  · obtain ⟨m1, e1⟩ := I.base.tbls b ps e
    obtain ⟨m2, e2⟩ := tbls b _ e1
    exact ⟨m1 ++ m2, by rw [e2, Array.append_assoc]⟩
  · obtain ⟨m, hn, hl⟩ := I.loc
    refine ⟨m, ns m hn, fun i x v e1 e2 e3 => ?_⟩
    obtain ⟨u, r, l⟩ := hl i x v e1 e2 e3
    refine ⟨u, r, ?_⟩
    rcases l with l | ⟨k, c, e, z⟩
    · exact .inl l
    · exact .inr ⟨k, c, e, cellK x c e _ z⟩
  · obtain ⟨v, z⟩ := I.cell x c e
    exact ⟨v, cellK x c e v z⟩
  · obtain ⟨m, ⟨o, _, _, ho, _⟩, _⟩ := I.loc
    exact free _ o (fun z => (hch _ z).2.1 rfl) ho I.free
  · obtain ⟨v, o, ho, hd⟩ := I.cell x c e
    exact free c o (fun z => (hch c z).2.2.1 x c e rfl) ho (I.freeC x c e)
  · obtain ⟨e, n, ne, nf, d⟩ := I.pin p hp
    have nch : p.1 ∉ ch := fun z => (hch p.1 z).2.2.2 p hp rfl
    exact ⟨keep p.1 p.2 ne nf nch e n, free p.1 p.2 nch e n, ne, nf, d⟩
/-- .. where the frame's own object is kept too -/
theorem Inv.un {t' : Nat} (I : Inv X pins σ H s) (u : Un X.fs [] H H' s.heap h') (hok : HOk X.prog X.w H' h') : Inv X pins σ H' { s with heap := h', toks := t' } := by
  obtain ⟨m, ⟨o, es, ep, ho, r⟩, _⟩ := id I.loc
  obtain ⟨sl, hL⟩ := u.any ho I.free (by simp)
  exact I.step (g' := s.gens) (d' := s.drawn) (ch := []) (fun _ z => nomatch z) (fun b o _ hb _ e n => u.keep b o e n hb (by simp)) (fun b o _ hb _ e n => u.slot b o e n hb (by simp)) (fun b o _ e n => u.free b o e n (by simp)) (fun b o _ e => u.there b o e (by simp)) u.tups u.frzs u.tbls (fun m' hm => by
    obtain ⟨o', es', ep', ho', r'⟩ := hm
    rw [ho] at ho'; cases ho'
    exact ⟨_, es', ep', hL, r'⟩) hok I.bare
/-- behind a call (or a comprehension's block): the slots of this frame may have changed too, the records at ch may have turned -/
theorem Inv.call {g' : Array GenState} {t' : Nat} {d' : Drawn} {ch : List Addr} (I : Inv X pins σ H s) (u : Un (frs X.stack) ch H H' s.heap h') (hok : HOk X.prog X.w H' h') (hg : AllBare g')
    (hch : ∀ b ∈ ch, (b ∈ X.ex ∨ X.s₀.heap.objs.size ≤ b) ∧ b ≠ X.env.locals ∧ (∀ x c, X.env.cells.lookup x = some c → c ≠ b) ∧ ∀ p ∈ X.pn ++ pins, p.1 ≠ b) :
    Inv X pins σ H' { s with heap := h', gens := g', drawn := d', toks := t' } := by
  obtain ⟨m, ⟨o, es, ep, ho, r⟩, _⟩ := id I.loc
  obtain ⟨sl, hL⟩ := u.any ho I.free fun z => (hch _ z).2.1 rfl
  exact I.step (ch := ch) hch (fun b o hL hb hc e n => u.keep b o e n (fun z => (List.mem_cons.mp (I.stkSub b z)).elim hL hb) hc) (fun b o _ _ hc e n => u.any e n hc) (fun b o hc e n => u.free b o e n hc) (fun b o hc e => u.there b o e hc) u.tups u.frzs u.tbls (fun m' hm => by
    obtain ⟨o', es', ep', ho', r'⟩ := hm
    rw [ho] at ho'; cases ho'
    exact ⟨_, es', ep', hL, r'⟩) hok hg
/-- an untracked record of ours (an iterator) has turned -/
theorem Inv.turned {t' : Nat} {it : Addr} (I : Inv X pins σ H s) (k : ∀ b o, b ≠ it → s.heap.get? b = some o → h'.get? b = some o) (hn : H it = none) (hL : it ≠ X.env.locals)
    (h1 : it ∈ X.ex ∨ X.s₀.heap.objs.size ≤ it) (h2 : ∀ x c, X.env.cells.lookup x = some c → c ≠ it) (h3 : ∀ p ∈ X.pn ++ pins, p.1 ≠ it) : Inv X pins σ H { s with heap := h', toks := t' } := by
  have nit : ∀ b u, H b = some u → b ≠ it := fun b u e z => by rw [z, hn] at e; cases e
  refine I.step (g' := s.gens) (d' := s.drawn) (ch := [it]) (fun b hb => ?_) (fun b o _ _ hc e _ => k b o (fun z => hc (by simp [z])) e) (fun b o _ _ hc e _ => ⟨o.slots, k b o (fun z => hc (by simp [z])) e⟩) (fun _ _ _ _ n => n)
    (fun b o hc e => ⟨o, k b o (fun z => hc (by simp [z])) e⟩) (fun _ _ e => e) (fun _ _ _ e => e) (fun b ps e => ⟨#[], by rw [e]; simp⟩) (fun m hm => ?_) (fun b u e => ?_) I.bare
  · have e : b = it := by simpa using hb
    subst e
    exact ⟨h1, hL, h2, h3⟩
  · obtain ⟨o, es, ep, ho, r⟩ := hm
    exact ⟨o, es, ep, k _ o (Ne.symm hL) ho, r⟩
  · refine (I.hok b u e).stay (fun c v hc q => k c v ?_ q) (fun _ q => q) fun _ _ q => q
    rcases hc with z | z
    · rw [z]; exact nit b u e
    · exact nit c _ z
theorem Inv.tok (I : Inv X pins σ H s) (t : Nat) : Inv X pins σ H { s with toks := t } := I.un (h' := s.heap) (t' := t) Un.refl I.hok
/-- all objects kept -/
theorem Inv.kept {t' : Nat} (I : Inv X pins σ H s) (k : ∀ b u, s.heap.get? b = some u → h'.get? b = some u) : Inv X pins σ H { s with heap := h', toks := t' } := I.un (Un.kept k) (I.hok.kept k)
/-- a new object laid and tracked -/
theorem Inv.laid {a : Addr} {o : HO} {t' : Nat} (I : Inv X pins σ H s) (k : ∀ b u, s.heap.get? b = some u → h'.get? b = some u) (hp : s.heap.objs.size ≤ a) (new : ObjOk X.prog X.w (upd H a o) h' a o) :
    Inv X pins σ (upd H a o) { s with heap := h', toks := t' } := I.un (Un.laid k hp (I.hok.fresh hp)) (I.hok.laid k hp new)
/-- an object written -/
theorem Inv.write {x e : Addr} {o : HO} {t' : Nat} (I : Inv X pins σ H s) (mu : Mut (H x)) (he : e = x ∨ H e = some (.own x)) (k : ∀ b u, b ≠ e → s.heap.get? b = some u → h'.get? b = some u) (heo : ∃ u, h'.get? e = some u)
    (new : ObjOk X.prog X.w (upd H x o) h' x o) : Inv X pins σ (upd H x o) { s with heap := h', toks := t' } := I.un (Un.write mu he k heo) (I.hok.write mu he k heo new)
theorem Inv.pins_of {pins' : List (Addr × Obj)} (I : Inv X pins σ H s) (h : ∀ p ∈ pins', s.heap.get? p.1 = some p.2 ∧ H p.1 = none ∧ p.1 ≠ X.env.locals ∧ p.1 ∉ X.fs ∧ ∀ v, p.2.data ≠ .cell v) : Inv X pins' σ H s :=
  ⟨I.ok, I.os, I.bare, I.base, I.loc, I.cell, I.free, I.freeC, fun p hp => (List.mem_append.mp hp).elim (fun z => I.pin p (List.mem_append_left _ z)) (h p), I.hok, I.len⟩

theorem nodup_ix {N : List Str} (hN : N.Nodup) {i j : Nat} {x : Str} (a : N[i]? = some x) (b : N[j]? = some x) : i = j := by
  obtain ⟨h1, e1⟩ := List.getElem?_eq_some_iff.mp a
  obtain ⟨h2, e2⟩ := List.getElem?_eq_some_iff.mp b
  exact (List.getElem_inj hN).mp (e1.trans e2.symm)

/-- a name is stored; what changed -/
theorem store_ok2 {M : Model} {A : Around} {E : Value → Shared → Prop} {i : Nat} {x : Str} {v : V} {u : Value} {Q : Unit → Shared → Prop} (I : Inv X pins σ H s) (hN : X.N.Nodup) (hi : X.N[i]? = some x) (hx : Loc X.env.scope x) (r : RelV v u)
    (h : ∀ s', Inv X pins (σ.set i (some v)) H s' → (∃ a, Heap.SameBut a s.heap s'.heap ∧ (a = X.env.locals ∨ X.env.cells.lookup x = some a)) → Q () s') (hf : X.fn x = true ∨ X.env.scope.names.lookup x = some .local := by first | exact .inl rfl | exact .inr rfl | assumption) : wpAny M A (storeName X.env x u) Q E s := by
  obtain ⟨m, hn, hl⟩ := id I.loc
  have hcls : (X.env.scope.kind == .class || (X.env.scope.kind == .module && X.env.locals != X.env.globals)) = false := by rw [I.ok.kind]; rfl
  have hiσ : i < σ.length := by rw [I.len]; exact (List.getElem?_eq_some_iff.mp hi).1
  have cne := I.cne
  have tracked : ∀ {a : Addr} {h' : Heap}, (∃ o, s.heap.get? a = some o ∧ H a = none) → Heap.SameBut a s.heap h' → HOk X.prog X.w H h' := fun {a h'} ha hs b ob e => by
    obtain ⟨_, _, hfree⟩ := ha
    refine (I.hok b ob e).stay (fun c w' hc q => (hs.2 c ?_).trans q) (fun _ q => q) fun _ _ q => q
    rintro rfl
    rcases hc with rfl | hc
    · rw [hfree] at e; cases e
    · rw [hfree] at hc; cases hc
  rcases hx with hk | hk
  · refine wpAny_storeName_local hk hn (fun h' hn' hs => ?_) hcls
    obtain ⟨oL, _, _, hoL, _⟩ := id hn
    refine h _ ⟨I.ok, I.os, I.bare, ⟨fun b o e n hb hx => ?_, fun b o e n hb hx => ?_, I.base.free, fun b o e hx => ?_, I.base.tups, I.base.frzs, I.base.tbls⟩, ⟨_, hn', fun j y v' e1 e2 e3 => ?_⟩, fun y c e => ?_, I.free, I.freeC, fun p hp => ?_, tracked ⟨oL, hoL, I.free⟩ hs, by simpa using I.len⟩ ⟨_, hs, .inl rfl⟩
    · exact (hs.2 b (Nat.ne_of_lt (Nat.lt_of_lt_of_le (Heap.lt_size e) I.ok.above))).trans (I.base.keep b o e n hb hx)
    · obtain ⟨sl, e1⟩ := I.base.slot b o e n hb hx
      exact ⟨sl, (hs.2 b (Nat.ne_of_lt (Nat.lt_of_lt_of_le (Heap.lt_size e) I.ok.above))).trans e1⟩
    · obtain ⟨o', e1⟩ := I.base.there b o e hx
      exact ⟨o', (hs.2 b (Nat.ne_of_lt (Nat.lt_of_lt_of_le (Heap.lt_size e) I.ok.above))).trans e1⟩
    · by_cases hj : j = i
      · subst hj
        rw [hi] at e1; cases e1
        rw [List.getElem?_set_self hiσ] at e2
        cases e2
        exact ⟨u, r, .inl ⟨hk, by simp⟩⟩
      · rw [List.getElem?_set_ne (Ne.symm hj)] at e2
        obtain ⟨u', r', q⟩ := hl j y v' e1 e2 e3
        refine ⟨u', r', ?_⟩
        rcases q with ⟨k, e⟩ | ⟨k, c, e, z⟩
        · refine .inl ⟨k, ?_⟩
          have : y ≠ x := fun e => hj (nodup_ix hN e1 (e ▸ hi))
          simp [this, e]
        · exact .inr ⟨k, c, e, z.sameBut hs (cne y c e)⟩
    · obtain ⟨w', z⟩ := I.cell y c e
      exact ⟨w', z.sameBut hs (cne y c e)⟩
    · obtain ⟨e, n, ne, nf, d⟩ := I.pin p hp
      exact ⟨(hs.2 p.1 ne).trans e, n, ne, nf, d⟩
  · have hfn : X.fn x = true := by
      rcases hf with z | z
      · exact z
      · rw [z] at hk; cases hk
    obtain ⟨c, hc⟩ := I.ok.has x (.inl hk)
    obtain ⟨w', z⟩ := I.cell x c hc
    refine wpAny_storeName_cell I.ok.kind hk hc z (fun h' hc' hs => ?_)
    obtain ⟨oc, hoc, hocd⟩ := id z
    refine h { s with heap := h' } ⟨I.ok, I.os, I.bare, ⟨fun b o e n hb hx => ?_, fun b o e n hb hx => ?_, I.base.free, fun b o e hx => ?_, I.base.tups, I.base.frzs, I.base.tbls⟩, ⟨m, hn.sameBut hs (Ne.symm (cne x c hc)), fun j y v' e1 e2 e3 => ?_⟩, fun y c' e => ?_, I.free, I.freeC, fun p hp => ?_, tracked ⟨oc, hoc, I.freeC x c hc⟩ hs, by simpa using I.len⟩ ⟨c, hs, .inr hc⟩
    · exact (hs.2 b (Nat.ne_of_lt (Nat.lt_of_lt_of_le (Heap.lt_size e) (I.ok.cab x c hfn hc)))).trans (I.base.keep b o e n hb hx)
    · obtain ⟨sl, e1⟩ := I.base.slot b o e n hb hx
      exact ⟨sl, (hs.2 b (Nat.ne_of_lt (Nat.lt_of_lt_of_le (Heap.lt_size e) (I.ok.cab x c hfn hc)))).trans e1⟩
    · obtain ⟨o', e1⟩ := I.base.there b o e hx
      exact ⟨o', (hs.2 b (Nat.ne_of_lt (Nat.lt_of_lt_of_le (Heap.lt_size e) (I.ok.cab x c hfn hc)))).trans e1⟩
    · by_cases hj : j = i
      · subst hj
        rw [hi] at e1; cases e1
        rw [List.getElem?_set_self hiσ] at e2
        cases e2
        exact ⟨u, r, .inr ⟨.inl hk, c, hc, hc'⟩⟩
      · rw [List.getElem?_set_ne (Ne.symm hj)] at e2
        obtain ⟨u', r', q⟩ := hl j y v' e1 e2 e3
        refine ⟨u', r', ?_⟩
        rcases q with q | ⟨k, c', e, z'⟩
        · exact .inl q
        · refine .inr ⟨k, c', e, z'.sameBut hs ?_⟩
          rintro rfl
          exact hj (nodup_ix hN e1 (I.ok.inj _ _ _ e hc ▸ hi))
    · by_cases hcc : c' = c
      · subst hcc; exact ⟨_, hc'⟩
      · obtain ⟨w2, z2⟩ := I.cell y c' e
        exact ⟨w2, z2.sameBut hs hcc⟩
    · obtain ⟨e, n, ne, nf, d⟩ := I.pin p hp
      refine ⟨(hs.2 p.1 ?_).trans e, n, ne, nf, d⟩
      intro q
      rw [q, hoc] at e
      have q' : oc = p.2 := Option.some.inj e
      exact d w' (by rw [← q']; exact hocd)
theorem store_ok {M : Model} {A : Around} {E : Value → Shared → Prop} {i : Nat} {x : Str} {v : V} {u : Value} {Q : Unit → Shared → Prop} (I : Inv X pins σ H s) (hN : X.N.Nodup) (hi : X.N[i]? = some x) (hx : Loc X.env.scope x) (r : RelV v u)
    (h : ∀ s', Inv X pins (σ.set i (some v)) H s' → Q () s') (hf : X.fn x = true ∨ X.env.scope.names.lookup x = some .local := by first | exact .inl rfl | exact .inr rfl | assumption) : wpAny M A (storeName X.env x u) Q E s :=
  store_ok2 I hN hi hx r (fun s' I' _ => h s' I') hf
/-- behind a call or a block, the state as it is -/
theorem Inv.call' {s' : Shared} {ch : List Addr} (I : Inv X pins σ H s) (ho : s'.os = s.os) (u : Un (frs X.stack) ch H H' s.heap s'.heap) (hok : HOk X.prog X.w H' s'.heap) (hg : AllBare s'.gens)
    (hch : ∀ b ∈ ch, (b ∈ X.ex ∨ X.s₀.heap.objs.size ≤ b) ∧ b ≠ X.env.locals ∧ (∀ x c, X.env.cells.lookup x = some c → c ≠ b) ∧ ∀ p ∈ X.pn ++ pins, p.1 ≠ b) : Inv X pins σ H' s' := by
  obtain ⟨h', g', d', t', o'⟩ := s'
  have e : o' = s.os := ho
  subst e
  exact I.call (g' := g') (t' := t') (d' := d') u hok hg hch
end

/-- an exception: its class, its own dict's address (where it has one), the abstract heap behind it -/
abbrev XK := Value → Option Addr → Hp → Prop
abbrev St := List (Option V)
abbrev VK := V → Hp → Prop
/-- an expression's reading; a test's; an argument list's -/
abbrev TE := St → Hp → VK → Prop
abbrev TT := St → Hp → (Bool → Hp → Prop) → Prop
abbrev TA := St → Hp → (List V → Hp → Prop) → Prop
/-- what is wanted behind a statement -/
structure Ends where
  nx : St → Hp → Prop
  rt : VK
  bk : St → Hp → Prop := fun _ _ => False
  ct : St → Hp → Prop := fun _ _ => False
abbrev TS := Ends → St → Hp → Prop

def EP (X : Cx) (pins : List (Addr × Obj)) (σ : St) (Q : VK) (u : Value) (s' : Shared) : Prop := ∃ v H', Inv X pins σ H' s' ∧ RelV v u ∧ Q v H'
def TP (X : Cx) (pins : List (Addr × Obj)) (σ : St) (Q : Bool → Hp → Prop) (b : Bool) (s' : Shared) : Prop := ∃ H', Inv X pins σ H' s' ∧ Q b H'
def AP (X : Cx) (pins : List (Addr × Obj)) (σ : St) (Q : List V → Hp → Prop) (us : List Value) (s' : Shared) : Prop := ∃ vs H', Inv X pins σ H' s' ∧ Vals vs us ∧ Q vs H'
def SP (X : Cx) (pins : List (Addr × Obj)) (D : Ends) (f : Flow) (s' : Shared) : Prop :=
  match f with
  | .next => ∃ σ' H', Inv X pins σ' H' s' ∧ D.nx σ' H'
  | .brk => ∃ σ' H', Inv X pins σ' H' s' ∧ D.bk σ' H'
  | .cont => ∃ σ' H', Inv X pins σ' H' s' ∧ D.ct σ' H'
  | .ret u => ∃ v σ' H', Inv X pins σ' H' s' ∧ RelV v u ∧ D.rt v H'

def PE (X : Cx) (e : Expr) (t : TE) : Prop :=
  ∀ (pins : List (Addr × Obj)) (s : Shared) (σ : St) (H : Hp) (Q : VK), Inv X pins σ H s → t σ H Q → wpAny (model X.prog X.w) X.A (eval e X.env) (EP X pins σ Q) X.xe s
def PT (X : Cx) (e : Expr) (t : TT) : Prop :=
  ∀ (pins : List (Addr × Obj)) (s : Shared) (σ : St) (H : Hp) (Q : Bool → Hp → Prop), Inv X pins σ H s → t σ H Q → wpAny (model X.prog X.w) X.A (isTrue e X.env (eval e X.env)) (TP X pins σ Q) X.xe s
/-- a test whatever its 'whole' is (and, or) -/
def PW (X : Cx) (e : Expr) (t : TT) : Prop :=
  ∀ (whole : Sem Value) (pins : List (Addr × Obj)) (s : Shared) (σ : St) (H : Hp) (Q : Bool → Hp → Prop), Inv X pins σ H s → t σ H Q → wpAny (model X.prog X.w) X.A (isTrue e X.env whole) (TP X pins σ Q) X.xe s
theorem PW.pt {X : Cx} {e : Expr} {t : TT} (h : PW X e t) : PT X e t := h _
/-- an argument list (no star), from the left -/
def PA (X : Cx) (es : List Expr) (t : TA) : Prop :=
  ∀ (pos : Pos) (pins : List (Addr × Obj)) (s : Shared) (σ : St) (H : Hp) (Q : List V → Hp → Prop), Inv X pins σ H s → t σ H Q → wpAny (model X.prog X.w) X.A (spliced (backTo pos (starEach es X.env))) (AP X pins σ Q) X.xe s
def PS (X : Cx) (st : Stmt) (t : TS) : Prop :=
  ∀ (pins : List (Addr × Obj)) (s : Shared) (σ : St) (H : Hp) (D : Ends), Inv X pins σ H s → t D σ H → wpAny (model X.prog X.w) X.A (exec st X.env) (SP X pins D) X.xe s
def PSs (X : Cx) (st : List Stmt) (t : TS) : Prop :=
  ∀ (pins : List (Addr × Obj)) (s : Shared) (σ : St) (H : Hp) (D : Ends), Inv X pins σ H s → t D σ H → wpAny (model X.prog X.w) X.A (execs st X.env) (SP X pins D) X.xe s
/-- weaken the end -/
theorem thn {α : Type} {t : Sem α} {Q Q' : α → Shared → Prop} {M : Model} {A : Around} {E : Value → Shared → Prop} {s : Shared} (h : wpAny M A t Q E s) (hQ : ∀ a s, Q a s → Q' a s) : wpAny M A t Q' E s := wpAny_mono h hQ fun _ _ x => x
end L2

namespace L2
open PySem PySem.Spec PyProof.Rows
section
variable {X : Cx}

def tVar (i : Nat) : TE := fun σ H Q => ∃ v, σ[i]? = some (some v) ∧ Q v H
def tC (v : V) : TE := fun _ H Q => Q v H
theorem pe_var {i : Nat} {x : Str} {pos : Pos} (hN : X.N[i]? = some x) (hv : Vis X.env.scope x) (hd : (x == ("__debug__" : Str)) = false := by decide) (hcd : (x == ("__classdict__" : Str)) = false := by decide) : PE X (.Name x pos) (tVar i) := by
  intro pins s σ H Q I h
  obtain ⟨v, e, h⟩ := h
  obtain ⟨m, hn, hl⟩ := I.loc
  obtain ⟨u, r, l⟩ := hl i x v hN e hv
  have fin : EP X pins σ Q u s := ⟨v, H, I, r, h⟩
  rcases l with ⟨hk, hm⟩ | ⟨hk, c, hc, hcell⟩
  · exact wpAny_Name (wpAny_loadName_local I.ok.kind hk hn hm fin) hd
  · rcases hk with hk | hk
    · exact wpAny_Name (wpAny_loadName_cell I.ok.kind hk hc hcell fin) hd
    · exact wpAny_Name (wpAny_loadName_free I.ok.kind hk hc hcell fin hcd) hd
theorem pe_int {i j pos} : PE X (.Constant (.int i) j pos) (tC (.int i)) := fun _ _ _ H _ I h => wpAny_Constant_int ⟨.int i, H, I.tok _, ⟨_, rfl⟩, h⟩
theorem pe_bl {b j pos} : PE X (.Constant (.bool b) j pos) (tC (.bl b)) := fun _ _ _ H _ I h => Constant_bool ⟨.bl b, H, I, rfl, h⟩
theorem pe_non {j pos} : PE X (.Constant .none j pos) (tC .non) := fun _ _ _ H _ I h => Constant_none ⟨.non, H, I, rfl, h⟩
theorem pe_str {x j pos} : PE X (.Constant (.str x) j pos) (tC (.str x)) := fun _ _ _ H _ I h => Calls.Constant_str ⟨.str x, H, I.tok _, ⟨_, rfl⟩, h⟩

/-- a global name of the def -/
def Gl (X : Cx) (x : Str) : Prop := X.env.kindOf x = some .globalImplicit
theorem ld_glob {E : Value → Shared → Prop} {pins : List (Addr × Obj)} {s : Shared} {σ : St} {H : Hp} {x : Str} {u : Value} {pos : Pos} {Q : Value → Shared → Prop} (I : Inv X pins σ H s) (hg : Gl X x) (hm : X.mg x = some u) (h : Q u s)
    (hd : (x == ("__debug__" : Str)) = false := by decide) : wpAny (model X.prog X.w) X.A (eval (.Name x pos) X.env) Q E s :=
  Calls.Name_function_global I.ok.kind hg (Calls.loadGlobal_global (by rw [I.ok.glob]; exact I.mod.glob.keeps I.bk) hm h) hd
theorem ld_blt {E : Value → Shared → Prop} {pins : List (Addr × Obj)} {s : Shared} {σ : St} {H : Hp} {x : Str} {u : Value} {pos : Pos} {Q : Value → Shared → Prop} (I : Inv X pins σ H s) (hg : Gl X x) (hm : X.mg x = none) (hv : bootBuiltins x = some u) (h : Q u s)
    (hn : x ≠ "__name__" := by decide) (hd : (x == ("__debug__" : Str)) = false := by decide) : wpAny (model X.prog X.w) X.A (eval (.Name x pos) X.env) Q E s := by
  obtain ⟨mb, h1, h2⟩ := I.mod.blt
  exact Calls.Name_function_global I.ok.kind hg (Calls.loadGlobal_builtin (by rw [I.ok.glob]; exact I.mod.glob.keeps I.bk) hm (by rw [I.ok.blt]; exact h1.keeps I.bk) ((h2 x hn).trans hv) h) hd
/-- a module's constant, a class, a function, as a value -/
theorem pe_glob {x : Str} {v : V} {u : Value} {pos : Pos} (hg : Gl X x) (hm : X.mg x = some u) (r : RelV v u) (hd : (x == ("__debug__" : Str)) = false := by decide) : PE X (.Name x pos) (tC v) :=
  fun _ _ _ H _ I h => ld_glob I hg hm ⟨v, H, I, r, h⟩ hd
theorem pe_bltn {x : Str} {v : V} {u : Value} {pos : Pos} (hg : Gl X x) (hm : X.mg x = none) (hv : bootBuiltins x = some u) (r : RelV v u) (hn : x ≠ "__name__" := by decide) (hd : (x == ("__debug__" : Str)) = false := by decide) : PE X (.Name x pos) (tC v) :=
  fun _ _ _ H _ I h => ld_blt I hg hm hv ⟨v, H, I, r, h⟩ hn hd

variable {a b : Expr} {ta tb : TE} {pos : Pos}
def PC (X : Cx) (op : CmpOp) (a b : Expr) (t : TE) : Prop :=
  ∀ (pins : List (Addr × Obj)) (s : Shared) (σ : St) (H : Hp) (Q : VK), Inv X pins σ H s → t σ H Q →
    wpAny (model X.prog X.w) X.A (eval a X.env) (fun v s₁ => wpAny (model X.prog X.w) X.A (eval b X.env) (fun u s₂ => wpAny (model X.prog X.w) X.A (compareOp op v u) (EP X pins σ Q) X.xe s₂) X.xe s₁) X.xe s
/-- a comparison as a value, as a test -/
def tB (t : TE) : TT := fun σ H Q => t σ H fun x H1 => ∃ c, x = .bl c ∧ Q c H1
theorem pe_cmp {op : CmpOp} {t : TE} (h : PC X op a b t) (h1 : behindInMarks op b = false := by first | exact nobehind _ (by decide) (by decide) | rfl) : PE X (.Compare a [op] [b] pos) t := fun pins s σ H Q I hw => wpAny_Compare1 (h pins s σ H Q I hw) h1
/-- an expression whose value is a bool, as a test -/
theorem pt_val {e : Expr} {t : TE} (h : PE X e t) (he : ∀ whole, isTrue e X.env whole = (do let v ← whole; standAt e.pos; holding [v] (truthy v)) := by intro _; rfl) : PT X e (tB t) := by
  intro pins s σ H Q I hw
  refine isTrue_plain (thn (h pins s σ H _ I hw) fun v s1 ⟨x, H1, I1, r1, q1⟩ => ?_) (he _)
  obtain ⟨d, rfl, q⟩ := q1
  cases r1
  exact wpAny_truthy_bool ⟨H1, I1, q⟩

variable {tA tB' : TT} {rest : List Expr}
def tAnd (t u : TT) : TT := fun σ H Q => t σ H fun c H1 => if c = true then u σ H1 Q else Q false H1
def tOr (t u : TT) : TT := fun σ H Q => t σ H fun c H1 => if c = true then Q true H1 else u σ H1 Q
def tNot (t : TT) : TT := fun σ H Q => t σ H fun c H1 => Q (!c) H1
theorem pw_and1 (ha : PT X a tA) : PW X (.BoolOp .And [a] pos) tA := by
  intro wh pins s σ H Q I h
  refine isTrue_and (thn (ha pins s σ H Q I h) fun c s1 e => ?_)
  cases c with
  | true => exact isTrue_and_nil e
  | false => exact e
theorem pw_or1 (ha : PT X a tA) : PW X (.BoolOp .Or [a] pos) tA := by
  intro wh pins s σ H Q I h
  refine isTrue_or (thn (ha pins s σ H Q I h) fun c s1 e => ?_)
  cases c with
  | false => exact isTrue_or_nil e
  | true => exact e
theorem pw_and (ha : PT X a tA) (hb : PW X (.BoolOp .And (b :: rest) pos) tB') : PW X (.BoolOp .And (a :: b :: rest) pos) (tAnd tA tB') := by
  intro wh pins s σ H Q I h
  refine isTrue_and (thn (ha pins s σ H _ I h) fun c s1 ⟨H1, I1, q1⟩ => ?_)
  cases c with
  | true => exact hb wh pins s1 σ H1 Q I1 q1
  | false => exact ⟨H1, I1, q1⟩
theorem pw_or (ha : PT X a tA) (hb : PW X (.BoolOp .Or (b :: rest) pos) tB') : PW X (.BoolOp .Or (a :: b :: rest) pos) (tOr tA tB') := by
  intro wh pins s σ H Q I h
  refine isTrue_or (thn (ha pins s σ H _ I h) fun c s1 ⟨H1, I1, q1⟩ => ?_)
  cases c with
  | true => exact ⟨H1, I1, q1⟩
  | false => exact hb wh pins s1 σ H1 Q I1 q1
theorem pt_not (ha : PT X a tA) : PT X (.UnaryOp .Not a pos) (tNot tA) := by
  intro pins s σ H Q I h
  exact isTrue_not (ha pins s σ H (fun c H1 => Q (!c) H1) I h)
/-- .. as values (bools) -/
def tAndV (ta tb : TE) : TE := fun σ H Q => ta σ H fun x H1 => ∃ c, x = .bl c ∧ if c = true then tb σ H1 Q else Q (.bl false) H1
def tOrV (ta tb : TE) : TE := fun σ H Q => ta σ H fun x H1 => ∃ c, x = .bl c ∧ if c = true then Q (.bl true) H1 else tb σ H1 Q
def tNotV (ta : TE) : TE := fun σ H Q => ta σ H fun x H1 => ∃ c, x = .bl c ∧ Q (.bl (!c)) H1
theorem pe_one {op} {t : TE} (h : PE X a t) : PE X (.BoolOp op [a] pos) t := fun pins s σ H Q I hw => BoolOp_one (h pins s σ H Q I hw)
theorem pe_and (ha : PE X a ta) (hb : PE X (.BoolOp .And (b :: rest) pos) tb) : PE X (.BoolOp .And (a :: b :: rest) pos) (tAndV ta tb) := by
  intro pins s σ H Q I h
  refine BoolOp_and (thn (ha pins s σ H _ I h) fun v s1 ⟨x, H1, I1, r1, q1⟩ => ?_)
  obtain ⟨c, rfl, q1⟩ := q1
  cases r1
  refine wpAny_truthy_bool ?_
  cases c with
  | true => exact hb pins s1 σ H1 Q I1 q1
  | false => exact ⟨.bl false, H1, I1, rfl, q1⟩
theorem pe_not (ha : PE X a ta) : PE X (.UnaryOp .Not a pos) (tNotV ta) := by
  intro pins s σ H Q I h
  refine UnaryOp_ (thn (ha pins s σ H _ I h) fun v s1 ⟨x, H1, I1, r1, q1⟩ => ?_)
  obtain ⟨c, rfl, q1⟩ := q1
  cases r1
  exact not_of (wpAny_truthy_bool ⟨.bl (!c), H1, I1, rfl, q1⟩)
/-- a if t else b -/
def tIf (t : TT) (ta tb : TE) : TE := fun σ H Q => t σ H fun c H1 => if c = true then ta σ H1 Q else tb σ H1 Q
theorem pe_ifExp {c : Expr} (hc : PT X c tA) (ha : PE X a ta) (hb : PE X b tb) : PE X (.IfExp c a b pos) (tIf tA ta tb) := by
  intro pins s σ H Q I h
  refine wpAny_IfExp (thn (hc pins s σ H _ I h) fun d s1 ⟨H1, I1, q1⟩ => ?_)
  cases d with
  | true => exact ha pins s1 σ H1 Q I1 q1
  | false => exact hb pins s1 σ H1 Q I1 q1
end
end L2

namespace L2
open PySem PySem.Spec PyProof.Rows

def SqL (K : PySem.W.Frag) (H : Hp) (a : Addr) (xs : List V) : Prop :=
  Rd H a (.lst xs) ∨
    ∃ (o : Obj) (its : Array Value) (n : Nat), K.lookup a = some o ∧ o.cls = .type "list" ∧ o.dict = none ∧ o.data = .seq its n ∧ its.size ≤ sizeLine ∧ Vals xs its.toList
def SqT (K : PySem.W.Frag) (H : Hp) (a : Addr) (xs : List V) : Prop :=
  Rd H a (.tup xs) ∨
    ∃ (o : Obj) (its : Array Value) (n : Nat), K.lookup a = some o ∧ o.cls = .type "tuple" ∧ o.data = .seq its n ∧ its.size ≤ sizeLine ∧ Vals xs its.toList
def absV : Value → Option V
  | .none => some .non
  | .bool b => some (.bl b)
  | .int i _ => some (.int i)
  | .str x _ => some (.str x)
  | .bytes b _ => some (.byt b)
  | .float b _ => some (.flt b)
  | .ref a => some (.ref a)
  | .type n => some (.ty n)
  | _ => none
theorem RelV.abs {x : V} {u : Value} (r : RelV x u) : absV u = some x := by
  cases x with
  | non => cases r; rfl
  | bl _ => cases r; rfl
  | int _ => obtain ⟨t, rfl⟩ := r; rfl
  | str _ => obtain ⟨t, rfl⟩ := r; rfl
  | byt _ => obtain ⟨t, rfl⟩ := r; rfl
  | flt _ => obtain ⟨t, rfl⟩ := r; rfl
  | ref _ => cases r; rfl
  | ty _ => cases r; rfl
theorem RelV.inj {x y : V} {u : Value} (r : RelV x u) (q : RelV y u) : x = y := Option.some.inj (r.abs.symm.trans q.abs)
theorem Vals.inj : ∀ {xs ys : List V} {us : List Value}, Vals xs us → Vals ys us → xs = ys
  | _, _, _, .nil, .nil => rfl
  | _, _, _, .cons r t, .cons r' t' => by rw [r.inj r', Vals.inj t t']
section
variable {X : Cx} {pins : List (Addr × Obj)} {σ : St} {H : Hp} {s : Shared} {a : Addr} {xs ys : List V}
theorem SqL.of {K : PySem.W.Frag} (h : H a = some (.lst xs)) : SqL K H a xs := .inl (.inl h)
theorem SqT.of {K : PySem.W.Frag} (h : H a = some (.tup xs)) : SqT K H a xs := .inl (.inl h)
theorem Inv.list (I : Inv X pins σ H s) (h : SqL X.K H a xs) : ∃ its : List Value, Vals xs its ∧ PlainL s.heap a its.toArray ∧ xs.length ≤ sizeLine := by
  rcases h with h | ⟨o, its, n, hk, hc, hd, hs, hz, r⟩
  · obtain ⟨z, its, n, r, e⟩ := h.ok I.hok
    exact ⟨its, r, ⟨_, n, e, rfl, rfl, rfl⟩, z⟩
  · refine ⟨its.toList, r, ⟨o, n, I.kIn a o hk, hc, hd, by simpa using hs⟩, ?_⟩
    have e := r.length
    simp only [Array.length_toList] at e
    omega
theorem Inv.tuple (I : Inv X pins σ H s) (h : SqT X.K H a xs) : ∃ its : List Value, Vals xs its ∧ IsTup s.heap a its.toArray ∧ xs.length ≤ sizeLine := by
  rcases h with h | ⟨o, its, n, hk, hc, hs, hz, r⟩
  · obtain ⟨z, its, r, p⟩ := h.ok I.hok
    exact ⟨its, r, p, z⟩
  · refine ⟨its.toList, r, ⟨o, I.kIn a o hk, hc, n, by simpa using hs⟩, ?_⟩
    have e := r.length
    simp only [Array.length_toList] at e
    omega
theorem Inv.list_inj (I : Inv X pins σ H s) (h : SqL X.K H a xs) (h' : SqL X.K H a ys) : xs = ys := by
  obtain ⟨its, r, ⟨o, n, e, _, _, d⟩, _⟩ := I.list h
  obtain ⟨its', r', ⟨o', n', e', _, _, d'⟩, _⟩ := I.list h'
  rw [e] at e'; cases e'
  rw [d] at d'
  injection d' with d1 _
  have : its = its' := by simpa using congrArg Array.toList d1
  subst this
  exact r.inj r'
end

abbrev Cx.wish (X : Cx) (E : Value → Shared → Prop) : Cx := { X with xe := E }
/-- no exception leaves -/
abbrev Cx.nox (X : Cx) : Cx := X.wish fun _ _ => False
theorem Cx.Ok.wish {X : Cx} (ok : X.Ok) (E : Value → Shared → Prop) : (X.wish E).Ok :=
  ⟨ok.mod, ok.kind, ok.glob, ok.blt, ok.above, ok.inj, ok.has, ok.cab, ok.hd, ok.frames, ok.stk, ok.exf, ok.bs, ok.bsz, ok.noex, ok.exfs, ok.funs, ok.frf⟩
theorem Cx.Ok.unwish {X : Cx} {E : Value → Shared → Prop} (ok : (X.wish E).Ok) : X.Ok :=
  ⟨ok.mod, ok.kind, ok.glob, ok.blt, ok.above, ok.inj, ok.has, ok.cab, ok.hd, ok.frames, ok.stk, ok.exf, ok.bs, ok.bsz, ok.noex, ok.exfs, ok.funs, ok.frf⟩
section
variable {X : Cx} {pins : List (Addr × Obj)} {σ : St} {H : Hp} {s : Shared} {E : Value → Shared → Prop}
theorem Inv.wish (I : Inv X pins σ H s) (E : Value → Shared → Prop) : Inv (X.wish E) pins σ H s := ⟨I.ok.wish E, I.os, I.bare, I.base, I.loc, I.cell, I.free, I.freeC, I.pin, I.hok, I.len⟩
theorem Inv.unwish (I : Inv (X.wish E) pins σ H s) : Inv X pins σ H s := ⟨I.ok.unwish, I.os, I.bare, I.base, I.loc, I.cell, I.free, I.freeC, I.pin, I.hok, I.len⟩
theorem SP.unwish {D : Ends} {f : Flow} {s' : Shared} (h : SP (X.wish E) pins D f s') : SP X pins D f s' := by
  cases f with
  | next => obtain ⟨σ', H', I, q⟩ := h; exact ⟨σ', H', I.unwish, q⟩
  | brk => obtain ⟨σ', H', I, q⟩ := h; exact ⟨σ', H', I.unwish, q⟩
  | cont => obtain ⟨σ', H', I, q⟩ := h; exact ⟨σ', H', I.unwish, q⟩
  | ret u => obtain ⟨v, σ', H', I, r, q⟩ := h; exact ⟨v, σ', H', I.unwish, r, q⟩
theorem PSs.nox {st : List Stmt} {t : TS} (h : PSs X.nox st t) : PSs X st t := fun pins s σ H D I hw =>
  wpAny_mono (h pins s σ H D (I.wish _) hw) (fun _ _ q => q.unwish) fun _ _ z => False.elim z
end

section
variable {X : Cx} {st : Stmt} {rest : List Stmt} {t u : TS} {e : Expr} {te : TE} {pos : Pos}
def tNext : TS := fun D σ H => D.nx σ H
def tSeq (t u : TS) : TS := fun D σ H => t { D with nx := u D } σ H
theorem pss_nil : PSs X [] tNext := fun _ _ σ H _ I h => wpAny_execs_nil ⟨σ, H, I, h⟩
theorem pss_cons (h1 : PS X st t) (h2 : PSs X rest u) : PSs X (st :: rest) (tSeq t u) := by
  intro pins s σ H D I h
  refine wpAny_execs_cons (thn (h1 pins s σ H { D with nx := u D } I h) fun f s1 q => ?_)
  cases f with
  | next =>
    obtain ⟨σ', H', I', q⟩ := q
    exact h2 pins s1 σ' H' D I' q
  | ret v => exact q
  | brk => exact q
  | cont => exact q
theorem pss_one (h1 : PS X st t) : PSs X [st] t := by
  intro pins s σ H D I h
  refine wpAny_execs_cons (thn (h1 pins s σ H D I h) fun f s1 q => ?_)
  cases f with
  | next => exact wpAny_execs_nil q
  | ret v => exact q
  | brk => exact q
  | cont => exact q
def tBreak : TS := fun D σ H => D.bk σ H
/-- in a def's body nothing is shown -/
theorem Inv.quiet {pins : List (Addr × Obj)} {σ : St} {H : Hp} {s : Shared} (I : Inv X pins σ H s) : interactive X.env = false := by simp [interactive, I.ok.kind]
/-- an expression whose value is dropped -/
def tDrop (te : TE) : TS := fun D σ H => te σ H fun _ H1 => D.nx σ H1
theorem ps_expr (he : PE X e te) (hs : swapsWith e none pos.line X.env = pure false := by rfl) : PS X (.Expr e pos) (tDrop te) := by
  intro pins s σ H D I h
  exact wpAny_Expr_any (thn (he pins s σ H _ I h) fun v s1 ⟨x, H1, I1, r1, q1⟩ => ⟨σ, H1, I1, q1⟩) I.quiet hs
def tRet (te : TE) : TS := fun D σ H => te σ H D.rt
theorem ps_ret (he : PE X e te) : PS X (.Return (some e) pos) (tRet te) := by
  intro pins s σ H D I h
  exact wpAny_Return_some (thn (he pins s σ H _ I h) fun v s1 ⟨x, H1, I1, r1, q1⟩ => ⟨x, σ, H1, I1, r1, q1⟩)
def tRetN : TS := fun D _ H => D.rt .non H
def tIfS (c : TT) (t u : TS) : TS := fun D σ H => c σ H fun b H1 => if b = true then t D σ H1 else u D σ H1
theorem ps_if {c : Expr} {a b : List Stmt} {tc : TT} (hc : PT X c tc) (ha : PSs X a t) (hb : PSs X b u) : PS X (.If c a b pos) (tIfS tc t u) := by
  intro pins s σ H D I h
  refine wpAny_If (thn (hc pins s σ H _ I h) fun d s1 ⟨H1, I1, q1⟩ => ?_)
  cases d with
  | true => exact ha pins s1 σ H1 D I1 q1
  | false => exact hb pins s1 σ H1 D I1 q1
/-- code that the proof never comes to -/
def tNever : TS := fun _ _ _ => False
theorem ps_never : PS X st tNever := fun _ _ _ _ _ _ h => h.elim
end

abbrev TG := V → St → Hp → (St → Hp → Prop) → Prop
abbrev TGs := List V → St → Hp → (St → Hp → Prop) → Prop
def PG (X : Cx) (target : Expr) (t : TG) : Prop :=
  ∀ (pins : List (Addr × Obj)) (s : Shared) (σ : St) (H : Hp) (v : V) (u : Value) (Q : St → Hp → Prop), Inv X pins σ H s → RelV v u → t v σ H Q →
    wpAny (model X.prog X.w) X.A (assign target X.env u) (fun _ s' => ∃ σ' H', Inv X pins σ' H' s' ∧ Q σ' H') X.xe s
/-- several targets, one after another -/
def PGs (X : Cx) (ts : List Expr) (t : TGs) : Prop :=
  ∀ (pins : List (Addr × Obj)) (s : Shared) (σ : St) (H : Hp) (vs : List V) (us : List Value) (Q : St → Hp → Prop), Inv X pins σ H s → Vals vs us → t vs σ H Q →
    wpAny (model X.prog X.w) X.A (assignInOrder ((assignEach ts X.env).map (·.2)) us) (fun _ s' => ∃ σ' H', Inv X pins σ' H' s' ∧ Q σ' H') X.xe s
/-- o[i] = v, by values -/
abbrev TSet := V → V → V → Hp → (Hp → Prop) → Prop
def PSet (X : Cx) (t : TSet) : Prop :=
  ∀ (pins : List (Addr × Obj)) (s : Shared) (σ : St) (H : Hp) (o i v : V) (ov iv u : Value) (Q : Hp → Prop), Inv X pins σ H s → RelV o ov → RelV i iv → RelV v u → t o i v H Q →
    wpAny (model X.prog X.w) X.A (setItem ov iv u) (fun _ s' => ∃ H', Inv X pins σ H' s' ∧ Q H') X.xe s
/-- a op= b, by values -/
abbrev TIp := V → V → Hp → VK → Prop
section
variable {X : Cx} {pos : Pos}
def gName (i : Nat) : TG := fun v σ H Q => Q (σ.set i (some v)) H
theorem pg_name {i : Nat} {x : Str} (hN : X.N.Nodup) (hi : X.N[i]? = some x) (hx : Loc X.env.scope x) (hf : X.fn x = true ∨ X.env.scope.names.lookup x = some .local := by first | exact .inl rfl | exact .inr rfl | assumption) : PG X (.Name x pos) (gName i) := by
  intro pins s σ H v u Q I r h
  exact wpAny_assign_Name (store_ok I hN hi hx r (fun s' I' => ⟨_, H, I', h⟩) hf)
def gNil : TGs := fun vs σ H Q => vs = [] ∧ Q σ H
def gCons (t : TG) (u : TGs) : TGs := fun vs σ H Q => ∃ v r, vs = v :: r ∧ t v σ H fun σ' H' => u r σ' H' Q
theorem pgs_nil : PGs X [] gNil := by
  intro pins s σ H vs us Q I r h
  obtain ⟨e, h⟩ := h
  subst e
  cases r
  exact assignInOrder_nil ⟨σ, H, I, h⟩
theorem pgs_cons {e : Expr} {es : List Expr} {t : TG} {u : TGs} (h1 : PG X e t) (h2 : PGs X es u)
    (hs : (assignEach (e :: es) X.env).map (·.2) = assign e X.env :: (assignEach es X.env).map (·.2) := by rfl) : PGs X (e :: es) (gCons t u) := by
  intro pins s σ H vs us Q I r h
  obtain ⟨v, vr, e1, h⟩ := h
  subst e1
  cases r with
  | cons r rr =>
    rw [hs]
    refine assignInOrder_cons (thn (h1 pins s σ H _ _ _ I r h) fun _ s1 ⟨σ1, H1, I1, q1⟩ => ?_)
    exact h2 pins s1 σ1 H1 _ _ Q I1 rr q1
/-- (a, b, ..) = a tuple of that length -/
def gTup (K : PySem.W.Frag) (n : Nat) (t : TGs) : TG := fun v σ H Q => ∃ a xs, v = .ref a ∧ SqT K H a xs ∧ xs.length = n ∧ t xs σ H Q
theorem pg_tup {es : List Expr} {k : Nat} {t : TGs} {n : Nat} (hc : X.calm = true) (h : PGs X es t)
    (hn : (assignEach es X.env).length = n := by rfl) (hst : (assignEach es X.env).findIdx? (·.1) = none := by rfl) : PG X (.Tuple es k pos) (gTup X.K n t) := by
  intro pins s σ H v u Q I r hw
  obtain ⟨a, xs, e1, hq, hl, hw⟩ := hw
  subst e1
  cases r
  obtain ⟨its, rv, ht, hz⟩ := I.tuple hq
  refine assign_Tuple_tuple (I.ok.hd hc) ht (by simp [hn, ← hl, rv.length]) hst fun h' hx => ?_
  have I1 : Inv X pins σ H { s with heap := h' } := I.kept (t' := s.toks) fun b o e => hx b o (Nat.ne_of_lt (Heap.lt_size e)) e
  exact h pins _ σ H xs _ Q I1 (by simpa using rv) hw
/-- o[i] = .. -/
def gSub (to ti : TE) (t : TSet) : TG := fun v σ H Q => to σ H fun o H1 => ti σ H1 fun i H2 => t o i v H2 fun H3 => Q σ H3
theorem pg_sub {o i : Expr} {to ti : TE} {t : TSet} (ho : PE X o to) (hi : PE X i ti) (hs : PSet X t)
    (ha : ∀ v, assign (.Subscript o i pos) X.env v = (do
      let ov ← holding [v] (eval o X.env)
      let iv ← holding [v, ov] (eval i X.env)
      standAt pos
      holding [v, ov, iv] (setItem ov iv v)
      release [v, ov, iv] []) := by intro _; rfl) : PG X (.Subscript o i pos) (gSub to ti t) := by
  intro pins s σ H v u Q I r h
  rw [ha]
  refine wpAny_bind (wpAny_holding (thn (ho pins s σ H _ I h) fun ov s1 ⟨x, H1, I1, r1, q1⟩ => ?_))
  refine wpAny_bind (wpAny_holding (thn (hi pins s1 σ H1 _ I1 q1) fun iv s2 ⟨y, H2, I2, r2, q2⟩ => ?_))
  refine wpAny_bind (wpAny_standAt (wpAny_bind (wpAny_holding (thn (hs pins s2 σ H2 x y v ov iv u _ I2 r1 r2 r q2) fun _ s3 ⟨H3, I3, q3⟩ => ?_))))
  exact wpAny_release ⟨σ, H3, I3, q3⟩
/-- target = value -/
def tAsg (te : TE) (g : TG) : TS := fun D σ H => te σ H fun x H1 => g x σ H1 D.nx
theorem ps_asg {tg e : Expr} {te : TE} {g : TG} (he : PE X e te) (hg : PG X tg g) (hs : swapsWithSole [tg] e pos.line X.env = pure false := by rfl) (hw : swappedStores [tg] e X.env = pure none := by rfl)
    (h1 : (assignEach [tg] X.env).map (·.2) = [assign tg X.env] := by rfl) : PS X (.Assign [tg] e pos) (tAsg te g) := by
  intro pins s σ H D I h
  refine wpAny_Assign_stores (thn (he pins s σ H _ I h) fun v s1 ⟨x, H1, I1, r1, q1⟩ => ?_) hs hw
  rw [h1]
  exact thn (hg pins s1 σ H1 x v _ I1 r1 q1) fun _ s2 q => q
/-- name = value -/
theorem ps_set {i : Nat} {x : Str} {e : Expr} {te : TE} {pos' : Pos} (hN : X.N.Nodup) (hi : X.N[i]? = some x) (hx : Loc X.env.scope x) (he : PE X e te) (hs : swapsWith e (some (.Name x pos')) pos.line X.env = pure false := by rfl) (hf : X.fn x = true ∨ X.env.scope.names.lookup x = some .local := by first | exact .inl rfl | exact .inr rfl | assumption) :
    PS X (.Assign [.Name x pos'] e pos) (tAsg te (gName i)) := by
  intro pins s σ H D I h
  refine wpAny_Assign_Name (thn (he pins s σ H _ I h) fun v s1 ⟨y, H1, I1, r1, q1⟩ => ?_) hs
  exact store_ok I1 hN hi hx r1 (fun s2 I2 => ⟨_, H1, I2, q1⟩) hf
/-- a, b = x, y with plain local names: stored from the right; the pair itself is not tracked (the opening rows as in PyProof/Rows/TupAssign.lean:23) -/
def tPar (i j : Nat) (ta : TA) : TS := fun D σ H => ta σ H fun vs H1 => ∃ v w, vs = [v, w] ∧ D.nx ((σ.set i (some v)).set j (some w)) H1
/-- name op= e -/
def tAug (i : Nat) (te : TE) (ti : TIp) : TS := fun D σ H => ∃ x, σ[i]? = some (some x) ∧ te σ H fun y H1 => ti x y H1 fun z H2 => D.nx (σ.set i (some z)) H2
/-- ints -/
def ipI (f : Int → Int → Int) : TIp := fun x y H Q => ∃ i j, x = .int i ∧ y = .int j ∧ Q (.int (f i j)) H
end

section
variable {X : Cx} {pos : Pos}
end

/-- at turn i: it yields x (the heap may grow), or it stops -/
structure It where
  go : Nat → Hp → Prop
  yld : Nat → Hp → V → Hp → Prop
  stop : Nat → Hp → Prop
/-- the iterator's own objects may turn: they are not the frame's, not pinned, younger than the entry (or a comprehension's own) -/
def FpOk (X : Cx) (pins : List (Addr × Obj)) (H : Hp) (b : Addr) : Prop :=
  H b = none ∧ b ≠ X.env.locals ∧ b ∉ X.fs ∧ (b ∈ X.ex ∨ X.s₀.heap.objs.size ≤ b) ∧ (∀ x c, X.env.cells.lookup x = some c → c ≠ b) ∧ ∀ p ∈ X.pn ++ pins, p.1 ≠ b
theorem Inv.fpOk {X : Cx} {pins : List (Addr × Obj)} {σ : St} {H H' : Hp} {s : Shared} {b : Addr} (I : Inv X pins σ H s) (hb : s.heap.objs.size ≤ b) (hn : H' b = none) : FpOk X pins H' b := by
  refine ⟨hn, Nat.ne_of_gt (Nat.lt_of_lt_of_le I.lt hb), I.nofs hb, .inr (Nat.le_trans I.sz hb), fun x c e z => ?_, fun p hp z => ?_⟩
  · obtain ⟨v, q⟩ := I.cell x c e
    exact absurd (Nat.lt_of_lt_of_le q.lt (by rw [z]; exact hb)) (Nat.lt_irrefl _)
  · exact absurd (Nat.lt_of_lt_of_le (Heap.lt_size (I.pin p hp).1) (by rw [z]; exact hb)) (Nat.lt_irrefl _)
structure Turn (P : Program) (w : World) (K : PySem.W.Frag) (tg : Expr) (J : It) (fp : List Addr) (it : Addr) (tn : Nat → Heap → Prop) : Prop where
  mem : it ∈ fp
  obj : ∀ i h, tn i h → ∀ b ∈ fp, ∃ o, h.get? b = some o ∧ ∀ v, o.data ≠ .cell v
  keep : ∀ i h h', tn i h → (∀ b ∈ fp, ∀ o, h.get? b = some o → h'.get? b = some o) → tn i h'
  item : ∀ (X : Cx), X.prog = P → X.w = w → X.K = K → X.calm = true → ∀ (i : Nat) (pins : List (Addr × Obj)) (s : Shared) (σ : St) (H : Hp) (E : Value → Shared → Prop), Inv X pins σ H s → (∀ b ∈ fp, FpOk X pins H b) → tn i s.heap → J.go i H →
    wpAny (model P w) X.A (pyNext (.ref it)) (fun r s1 => ∃ u, r = some u ∧
      wpAny (model P w) X.A (letOwnedTupleGo tg (.ref it) u) (fun _ s2 => ∃ x H', Inv X pins σ H' s2 ∧ RelV x u ∧ J.yld i H x H' ∧ tn (i + 1) s2.heap ∧ ∀ b ∈ fp, H' b = none) E s1) E s
  done : ∀ (X : Cx), X.prog = P → X.w = w → X.K = K → X.calm = true → ∀ (i : Nat) (pins : List (Addr × Obj)) (s : Shared) (σ : St) (H : Hp) (E : Value → Shared → Prop), Inv X pins σ H s → (∀ b ∈ fp, FpOk X pins H b) → tn i s.heap → J.stop i H →
    wpAny (model P w) X.A (pyNext (.ref it)) (fun r s1 => r = none ∧ Inv X pins σ H s1) E s
  self : ∀ (A : Around) (i : Nat) (s : Shared) (Q : Value → Shared → Prop) (E : Value → Shared → Prop), tn i s.heap → Q (.ref it) s → wpAny (model P w) A (pyIter (.ref it)) Q E s
abbrev TI := St → Hp → (It → Hp → Prop) → Prop
/-- an iterator has come -/
def PIE (X : Cx) (pins : List (Addr × Obj)) (σ : St) (tg : Expr) (R : It → Hp → Prop) (itv : Value) (s2 : Shared) : Prop :=
  ∃ (it : Addr) (fp : List Addr) (tn : Nat → Heap → Prop) (J : It) (H' : Hp), itv = .ref it ∧ Inv X pins σ H' s2 ∧ Turn X.prog X.w X.K tg J fp it tn ∧ tn 0 s2.heap ∧ (∀ b ∈ fp, FpOk X pins H' b) ∧ R J H'
def PI (X : Cx) (tg iter : Expr) (wi : TI) : Prop :=
  ∀ (pins : List (Addr × Obj)) (s : Shared) (σ : St) (H : Hp) (R : It → Hp → Prop), Inv X pins σ H s → wi σ H R →
    wpAny (model X.prog X.w) X.A (eval iter X.env) (fun v s1 => wpAny (model X.prog X.w) X.A (pyIter v) (PIE X pins σ tg R) X.xe s1) X.xe s

/-- the step ahead of the store is nothing for an iterator that keeps no tuple -/
theorem go_of {M : Model} {A : Around} {E : Value → Shared → Prop} {s : Shared} {tg : Expr} {it : Addr} {u : Value} {o : Obj} {n : String} {vs : Array Value} {Q : Unit → Shared → Prop} (ho : s.heap.get? it = some o) (hc : o.cls = .type n) (hd : o.data = .fields vs)
    (hn : ["enumerate", "zip", "dict_itemiterator", "dict_reverseitemiterator", "odict_iterator", "itertools.zip_longest", "itertools.pairwise"].contains n = false) (hQ : Q () s) : wpAny M A (letOwnedTupleGo tg (.ref it) u) Q E s := by
  unfold letOwnedTupleGo
  cases tg <;> first
    | exact wpAny_pure hQ
    | (cases u <;> first
        | exact wpAny_pure hQ
        | (refine wpAny_bind (wpAny_load ho ?_)
           rw [hc, hd]
           show wpAny M A (if (["enumerate", "zip", "dict_itemiterator", "dict_reverseitemiterator", "odict_iterator", "itertools.zip_longest", "itertools.pairwise"].contains n && vs[0]? == some (rawInt _)) = true then _ else _) Q E s
           rw [if_neg (by intro h; rw [hn, Bool.false_and] at h; cases h)]
           exact wpAny_pure hQ))

/-- the list at a, as it stands at each turn (a loop may append to it) -/
def Itl (K : PySem.W.Frag) (a : Addr) : It :=
  ⟨fun i H => ∃ xs x, SqL K H a xs ∧ xs[i]? = some x, fun i H x H' => H' = H ∧ ∀ xs, SqL K H a xs → xs[i]? = some x, fun i H => ∃ xs, SqL K H a xs ∧ xs.length ≤ i⟩
/-- lo, lo + 1, .. (n of them) -/
def Itr (lo : Int) (n : Nat) : It := ⟨fun i _ => i < n, fun i H x H' => H' = H ∧ x = .int (lo + i), fun i _ => n ≤ i⟩
theorem turn_list {P : Program} {w : World} {K : PySem.W.Frag} {tg : Expr} (a it : Addr) : Turn P w K tg (Itl K a) [it] it (fun i h => h.IsListIter it a i) where
  mem := by simp
  obj := fun i h st b hb => by
    have e : b = it := by simpa using hb
    subst e
    obtain ⟨o, e, c, d⟩ := st
    exact ⟨o, e, fun v z => by rw [d] at z; cases z⟩
  keep := fun i h h' st k => st.at fun o e => k it (by simp) o e
  item := by
    intro X hP hw hK hc i pins s σ H E I hf st hg
    subst hP hw hK
    obtain ⟨xs, x, hq, hx⟩ := hg
    obtain ⟨its, rv, p, hz⟩ := I.list hq
    obtain ⟨u, hu, ru⟩ := rv.get hx
    obtain ⟨f0, f1, f2, f3, f4, f5⟩ := hf it (by simp)
    refine wpAny_pyNext_list_item st p.isList (x := u) (by simpa using hu) fun h' st' sb => ?_
    have I1 : Inv X pins σ H { s with heap := h' } := I.turned (t' := s.toks) (fun b o hb e => (sb.2 b hb).trans e) f0 f1 f3 f4 f5
    obtain ⟨o, e, c, d⟩ := id st'
    exact ⟨u, rfl, go_of (s := { s with heap := h' }) e c d (by decide) ⟨x, H, I1, ru, ⟨rfl, fun ys hy => by rw [I.list_inj hy hq]; exact hx⟩, st', fun b hb => (hf b hb).1⟩⟩
  done := by
    intro X hP hw hK hc i pins s σ H E I hf st hg
    subst hP hw hK
    obtain ⟨xs, hq, hx⟩ := hg
    obtain ⟨its, rv, p, hz⟩ := I.list hq
    obtain ⟨f0, f1, f2, f3, f4, f5⟩ := hf it (by simp)
    have hl := rv.length
    exact wpAny_pyNext_list_end (I.ok.hd hc) st p.isList (by simp; omega) fun h' eb => ⟨rfl, I.turned (t' := s.toks) (fun b o hb e => eb b o hb e) f0 f1 f3 f4 f5⟩
  self := fun _ _ _ _ _ st h => wpAny_pyIter_listiter st h
theorem turn_range {P : Program} {w : World} {K : PySem.W.Frag} {tg : Expr} (it : Addr) (lo : Int) (n : Nat) : Turn P w K tg (Itr lo n) [it] it (fun i h => IsRangeIter h it (lo + (i : Nat) * 1) ((n : Int) - (i : Nat)) 1) where
  mem := by simp
  obj := fun i h st b hb => by
    have e : b = it := by simpa using hb
    subst e
    exact ⟨_, st, fun v z => by
      have z' : Data.fields _ = Data.cell v := z
      cases z'⟩
  keep := fun i h h' st k => k it (by simp) _ st
  item := by
    intro X hP hw hK hc i pins s σ H E I hf st hg
    subst hP hw hK
    obtain ⟨f0, f1, f2, f3, f4, f5⟩ := hf it (by simp)
    have W := Walks.range (prog := X.prog) (w := X.w) (I.ok.hd hc) it lo 1 n
    refine W.item i s _ _ hg st fun v h' tk hv st' kk => ?_
    obtain ⟨t, rfl⟩ := hv
    have I1 : Inv X pins σ H { s with heap := h', toks := tk } := I.turned (fun b o hb e => kk b o (by simpa using hb) e) f0 f1 f3 f4 f5
    refine ⟨_, rfl, go_of (s := { s with heap := h', toks := tk }) (n := "range_iterator") st' rfl rfl (by decide) ⟨.int (lo + i), H, I1, ⟨t, ?_⟩, ⟨rfl, rfl⟩, st', fun b hb => (hf b hb).1⟩⟩
    rw [Int.mul_one]
  done := by
    intro X hP hw hK hc i pins s σ H E I hf st hg
    subst hP hw hK
    obtain ⟨f0, f1, f2, f3, f4, f5⟩ := hf it (by simp)
    exact wpAny_pyNext_range_end (I.ok.hd hc) st (by have : n ≤ i := hg; omega) fun h' eb => ⟨rfl, I.turned (t' := s.toks) (fun b o hb e => eb b o hb e) f0 f1 f3 f4 f5⟩
  self := fun _ _ _ _ _ st h => wpAny_pyIter_rangeiter st h
end L2

namespace L2
open PySem PySem.Spec PyProof.Rows
section
variable {X : Cx} {tg : Expr}
def iList (K : PySem.W.Frag) (tl : TE) : TI := fun σ H R => tl σ H fun x H1 => ∃ a, x = .ref a ∧ (∃ xs, SqL K H1 a xs) ∧ R (Itl K a) H1
theorem pi_list {l : Expr} {tl : TE} (hl : PE X l tl) : PI X tg l (iList X.K tl) := by
  intro pins s σ H R I h
  refine thn (hl pins s σ H _ I h) fun v s1 ⟨x, H1, I1, r1, q1⟩ => ?_
  obtain ⟨a, e, ⟨xs, hq⟩, q⟩ := q1
  subst e
  cases r1
  obtain ⟨its, rv, p, hz⟩ := I1.list hq
  refine wpAny_pyIter_list p.isList ?_
  refine ⟨s1.heap.objs.size, [s1.heap.objs.size], _, _, H1, rfl, I1.kept (t' := s1.toks) fun b o e => Heap.get?_push_of_some _ e, turn_list a _, ⟨_, Heap.get?_push_size _ rfl, rfl, rfl⟩, fun b hb => ?_, q⟩
  have e : b = s1.heap.objs.size := by simpa using hb
  subst e
  exact I1.fpOk (Nat.le_refl _) (I1.hok.fresh (Nat.le_refl _))
/-- a range object just made, walked -/
theorem range_it {pins : List (Addr × Obj)} {σ : St} {H : Hp} {s : Shared} {R : It → Hp → Prop} {E : Value → Shared → Prop} {lo hi : Int} {t u v : Tok} {tk : Nat} (I : Inv X pins σ H s) (h1 : -(2 ^ 62) ≤ lo) (h2 : lo < 2 ^ 62) (h3 : -(2 ^ 62) ≤ hi) (h4 : hi < 2 ^ 62)
    (q : R (Itr lo (hi - lo).toNat) H) : wpAny (model X.prog X.w) X.A (pyIter (.ref s.heap.objs.size)) (PIE X pins σ tg R) E { s with heap := s.heap.push { cls := .type "range", data := .fields #[.int lo t, .int hi u, .int 1 v] }, toks := tk } := by
  refine wpAny_pyIter_range (IsRange.new ..) (small_one h1 h2 h3 h4) ?_
  have I1 : Inv X pins σ H { s with heap := s.heap.push { cls := .type "range", data := .fields #[.int lo t, .int hi u, .int 1 v] }, toks := tk } := I.kept fun b o e => Heap.get?_push_of_some _ e
  refine ⟨(s.heap.push { cls := .type "range", data := .fields #[.int lo t, .int hi u, .int 1 v] }).objs.size, [(s.heap.push { cls := .type "range", data := .fields #[.int lo t, .int hi u, .int 1 v] }).objs.size], _, _, H, rfl,
    I1.kept (t' := tk) fun b o e => Heap.get?_push_of_some _ e, turn_range _ lo (hi - lo).toNat, ?_, fun b hb => ?_, q⟩
  · have e1 : lo + ((0 : Nat) : Int) * 1 = lo := by simp
    have e2 : (((hi - lo).toNat : Nat) : Int) - ((0 : Nat) : Int) = Builtin.Range.rangeSize lo hi 1 := by rw [rangeSize_one]; split <;> omega
    show IsRangeIter _ _ (lo + ((0 : Nat) : Int) * 1) ((((hi - lo).toNat : Nat) : Int) - ((0 : Nat) : Int)) 1
    rw [e1, e2]
    exact Heap.get?_push_size _ rfl
  · have e : b = (s.heap.push { cls := .type "range", data := .fields #[.int lo t, .int hi u, .int 1 v] }).objs.size := by simpa using hb
    subst e
    exact I1.fpOk (Nat.le_refl _) (I1.hok.fresh (Nat.le_refl _))
def iRng1 (ta : TA) : TI := fun σ H R => ta σ H fun vs H1 => ∃ j : Int, vs = [.int j] ∧ -(2 ^ 62) ≤ j ∧ j < 2 ^ 62 ∧ R (Itr 0 j.toNat) H1
def iRng2 (ta : TA) : TI := fun σ H R => ta σ H fun vs H1 => ∃ i j : Int, vs = [.int i, .int j] ∧ (-(2 ^ 62) ≤ i ∧ i < 2 ^ 62 ∧ -(2 ^ 62) ≤ j ∧ j < 2 ^ 62) ∧ R (Itr i (j - i).toNat) H1
theorem pi_range1 {a : Expr} {ta : TA} {p pos : Pos} (hg : Gl X "range") (hm : X.mg "range" = none) (ha : PA X [a] ta) (hs : starEach [a] X.env = [(false, eval a X.env)] := by rfl) : PI X tg (.Call (.Name "range" p) [a] [] pos) (iRng1 ta) := by
  intro pins s σ H R I h
  refine Call_ (ld_blt I hg hm boot_range (PyProof.Rows.callWith_type1 (thn (ha pos pins s σ H _ I h) fun us s1 ⟨vs, H1, I1, r1, q1⟩ => ?_) hs rfl))
  obtain ⟨j, e, q1, q2, q⟩ := q1
  subst e
  cases r1 with
  | cons r rr =>
    cases rr
    obtain ⟨t, rfl⟩ := r
    exact call_range_1 (range_it I1 (by omega) (by omega) q1 q2 (by simpa using q))
/-- W: the invariant by the turn and a measure; N: what the body is to reach -/
def tFor (wi : TI) (g : TG) (tb : TS) : TS := fun D σ H => wi σ H fun J H1 => ∃ W : Nat → Nat → St → Hp → Prop, (∃ m, W 0 m σ H1) ∧ ∀ i m σ H, W i m σ H →
  (J.stop i H ∧ D.nx σ H) ∨ (J.go i H ∧ ∃ N : St → Hp → Prop, (∀ σ' H', N σ' H' → ∃ m', m' < m ∧ W (i + 1) m' σ' H') ∧ ∀ x H', J.yld i H x H' → g x σ H' fun σ2 H2 => tb { D with nx := N, ct := N, bk := D.nx } σ2 H2)
/-- the records at fp as they stand -/
def pinsAt (fp : List Addr) (h : Heap) : List (Addr × Obj) := fp.filterMap fun b => (h.get? b).map fun o => (b, o)
theorem mem_pinsAt {fp : List Addr} {h : Heap} {b : Addr} {o : Obj} (hb : b ∈ fp) (e : h.get? b = some o) : (b, o) ∈ pinsAt fp h := List.mem_filterMap.mpr ⟨b, hb, by rw [e]; rfl⟩
theorem of_pinsAt {fp : List Addr} {h : Heap} {p : Addr × Obj} (hp : p ∈ pinsAt fp h) : p.1 ∈ fp ∧ h.get? p.1 = some p.2 := by
  obtain ⟨b, hb, e⟩ := List.mem_filterMap.mp hp
  cases q : h.get? b with
  | none => rw [q] at e; cases e
  | some o =>
    rw [q] at e
    have e' : (b, o) = p := Option.some.inj e
    subst e'
    exact ⟨hb, q⟩
theorem Inv.pinned {pins : List (Addr × Obj)} {σ : St} {H : Hp} {s : Shared} {fp : List Addr} (I : Inv X pins σ H s) (hf : ∀ b ∈ fp, FpOk X pins H b) (ho : ∀ b ∈ fp, ∃ o, s.heap.get? b = some o ∧ ∀ v, o.data ≠ .cell v) : Inv X (pins ++ pinsAt fp s.heap) σ H s :=
  I.pins_of fun p hp => (List.mem_append.mp hp).elim (fun z => I.pin p (List.mem_append_right _ z)) fun z => by
    obtain ⟨hb, e⟩ := of_pinsAt z
    obtain ⟨f0, f1, f2, _⟩ := hf p.1 hb
    obtain ⟨o, e', d⟩ := ho p.1 hb
    rw [e] at e'; cases e'
    exact ⟨e, f0, f1, f2, d⟩
theorem Inv.unpinned {pins pl : List (Addr × Obj)} {σ : St} {H : Hp} {s : Shared} (I : Inv X (pins ++ pl) σ H s) : Inv X pins σ H s := I.pins_of fun p hp => I.pin p (List.mem_append_right _ (List.mem_append_left _ hp))
theorem ps_for {iter : Expr} {body : List Stmt} {wi : TI} {g : TG} {tb : TS} {pos : Pos} (hp : PassesOwn (model X.prog X.w) X.A X.env X.xe) (hc : X.calm = true) (hi : PI X tg iter wi) (hg : PG X tg g) (hb : PSs X body tb)
    (hs : ∀ x, foldedSetIterable iter X.env x = pure x := by intro _; rfl) : PS X (.For tg iter body [] pos) (tFor wi g tb) := by
  intro pins s σ H D I h
  refine wpAny_For (thn (hi pins s σ H _ I h) fun v s1 h1 => thn h1 fun itv s2 h2 => ?_) hs
  obtain ⟨it, fp, tn, J, H2, e, I2, T, st2, f2, W, ⟨m0, w0⟩, turn⟩ := h2
  subst e
  -- what stays true of the iterator's objects through the loop
  have stat : ∀ {H' : Hp}, (∀ b ∈ fp, H' b = none) → ∀ b ∈ fp, FpOk X pins H' b := fun hn b hb => ⟨hn b hb, (f2 b hb).2⟩
  refine codeAny_forLoop_any (fun n s' => ∃ i σ' H', Inv X pins σ' H' s' ∧ tn i s'.heap ∧ (∀ b ∈ fp, H' b = none) ∧ W i n σ' H') ?_ m0 ⟨0, σ, H2, I2, st2, fun b hb => (f2 b hb).1, w0⟩
  rintro n s3 ⟨i, σ3, H3, I3, st3, fr3, w3⟩
  rcases turn i n σ3 H3 w3 with ⟨stop, qn⟩ | ⟨go, N, hN, step⟩
  · refine wpAny_passesOwn hp (thn (T.done X rfl rfl rfl hc i pins s3 σ3 H3 X.xe I3 (stat fr3) st3 stop) fun r s4 ⟨hr, I4⟩ => ?_)
    subst hr
    exact wpAny_execs_nil ⟨σ3, H3, I4, qn⟩
  · refine wpAny_passesOwn hp (thn (T.item X rfl rfl rfl hc i pins s3 σ3 H3 X.xe I3 (stat fr3) st3 go) fun r s4 ⟨u, hr, h4⟩ => ?_)
    subst hr
    refine wpAny_passesOwn hp (thn h4 fun _ s5 ⟨x, H5, I5, r5, y5, st5, fr5⟩ => ?_)
    have I5' := I5.pinned (stat fr5) (T.obj _ _ st5)
    refine wpAny_passesOwn hp (thn (hg _ s5 σ3 H5 x u _ I5' r5 (step x H5 y5)) fun _ s6 ⟨σ6, H6, I6, q6⟩ => ?_)
    refine wpAny_passesOwn hp (thn (hb _ s6 σ6 H6 _ I6 q6) fun f s7 q7 => ?_)
    have again : ∀ {σ7 : St} {H7 : Hp}, Inv X (pins ++ pinsAt fp s5.heap) σ7 H7 s7 → N σ7 H7 → ∃ m, m < n ∧ ∃ i σ' H', Inv X pins σ' H' s7 ∧ tn i s7.heap ∧ (∀ b ∈ fp, H' b = none) ∧ W i m σ' H' := fun {σ7 H7} I7 n7 => by
      obtain ⟨m', hm, w7⟩ := hN σ7 H7 n7
      refine ⟨m', hm, i + 1, σ7, H7, I7.unpinned, T.keep _ _ _ st5 fun b hb o e => (I7.pin (b, o) (List.mem_append_right _ (List.mem_append_right _ (mem_pinsAt hb e)))).1, fun b hb => ?_, w7⟩
      obtain ⟨o, e, d⟩ := T.obj _ _ st5 b hb
      exact (I7.pin (b, o) (List.mem_append_right _ (List.mem_append_right _ (mem_pinsAt hb e)))).2.1
    cases f with
    | next => obtain ⟨σ7, H7, I7, n7⟩ := q7; exact again I7 n7
    | cont => obtain ⟨σ7, H7, I7, n7⟩ := q7; exact again I7 n7
    | brk => obtain ⟨σ7, H7, I7, q7⟩ := q7; exact ⟨σ7, H7, I7.unpinned, q7⟩
    | ret v => obtain ⟨x7, σ7, H7, I7, r7, q7⟩ := q7; exact ⟨x7, σ7, H7, I7.unpinned, r7, q7⟩
end

/-- over a list that the body leaves as it is -/
theorem for_list {K : PySem.W.Frag} {a : Addr} {xs : List V} {g : TG} {tb : TS} {D : Ends} {σ : St} {H : Hp} (Pv : Nat → St → Hp → Prop) (h0 : Pv 0 σ H) (hl : ∀ i σ H, i ≤ xs.length → Pv i σ H → SqL K H a xs)
    (hs : ∀ i x σ H, xs[i]? = some x → Pv i σ H → g x σ H fun σ2 H2 => tb { D with nx := Pv (i + 1), ct := Pv (i + 1), bk := D.nx } σ2 H2) (hd : ∀ σ H, Pv xs.length σ H → D.nx σ H) :
    ∃ W : Nat → Nat → St → Hp → Prop, (∃ m, W 0 m σ H) ∧ ∀ i m σ H, W i m σ H →
      ((Itl K a).stop i H ∧ D.nx σ H) ∨ ((Itl K a).go i H ∧ ∃ N : St → Hp → Prop, (∀ σ' H', N σ' H' → ∃ m', m' < m ∧ W (i + 1) m' σ' H') ∧ ∀ x H', (Itl K a).yld i H x H' → g x σ H' fun σ2 H2 => tb { D with nx := N, ct := N, bk := D.nx } σ2 H2) := by
  refine ⟨fun i m σ H => m = xs.length - i ∧ i ≤ xs.length ∧ Pv i σ H, ⟨xs.length, by simp, Nat.zero_le _, h0⟩, ?_⟩
  rintro i m σ H ⟨rfl, hi, p⟩
  have q := hl i σ H hi p
  by_cases hlt : i < xs.length
  · refine .inr ⟨⟨xs, xs[i], q, by simp [hlt]⟩, Pv (i + 1), fun σ' H' p' => ⟨xs.length - (i + 1), by omega, rfl, hlt, p'⟩, fun x H' y => ?_⟩
    obtain ⟨e, y⟩ := y
    subst e
    exact hs i x σ _ (y xs q) p
  · have e : i = xs.length := by omega
    subst e
    exact .inl ⟨⟨xs, q, Nat.le_refl _⟩, hd σ H p⟩
theorem for_range {lo : Int} {n : Nat} {g : TG} {tb : TS} {D : Ends} {σ : St} {H : Hp} (Pv : Nat → St → Hp → Prop) (h0 : Pv 0 σ H)
    (hs : ∀ i σ H, i < n → Pv i σ H → g (.int (lo + i)) σ H fun σ2 H2 => tb { D with nx := Pv (i + 1), ct := Pv (i + 1), bk := D.nx } σ2 H2) (hd : ∀ σ H, Pv n σ H → D.nx σ H) :
    ∃ W : Nat → Nat → St → Hp → Prop, (∃ m, W 0 m σ H) ∧ ∀ i m σ H, W i m σ H →
      ((Itr lo n).stop i H ∧ D.nx σ H) ∨ ((Itr lo n).go i H ∧ ∃ N : St → Hp → Prop, (∀ σ' H', N σ' H' → ∃ m', m' < m ∧ W (i + 1) m' σ' H') ∧ ∀ x H', (Itr lo n).yld i H x H' → g x σ H' fun σ2 H2 => tb { D with nx := N, ct := N, bk := D.nx } σ2 H2) := by
  refine ⟨fun i m σ H => m = n - i ∧ i ≤ n ∧ Pv i σ H, ⟨n, by simp, Nat.zero_le _, h0⟩, ?_⟩
  rintro i m σ H ⟨rfl, hi, p⟩
  by_cases hlt : i < n
  · refine .inr ⟨hlt, Pv (i + 1), fun σ' H' p' => ⟨n - (i + 1), by omega, rfl, hlt, p'⟩, fun x H' y => ?_⟩
    obtain ⟨e, y⟩ := y
    subst e y
    exact hs i σ _ hlt p
  · have e : i = n := by omega
    subst e
    exact .inl ⟨Nat.le_refl _, hd σ H p⟩
end L2

namespace L2
open PySem PySem.Spec PyProof.Rows

abbrev R2 := V → V → Hp → VK → Prop
/-- a two-place operation on values: f is binaryOp op, inplaceOp op or compareOp op -/
def OpR (X : Cx) (f : Value → Value → Sem Value) (r : R2) : Prop :=
  ∀ (pins : List (Addr × Obj)) (s : Shared) (σ : St) (H : Hp) (x y : V) (v u : Value) (Q : VK), Inv X pins σ H s → RelV x v → RelV y u → r x y H Q →
    wpAny (model X.prog X.w) X.A (f v u) (EP X pins σ Q) X.xe s
/-- a call of a value that is known (a builtin, a type) with values -/
def CallR (X : Cx) (f : Value) (r : List V → Hp → VK → Prop) : Prop :=
  ∀ (pins : List (Addr × Obj)) (s : Shared) (σ : St) (H : Hp) (xs : List V) (us : List Value) (Q : VK), Inv X pins σ H s → Vals xs us → r xs H Q →
    wpAny (model X.prog X.w) X.A (call f us) (EP X pins σ Q) X.xe s
def tOp (r : R2) (ta tb : TE) : TE := fun σ H Q => ta σ H fun x H1 => tb σ H1 fun y H2 => r x y H2 Q
def tUn (r : V → Hp → VK → Prop) (ta : TE) : TE := fun σ H Q => ta σ H fun x H1 => r x H1 Q
/-- ints in, under C, and a value out -/
def rI (C : Int → Int → Prop) (g : Int → Int → V) : R2 := fun x y H Q => ∃ i j, x = .int i ∧ y = .int j ∧ C i j ∧ Q (g i j) H
def rI0 (g : Int → Int → V) : R2 := fun x y H Q => ∃ i j, x = .int i ∧ y = .int j ∧ Q (g i j) H
def rU (g : Int → V) : V → Hp → VK → Prop := fun x H Q => ∃ i, x = .int i ∧ Q (g i) H

section
variable {X : Cx} {a b c : Expr} {ta tb tc : TE} {pos : Pos}

theorem binT (ha : PE X a ta) (hb : PE X b tb) {pins : List (Addr × Obj)} {s : Shared} {σ : St} {H : Hp} {R : V → V → Hp → Prop} (I : Inv X pins σ H s)
    (h : ta σ H fun x H1 => tb σ H1 fun y H2 => R x y H2) {Q : Value → Shared → Prop} {f : Value → Value → Sem Value}
    (hf : ∀ v u s2 x y H2, Inv X pins σ H2 s2 → RelV x v → RelV y u → R x y H2 → wpAny (model X.prog X.w) X.A (f v u) Q X.xe s2) :
    wpAny (model X.prog X.w) X.A (eval a X.env) (fun v s₁ => wpAny (model X.prog X.w) X.A (eval b X.env) (fun u s₂ => wpAny (model X.prog X.w) X.A (f v u) Q X.xe s₂) X.xe s₁) X.xe s := by
  refine thn (ha pins s σ H _ I h) fun v s1 ⟨x, H1, I1, r1, q1⟩ => ?_
  refine thn (hb pins s1 σ H1 _ I1 q1) fun u s2 ⟨y, H2, I2, r2, q2⟩ => ?_
  exact hf v u s2 x y H2 I2 r1 r2 q2

theorem pe_op {op : Operator} {r : R2} (ho : OpR X (binaryOp op) r) (ha : PE X a ta) (hb : PE X b tb) : PE X (.BinOp a op b pos) (tOp r ta tb) := by
  intro pins s σ H Q I h
  exact wpAny_BinOp (binT ha hb I h fun v u s2 x y H2 I2 rx ry q => ho pins s2 σ H2 x y v u Q I2 rx ry q)
theorem opI {f : Value → Value → Sem Value} {C : Int → Int → Prop} {g : Int → Int → Int}
    (rule : ∀ (i j : Int) (t u : Tok) (s : Shared) (Q : Value → Shared → Prop) (E : Value → Shared → Prop), C i j → Q (.int (g i j) s.toks) { s with toks := s.toks + 1 } → wpAny (model X.prog X.w) X.A (f (.int i t) (.int j u)) Q E s) :
    OpR X f (rI C fun i j => .int (g i j)) := by
  intro pins s σ H x y v u Q I rx ry h
  obtain ⟨i, j, rfl, rfl, hc, q⟩ := h
  obtain ⟨t, rfl⟩ := rx
  obtain ⟨t', rfl⟩ := ry
  exact rule i j t t' s _ _ hc ⟨.int (g i j), H, I.tok _, ⟨_, rfl⟩, q⟩
theorem opI0 {f : Value → Value → Sem Value} {g : Int → Int → Int}
    (rule : ∀ (i j : Int) (t u : Tok) (s : Shared) (Q : Value → Shared → Prop) (E : Value → Shared → Prop), Q (.int (g i j) s.toks) { s with toks := s.toks + 1 } → wpAny (model X.prog X.w) X.A (f (.int i t) (.int j u)) Q E s) :
    OpR X f (rI0 fun i j => .int (g i j)) := by
  intro pins s σ H x y v u Q I rx ry h
  obtain ⟨i, j, rfl, rfl, q⟩ := h
  obtain ⟨t, rfl⟩ := rx
  obtain ⟨t', rfl⟩ := ry
  exact rule i j t t' s _ _ ⟨.int (g i j), H, I.tok _, ⟨_, rfl⟩, q⟩
theorem opB0 {f : Value → Value → Sem Value} {g : Int → Int → Bool}
    (rule : ∀ (i j : Int) (t u : Tok) (s : Shared) (Q : Value → Shared → Prop) (E : Value → Shared → Prop), Q (.bool (g i j)) s → wpAny (model X.prog X.w) X.A (f (.int i t) (.int j u)) Q E s) :
    OpR X f (rI0 fun i j => .bl (g i j)) := by
  intro pins s σ H x y v u Q I rx ry h
  obtain ⟨i, j, rfl, rfl, q⟩ := h
  obtain ⟨t, rfl⟩ := rx
  obtain ⟨t', rfl⟩ := ry
  exact rule i j t t' s _ _ ⟨.bl (g i j), H, I, rfl, q⟩

def CDiv (i j : Int) : Prop := 0 < j ∧ j < 1073741824
def CPow (i j : Int) : Prop := 0 ≤ j ∧ j ≤ 1000000 ∧ i.natAbs < 2 ^ 64
def CMul (i j : Int) : Prop := (-(2 ^ 64) < i ∧ i < 2 ^ 64) ∨ (-(2 ^ 64) < j ∧ j < 2 ^ 64)
theorem CMul.ok {i j : Int} (h : CMul i j) : IntMulOk i j := by
  rcases h with ⟨h1, h2⟩ | ⟨h1, h2⟩
  · exact .of_left (intBits_le_64 h1 h2)
  · exact .of_right (intBits_le_64 h1 h2)
theorem op_add : OpR X (binaryOp .Add) (rI0 fun i j => .int (i + j)) := opI0 fun _ _ _ _ _ _ _ q => add_int q
theorem op_sub : OpR X (binaryOp .Sub) (rI0 fun i j => .int (i - j)) := opI0 fun _ _ _ _ _ _ _ q => sub_int q
theorem op_mul : OpR X (binaryOp .Mult) (rI CMul fun i j => .int (i * j)) := opI fun _ _ _ _ _ _ _ hc q => mul_int q hc.ok
/-- // by a positive divisor -/
theorem op_fdiv : OpR X (binaryOp .FloorDiv) (rI CDiv fun i j => .int (i / j)) := opI fun i j _ _ _ _ _ hc q => by
  have h1 : (0 : Int) < j := hc.1
  have h2 : j < 1073741824 := hc.2
  exact floordiv_int (by omega) (by rw [Int.fdiv_eq_ediv_of_nonneg i (by omega)]; exact q) (.inl (PyProof.noPylong_small (by omega)))
/-- % by a positive divisor of any size -/
theorem op_mod : OpR X (binaryOp .Mod) (rI (fun _ j => 0 < j) fun i j => .int (i % j)) := opI fun i j _ _ _ _ _ hc q => by
  have h1 : (0 : Int) < j := hc
  exact mod_int' (by omega) (by rw [Int.fmod_eq_emod_of_nonneg i (by omega)]; exact q)
theorem op_pow : OpR X (binaryOp .Pow) (rI CPow fun i j => .int (i ^ j.toNat)) := opI fun _ _ _ _ _ _ _ hc q => pow_int_small hc.1 hc.2.1 hc.2.2 q
end

/-- the scalars that == tells apart as data does -/
def scal : V → V → Bool
  | .non, .non => true | .non, .int _ => true | .int _, .non => true | .non, .bl _ => true | .bl _, .non => true | .non, .str _ => true | .str _, .non => true
  | .int _, .int _ => true | .bl _, .bl _ => true | .str _, .str _ => true | .byt _, .byt _ => true
  | .int _, .str _ => true | .str _, .int _ => true | .bl _, .str _ => true | .str _, .bl _ => true
  | _, _ => false
def rEq : R2 := fun x y H Q => scal x y = true ∧ Q (.bl (decide (x = y))) H
def rNe : R2 := fun x y H Q => scal x y = true ∧ Q (.bl (!decide (x = y))) H

theorem dec_int {i j : Int} : decide (V.int i = V.int j) = (i == j) := by
  rw [Bool.eq_iff_iff]
  simp
theorem dec_bl {i j : Bool} : decide (V.bl i = V.bl j) = (i == j) := by
  rw [Bool.eq_iff_iff]
  simp
theorem dec_str {i j : Str} : decide (V.str i = V.str j) = (i == j) := by
  rw [Bool.eq_iff_iff]
  simp
theorem dec_byt {i j : Array UInt8} : decide (V.byt i = V.byt j) = (i.toList == j.toList) := by
  rw [Bool.eq_iff_iff]
  cases i
  cases j
  simp

section
variable {X : Cx} {a b c : Expr} {ta tb tc : TE} {pos : Pos}
theorem fin_bl {pins : List (Addr × Obj)} {σ : St} {H : Hp} {s : Shared} {Q : VK} {k k' : Bool} (I : Inv X pins σ H s) (q : Q (.bl k) H) (e : k = k') : EP X pins σ Q (.bool k') s := by
  subst e
  exact ⟨.bl k, H, I, rfl, q⟩
theorem op_eq : OpR X (compareOp .Eq) rEq := by
  intro pins s σ H x y v u Q I rx ry h
  obtain ⟨hs, q⟩ := h
  cases x with
  | non =>
    cases rx
    cases y with
    | non => cases ry; exact PySem.EqNone.eq_none_none (fin_bl I q (by simp))
    | bl j => cases ry; exact PySem.EqNone.eq_none_bool (fin_bl I q (by simp))
    | int j => obtain ⟨t', rfl⟩ := ry; exact PySem.EqNone.eq_none_int (fin_bl I q (by simp))
    | str j => obtain ⟨t', rfl⟩ := ry; exact PySem.EqNone.eq_none_str (fin_bl I q (by simp))
    | _ => exact absurd (show false = true from hs) Bool.false_ne_true
  | bl i =>
    cases rx
    cases y with
    | non => cases ry; exact PySem.EqNone.eq_bool_none (fin_bl I q (by simp))
    | bl j => cases ry; exact eq_bool (fin_bl I q dec_bl)
    | str j => obtain ⟨t', rfl⟩ := ry; exact PySem.EqMixed.eq_bool_str (fin_bl I q (by simp))
    | _ => exact absurd (show false = true from hs) Bool.false_ne_true
  | int i =>
    obtain ⟨t, rfl⟩ := rx
    cases y with
    | non => cases ry; exact PySem.EqNone.eq_int_none (fin_bl I q (by simp))
    | int j => obtain ⟨t', rfl⟩ := ry; exact eq_int (fin_bl I q dec_int)
    | str j => obtain ⟨t', rfl⟩ := ry; exact PySem.EqMixed.eq_int_str (fin_bl I q (by simp))
    | _ => exact absurd (show false = true from hs) Bool.false_ne_true
  | str i =>
    obtain ⟨t, rfl⟩ := rx
    cases y with
    | non => cases ry; exact PySem.EqNone.eq_str_none (fin_bl I q (by simp))
    | bl j => cases ry; exact PySem.EqMixed.eq_str_bool (fin_bl I q (by simp))
    | int j => obtain ⟨t', rfl⟩ := ry; exact PySem.EqMixed.eq_str_int (fin_bl I q (by simp))
    | str j => obtain ⟨t', rfl⟩ := ry; exact eq_str (fin_bl I q dec_str)
    | _ => exact absurd (show false = true from hs) Bool.false_ne_true
  | byt i =>
    obtain ⟨t, rfl⟩ := rx
    cases y with
    | byt j => obtain ⟨t', rfl⟩ := ry; exact PySem.W.eq_bytes (fin_bl I q dec_byt)
    | _ => exact absurd (show false = true from hs) Bool.false_ne_true
  | _ => cases y <;> exact absurd (show false = true from hs) Bool.false_ne_true
theorem op_ne : OpR X (compareOp .NotEq) rNe := by
  intro pins s σ H x y v u Q I rx ry h
  obtain ⟨hs, q⟩ := h
  cases x with
  | non =>
    cases rx
    cases y with
    | non => cases ry; exact PySem.EqNone.ne_none_none (fin_bl I q (by simp))
    | bl j => cases ry; exact PySem.EqNone.ne_none_bool (fin_bl I q (by simp))
    | int j => obtain ⟨t', rfl⟩ := ry; exact PySem.EqNone.ne_none_int (fin_bl I q (by simp))
    | str j => obtain ⟨t', rfl⟩ := ry; exact PySem.EqNone.ne_none_str (fin_bl I q (by simp))
    | _ => exact absurd (show false = true from hs) Bool.false_ne_true
  | bl i =>
    cases rx
    cases y with
    | non => cases ry; exact PySem.EqNone.ne_bool_none (fin_bl I q (by simp))
    | bl j => cases ry; exact ne_bool (fin_bl I q (congrArg not dec_bl))
    | str j => obtain ⟨t', rfl⟩ := ry; exact PySem.EqMixed.ne_bool_str (fin_bl I q (by simp))
    | _ => exact absurd (show false = true from hs) Bool.false_ne_true
  | int i =>
    obtain ⟨t, rfl⟩ := rx
    cases y with
    | non => cases ry; exact PySem.EqNone.ne_int_none (fin_bl I q (by simp))
    | int j => obtain ⟨t', rfl⟩ := ry; exact ne_int (fin_bl I q (congrArg not dec_int))
    | str j => obtain ⟨t', rfl⟩ := ry; exact PySem.EqMixed.ne_int_str (fin_bl I q (by simp))
    | _ => exact absurd (show false = true from hs) Bool.false_ne_true
  | str i =>
    obtain ⟨t, rfl⟩ := rx
    cases y with
    | non => cases ry; exact PySem.EqNone.ne_str_none (fin_bl I q (by simp))
    | bl j => cases ry; exact PySem.EqMixed.ne_str_bool (fin_bl I q (by simp))
    | int j => obtain ⟨t', rfl⟩ := ry; exact PySem.EqMixed.ne_str_int (fin_bl I q (by simp))
    | str j => obtain ⟨t', rfl⟩ := ry; exact ne_str (fin_bl I q (congrArg not dec_str))
    | _ => exact absurd (show false = true from hs) Bool.false_ne_true
  | byt i =>
    obtain ⟨t, rfl⟩ := rx
    cases y with
    | byt j => obtain ⟨t', rfl⟩ := ry; exact PySem.W.ne_bytes (fin_bl I q (congrArg not dec_byt))
    | _ => exact absurd (show false = true from hs) Bool.false_ne_true
  | _ => cases y <;> exact absurd (show false = true from hs) Bool.false_ne_true

theorem op_lt : OpR X (compareOp .Lt) (rI0 fun i j => .bl (decide (i < j))) := opB0 fun _ _ _ _ _ _ _ q => lt_int q
theorem op_gt : OpR X (compareOp .Gt) (rI0 fun i j => .bl (decide (j < i))) := opB0 fun _ _ _ _ _ _ _ q => gt_int q
theorem op_ge : OpR X (compareOp .GtE) (rI0 fun i j => .bl (decide (j ≤ i))) := opB0 fun _ _ _ _ _ _ _ q => ge_int q
theorem op_notN : OpR X (compareOp .IsNot) (fun x y H Q => y = .non ∧ Q (.bl (!decide (x = .non))) H) := by
  intro pins s σ H x y v u Q I rx ry h
  obtain ⟨rfl, q⟩ := h
  cases ry
  refine isnot_none_gen (fin_bl I q ?_)
  cases x <;> first
    | (cases rx; rfl)
    | (obtain ⟨t, rfl⟩ := rx; rfl)

theorem nomark (b : Expr) {op : CmpOp} (h : op ≠ .In := by decide) (h2 : op ≠ .NotIn := by decide) : behindInMarks op b = false := by
  have e1 : (op == CmpOp.In) = false := by cases op <;> first | rfl | exact absurd rfl h
  have e2 : (op == CmpOp.NotIn) = false := by cases op <;> first | rfl | exact absurd rfl h2
  cases b <;> simp [behindInMarks, e1, e2]
/-- a comparison as a value; hm: nomark b, or (for in, not in) by with_unfolding_all rfl -/
theorem pe_cmpR {op : CmpOp} {r : R2} (ho : OpR X (compareOp op) r) (ha : PE X a ta) (hb : PE X b tb) (hm : behindInMarks op b = false) : PE X (.Compare a [op] [b] pos) (tOp r ta tb) := by
  intro pins s σ H Q I h
  exact wpAny_Compare1 (binT ha hb I h fun v u s2 x y H2 I2 rx ry q => ho pins s2 σ H2 x y v u Q I2 rx ry q) hm
/-- a reading of a value as a test -/
def tTest (t : TE) : TT := fun σ H Q => t σ H fun x H' => ∃ k, x = .bl k ∧ Q k H'
theorem pt_cmpR {op : CmpOp} {r : R2} (ho : OpR X (compareOp op) r) (ha : PE X a ta) (hb : PE X b tb) (hm : behindInMarks op b = false) : PT X (.Compare a [op] [b] pos) (tTest (tOp r ta tb)) := by
  intro pins s σ H Q I h
  refine wpAny_isTrue_Compare1 (thn (ha pins s σ H _ I h) fun v s1 ⟨x, H1, I1, r1, q1⟩ => thn (hb pins s1 σ H1 _ I1 q1) fun u s2 ⟨y, H2, I2, r2, q2⟩ =>
    thn (ho pins s2 σ H2 x y v u _ I2 r1 r2 q2) fun c s3 ⟨z, H3, I3, r3, k, e, q3⟩ => ?_) hm
  subst e
  cases r3
  exact wpAny_truthy_bool ⟨H3, I3, q3⟩
/-- a op1 b op2 c -/
def tChain (r r' : R2) (ta tb tc : TE) : TE := fun σ H Q => ta σ H fun x H1 => tb σ H1 fun y H2 => r x y H2 fun z H3 => ∃ k, z = .bl k ∧
  (if k = true then tc σ H3 fun w' H4 => r' y w' H4 Q else Q (.bl false) H3)
theorem line63 : (sizeLine : Nat) < 2 ^ 63 := by rw [sizeLine_eq]; decide
theorem vals1 {x : V} {us : List Value} (r : Vals [x] us) : ∃ u, us = [u] ∧ RelV x u := by
  cases r with
  | cons r1 r2 => cases r2; exact ⟨_, rfl, r1⟩
theorem vals2 {x y : V} {us : List Value} (r : Vals [x, y] us) : ∃ u w', us = [u, w'] ∧ RelV x u ∧ RelV y w' := by
  cases r with
  | cons r1 r2 =>
    cases r2 with
    | cons r3 r4 => cases r4; exact ⟨_, _, rfl, r1, r3⟩
theorem call_max2 (hc : X.calm = true) : CallR X (.builtin "max") (fun xs H Q => ∃ i j, xs = [.int i, .int j] ∧ Q (.int (if j > i then j else i)) H) := by
  intro pins s σ H xs us Q I r h
  obtain ⟨i, j, rfl, q⟩ := h
  obtain ⟨u, w', rfl, ⟨t, rfl⟩, ⟨t', rfl⟩⟩ := vals2 r
  refine max_two_ints (I.ok.hd hc) fun h' tk k => ⟨_, H, I.kept k, ?_, q⟩
  by_cases hj : j > i
  · rw [if_pos hj, if_pos hj]; exact ⟨_, rfl⟩
  · rw [if_neg hj, if_neg hj]; exact ⟨_, rfl⟩
theorem call_min2 (hc : X.calm = true) : CallR X (.builtin "min") (fun xs H Q => ∃ i j, xs = [.int i, .int j] ∧ Q (.int (if j < i then j else i)) H) := by
  intro pins s σ H xs us Q I r h
  obtain ⟨i, j, rfl, q⟩ := h
  obtain ⟨u, w', rfl, ⟨t, rfl⟩, ⟨t', rfl⟩⟩ := vals2 r
  refine min_two_ints (I.ok.hd hc) fun h' tk k => ⟨_, H, I.kept k, ?_, q⟩
  by_cases hj : j < i
  · rw [if_pos hj, if_pos hj]; exact ⟨_, rfl⟩
  · rw [if_neg hj, if_neg hj]; exact ⟨_, rfl⟩
end
end L2

namespace L2
open PySem PySem.Spec PyProof.Rows

structure ObjM (h : Heap) (x dx C : Addr) (mA : Str → Option Value) : Prop where
  obj : h.get? x = some (PySem.W.instObj C dx)
  ns : h.Ns1 dx mA
  ne : dx ≠ x

theorem lookIn_ns {h : Heap} {dx : Addr} {mA : Str → Option Value} (n : h.Ns1 dx mA) : ∃ od, h.get? dx = some od ∧ ∀ name, PySem.W.lookIn name od = some (mA name) := by
  obtain ⟨o, es, ep, ho, hd, hk, _, hm⟩ := n
  refine ⟨o, ho, fun name => ?_⟩
  have e := hm name
  unfold nsFind findBy at e
  rw [← Array.find?_toList] at e
  unfold PySem.W.lookIn
  rw [hd]
  dsimp only
  split
  · rename_i y q
    rw [q] at e
    exact congrArg some e
  · rename_i q
    rw [q] at e
    have a : es.toList.any (·.refKey) = false := by
      rw [List.any_eq_false]
      intro y hy
      obtain ⟨z, t, hkey⟩ := hk y (Array.mem_toList_iff.mp hy)
      simp [DictEntry.refKey, hkey]
    have a' : ¬ es.toList.any (·.refKey) = true := by rw [a]; exact Bool.false_ne_true
    rw [if_neg a']
    exact congrArg some e

theorem ObjM.look {h : Heap} {x dx C : Addr} {mA : Str → Option Value} (I : ObjM h x dx C mA) : ∃ od, PySem.W.InstAt h x (PySem.W.instObj C dx) C (some od) ∧ ∀ name, PySem.W.lookIn name od = some (mA name) :=
  let ⟨od, ho, hl⟩ := lookIn_ns I.ns
  ⟨od, ⟨I.obj, rfl, rfl, ho⟩, hl⟩

section
variable {prog : Program} {w : World} {A : Around} {E : Value → Shared → Prop} {s : Shared} {K : PySem.W.Frag} {x dx C f : Addr} {mA : Str → Option Value} {name : Str} {v : Value}

theorem get_map {expr : Bool} {Q : Value → Shared → Prop} (X : K.In s.heap) (I : ObjM s.heap x dx C mA) (hg : PySem.W.plainGet K C name = true) (hh : PySem.W.hasDictIn K C = true)
    (ha : PySem.W.findIn K (.ref C) name = some none) (hv : mA name = some v) (hv' : PySem.W.handedIn v = true) (h : Q v { s with toks := s.toks + 1 }) :
    wpAny (model prog w) A (getAttr (.ref x) name expr) Q E s := by
  obtain ⟨od, J, hl⟩ := I.look
  exact PySem.W.get_value X J (PySem.W.plainGet_of hg).1 (PySem.W.findObj_own hh ha rfl (by rw [hl, hv])) hv' h

theorem get_meth {pl : Sem Bool} {Q : Value × List Value → Shared → Prop} (X : K.In s.heap) (I : ObjM s.heap x dx C mA) (hg : PySem.W.plainGet K C name = true)
    (hf : PySem.W.findIn K (.ref C) name = some (some (.ref f))) (ht : PySem.W.isFn K (.ref f) = true) (hv : mA name = none) (h : Q (.ref f, [.ref x]) s) :
    wpAny (model prog w) A (getMethod (.ref x) name pl) Q E s := by
  obtain ⟨od, J, hl⟩ := I.look
  exact PySem.W.method_fn X J (PySem.W.plainGet_of hg).1 (PySem.W.plainGet_of hg).2 hf (beq_iff_eq.mp ht) (by show (PySem.W.lookIn name od).map (·.isSome) = some false; rw [hl, hv]; rfl) h

theorem set_map {ns : List Str} {Q : Unit → Shared → Prop} (X : K.In s.heap) (I : ObjM s.heap x dx C mA)
    (hs : PySem.W.findIn K (.ref C) "__setattr__" = some (some (.builtin "object.__setattr__"))) (hp : PySem.W.plainOver K C = true) (ht : PySem.W.takerIn K C name = some none) (hh : PySem.W.hasDictIn K C = true)
    (hw : PySem.Within mA ns) (hsz : ns.length ≤ sizeLine)
    (h : ∀ h', ObjM h' x dx C (fun y => if y = name then some v else mA y) → Heap.SameBut dx s.heap h' → Q () { s with heap := h', toks := s.toks + 2 }) :
    wpAny (model prog w) A (setAttr (.ref x) name v) Q E s := by
  obtain ⟨od, J, hl⟩ := I.look
  refine PySem.W.set_plain X J hs (PySem.W.osa_open (s := { s with toks := s.toks + 1 }) (r := none) X J hp ht fun b => ?_)
  obtain ⟨cd, hc, hd'⟩ := PySem.W.any_some hh
  have hx : s.heap.get? x = some ⟨.ref C, some dx, .plain, #[]⟩ := I.obj
  refine wpAny_bind (wpAny_pure (wpAny_bind (wpAny_bind (wpAny_loadPart hx (wpAny_bind (PySem.W.Looks.here (s := { s with toks := s.toks + 1 }) (PySem.W.looks_clsIn X hc) ?_))))))
  rw [hd']
  refine wpAny_pure (a := some dx) (wpAny_bind (wpAny_pure (wpAny_bind ?_)))
  refine wpAny_nsSet1 (s := { s with toks := s.toks + 1 }) I.ns fun h' hn2 hs2 => ?_
  obtain ⟨oD, esD, epD, hoD, hdD, hcD⟩ := hn2.count (PySem.Within.cons name v hw)
  refine wpAny_bind (wpAny_lookBehind hoD (by rw [hdD]; exact pastItsLine_dict (Nat.le_trans hcD (by rw [List.length_cons]; omega))) ?_)
  exact wpAny_pure (h _ ⟨(hs2.2 _ (Ne.symm I.ne)).trans I.obj, hn2, I.ne⟩ hs2)

/-- C(..): the dict at the heap's end, the instance behind it; then its __init__ -/
theorem make_map {R : Result → Shared → Prop} {vs : List Value} {kw : List (Str × Value)} (X : K.In s.heap) (hm : PySem.W.makesIn K C = true)
    (hi : PySem.W.findIn K (.ref C) "__init__" = some (some (.ref f))) (hf : PySem.W.typeIn K (.ref f) = some (.type "function"))
    (h : codeAny (model prog w) (A.under (.builtin "type.__call__" ⟨.ref C :: vs, kw⟩)) (.call (.ref f) ⟨.ref (s.heap.objs.size + 1) :: vs, kw⟩) (PySem.W.InitBack (s.heap.objs.size + 1) R)
      { s with heap := (s.heap.push PySem.W.emptyDict).push (PySem.W.instObj C s.heap.objs.size) }) :
    codeAny (model prog w) A (.call (.ref C) ⟨vs, kw⟩) R s := by
  obtain ⟨hh, g, d, t, os⟩ := s
  exact PySem.W.make_core (PySem.W.makes_of X hm) (PySem.W.looks_findIn X hi) (fun self => PySem.W.bind_fn X self hf) (.inl rfl) h
end

def putF (f : Str) (v : V) : List (Str × V) → List (Str × V)
  | [] => [(f, v)]
  | (g, x) :: r => if g = f then (g, v) :: r else (g, x) :: putF f v r
theorem lookup_putF (f g : Str) (v : V) : ∀ fs : List (Str × V), (putF f v fs).lookup g = if g = f then some v else fs.lookup g
  | [] => by
    show List.lookup g [(f, v)] = _
    by_cases h : g = f
    · have hb : (g == f) = true := beq_iff_eq.mpr h
      simp only [List.lookup, hb, if_pos h]
    · have hb : (g == f) = false := beq_eq_false_iff_ne.mpr h
      simp only [List.lookup, hb, if_neg h]
  | (k, x) :: r => by
    have ih := lookup_putF f g v r
    rw [show putF f v ((k, x) :: r) = (if k = f then (k, v) :: r else (k, x) :: putF f v r) from rfl]
    by_cases hk : k = f
    · rw [if_pos hk]
      by_cases h : g = k
      · have hb : (g == k) = true := beq_iff_eq.mpr h
        simp only [List.lookup, hb, if_pos (h.trans hk)]
      · have hb : (g == k) = false := beq_eq_false_iff_ne.mpr h
        simp only [List.lookup, hb, if_neg (fun e : g = f => h (e.trans hk.symm))]
    · rw [if_neg hk]
      by_cases h : g = k
      · have hb : (g == k) = true := beq_iff_eq.mpr h
        simp only [List.lookup, hb, if_neg (fun e : g = f => hk (h.symm.trans e))]
      · have hb : (g == k) = false := beq_eq_false_iff_ne.mpr h
        simp only [List.lookup, hb]
        exact ih
theorem keys_putF (f : Str) (v : V) : ∀ fs : List (Str × V), f ∈ (putF f v fs).map (·.1) ∧ ∀ g, g ∈ fs.map (·.1) → g ∈ (putF f v fs).map (·.1)
  | [] => ⟨by simp [putF], fun g h => by simp at h⟩
  | (k, x) :: r => by
    obtain ⟨i1, i2⟩ := keys_putF f v r
    rw [show putF f v ((k, x) :: r) = (if k = f then (k, v) :: r else (k, x) :: putF f v r) from rfl]
    by_cases hk : k = f
    · rw [if_pos hk]
      subst hk
      exact ⟨by simp, fun g h => by simpa using h⟩
    · rw [if_neg hk]
      refine ⟨?_, fun g h => ?_⟩
      · rw [List.map_cons]
        exact List.mem_cons_of_mem _ i1
      · rw [List.map_cons] at h ⊢
        rcases List.mem_cons.mp h with e | e
        · exact List.mem_cons.mpr (.inl e)
        · exact List.mem_cons_of_mem _ (i2 g e)
theorem length_putF (f : Str) (v : V) : ∀ fs : List (Str × V), (putF f v fs).length ≤ fs.length + 1
  | [] => by simp [putF]
  | (k, x) :: r => by
    have ih := length_putF f v r
    rw [show putF f v ((k, x) :: r) = (if k = f then (k, v) :: r else (k, x) :: putF f v r) from rfl]
    by_cases hk : k = f
    · rw [if_pos hk, List.length_cons, List.length_cons]; omega
    · rw [if_neg hk, List.length_cons, List.length_cons]; omega

theorem RelO.some_of {v : V} {o : Option Value} (r : RelO (some v) o) : ∃ u, o = some u ∧ RelV v u := by
  cases o with
  | none => exact (show False from r).elim
  | some u => exact ⟨u, rfl, r⟩
theorem RelO.none_of {o : Option Value} (r : RelO none o) : o = none := by
  cases o with
  | none => rfl
  | some u => exact (show False from r).elim
theorem handed_of {v : V} {u : Value} (r : RelV v u) : PySem.W.handedIn u = true := by
  cases v with
  | non => cases (show u = Value.none from r); rfl
  | bl b => cases (show u = Value.bool b from r); rfl
  | int i => obtain ⟨t, e⟩ := (show ∃ t, u = Value.int i t from r); cases e; rfl
  | str x => obtain ⟨t, e⟩ := (show ∃ t, u = Value.str x t from r); cases e; rfl
  | byt b => obtain ⟨t, e⟩ := (show ∃ t, u = Value.bytes b t from r); cases e; rfl
  | flt b => obtain ⟨t, e⟩ := (show ∃ t, u = Value.float b t from r); cases e; rfl
  | ref a => cases (show u = Value.ref a from r); rfl
  | ty n => cases (show u = Value.type n from r); rfl

section
variable {P : Program} {w : World} {H H' : Hp} {h h' : Heap} {a C dx : Addr} {fs fs' : List (Str × V)}
theorem ins_get (hok : HOk P w H h) (e : H a = some (.ins C dx fs)) : ∃ mA, ObjM h a dx C mA ∧ (∀ f, RelO (fs.lookup f) (mA f)) ∧ PySem.Within mA (fs.map (·.1)) ∧ fs.length ≤ 1000 ∧ H dx = some (.own a) := by
  obtain ⟨d, z, ne, ob, mA, n, r, q⟩ := (show ObjOk P w H h a (.ins C dx fs) from hok a _ e)
  exact ⟨mA, ⟨ob, n, ne⟩, r, q, z, d⟩
end

structure Cls (K : PySem.W.Frag) (C : Addr) : Prop where
  pg : PySem.W.plainGet K C Str.empty = true
  hd : PySem.W.hasDictIn K C = true
  po : PySem.W.plainOver K C = true
  sa : PySem.W.findIn K (.ref C) "__setattr__" = some (some (.builtin "object.__setattr__"))
theorem Cls.get {K : PySem.W.Frag} {C : Addr} (c : Cls K C) (f : Str) : PySem.W.plainGet K C f = true := c.pg
/-- no class of it has the name -/
def NoAttr (K : PySem.W.Frag) (C : Addr) (f : Str) : Prop := PySem.W.findIn K (.ref C) f = some none
theorem NoAttr.taker {K : PySem.W.Frag} {C : Addr} {f : Str} (n : NoAttr K C f) : PySem.W.takerIn K C f = some none := by
  unfold PySem.W.takerIn
  rw [show PySem.W.findIn K (.ref C) f = some none from n]
  rfl
/-- a method: a plain def of the class or of one above it -/
structure Meth (K : PySem.W.Frag) (C : Addr) (m : Str) (f : Addr) : Prop where
  at_ : PySem.W.findIn K (.ref C) m = some (some (.ref f))
  fn : PySem.W.isFn K (.ref f) = true
  kp : PySem.W.keepIn K (.ref f) = true

section
variable {X : Cx} {pins : List (Addr × Obj)} {σ : St} {H : Hp} {s : Shared} {a C dx : Addr} {fs : List (Str × V)} {f : Str} {v : V} {A : Around} {E : Value → Shared → Prop}

theorem getattr_ok {b : Bool} {Q : Value → Shared → Prop} (I : Inv X pins σ H s) (e : H a = some (.ins C dx fs)) (c : Cls X.K C) (n : NoAttr X.K C f) (l : fs.lookup f = some v)
    (h : ∀ u s', Inv X pins σ H s' → RelV v u → Q u s') : wpAny (model X.prog X.w) A (getAttr (.ref a) f b) Q E s := by
  obtain ⟨mA, O, r, _, _, _⟩ := ins_get I.hok e
  obtain ⟨u, hu, ru⟩ := RelO.some_of (v := v) (o := mA f) (by rw [← l]; exact r f)
  exact get_map I.kIn O (c.get f) c.hd n hu (handed_of ru) (h u _ (I.tok _) ru)

theorem getmeth_ok {m : Str} {g : Addr} {pl : Sem Bool} {Q : Value × List Value → Shared → Prop} (I : Inv X pins σ H s) (e : H a = some (.ins C dx fs)) (c : Cls X.K C) (k : Meth X.K C m g) (l : fs.lookup m = none)
    (h : Q (.ref g, [.ref a]) s) : wpAny (model X.prog X.w) A (getMethod (.ref a) m pl) Q E s := by
  obtain ⟨mA, O, r, _, _, _⟩ := ins_get I.hok e
  have hn : mA m = none := RelO.none_of (by rw [← l]; exact r m)
  exact get_meth I.kIn O (c.get m) k.at_ k.fn hn h

theorem setattr_ok {y : V} {u : Value} {Q : Unit → Shared → Prop} (I : Inv X pins σ H s) (e : H a = some (.ins C dx fs)) (c : Cls X.K C) (n : NoAttr X.K C f) (hl : fs.length < 1000) (ry : RelV y u)
    (h : ∀ s', Inv X pins σ (upd H a (.ins C dx (putF f y fs))) s' → Q () s') : wpAny (model X.prog X.w) A (setAttr (.ref a) f u) Q E s := by
  obtain ⟨mA, O, r, wi, _, ho⟩ := ins_get I.hok e
  have hz : (fs.map (·.1)).length ≤ sizeLine := by rw [List.length_map, sizeLine_eq]; omega
  refine set_map I.kIn O c.sa c.po n.taker c.hd wi hz fun h' O' sb => h _ ?_
  have hd : ∃ o, h'.get? dx = some o := let ⟨o, _, _, e', _⟩ := O'.ns; ⟨o, e'⟩
  refine I.write (x := a) (e := dx) (by rw [e]; exact True.intro) (.inr ho) (fun b q hb z => (sb.2 b hb).trans z) hd ?_
  refine ⟨by rw [upd_ne O.ne]; exact ho, ?_, O.ne, O'.obj, _, O'.ns, fun g => ?_, fun g hg => ?_⟩
  · have := length_putF f y fs; omega
  · show RelO ((putF f y fs).lookup g) (if g = f then some u else mA g)
    rw [lookup_putF]
    by_cases q : g = f
    · rw [if_pos q, if_pos q]; exact ry
    · rw [if_neg q, if_neg q]; exact r g
  · by_cases q : g = f
    · rw [q]; exact (keys_putF f y fs).1
    · refine (keys_putF f y fs).2 g (wi g fun z => hg ?_)
      show (if g = f then some u else mA g) = none
      rw [if_neg q]; exact z

/-- a new instance, tracked, without attributes -/
theorem Inv.made (I : Inv X pins σ H s) : Inv X pins σ (upd (upd H s.heap.objs.size (.own (s.heap.objs.size + 1))) (s.heap.objs.size + 1) (.ins C s.heap.objs.size []))
    { s with heap := (s.heap.push PySem.W.emptyDict).push (PySem.W.instObj C s.heap.objs.size) } := by
  have e1 : (s.heap.push PySem.W.emptyDict).get? s.heap.objs.size = some PySem.W.emptyDict := Heap.get?_push_size s.heap rfl
  have e2 : ((s.heap.push PySem.W.emptyDict).push (PySem.W.instObj C s.heap.objs.size)).get? (s.heap.objs.size + 1) = some (PySem.W.instObj C s.heap.objs.size) := by
    have := Heap.get?_push_size (s.heap.push PySem.W.emptyDict) (o := PySem.W.instObj C s.heap.objs.size) rfl
    rwa [Heap.size_push] at this
  have e3 : (s.heap.push PySem.W.emptyDict).Ns s.heap.objs.size (fun _ => none) := ⟨PySem.W.emptyDict, #[], _, e1, rfl, (fun e he => absurd he (by simp)), fun _ => rfl⟩
  have I1 := I.laid (a := s.heap.objs.size) (o := .own (s.heap.objs.size + 1)) (h' := s.heap.push PySem.W.emptyDict) (t' := s.toks) (fun b u q => Heap.get?_push_of_some _ q) (Nat.le_refl _) ⟨_, e1⟩
  refine I1.laid (a := s.heap.objs.size + 1) (o := .ins C s.heap.objs.size []) (t' := s.toks) (fun b u q => Heap.get?_push_of_some _ q) (Nat.le_of_eq (Heap.size_push _ _)) ?_
  have ne : s.heap.objs.size ≠ s.heap.objs.size + 1 := Nat.ne_of_lt (Nat.lt_succ_self _)
  refine ⟨by rw [upd_ne ne, upd_same], Nat.zero_le _, ne, e2, fun _ => none, (Heap.Ns1.of_empty e3).at fun o q => Heap.get?_push_of_some _ q, fun _ => True.intro, fun y hy => absurd rfl hy⟩

/-- e.f where nothing but the object is asked: through attributeBase (super) and the last hold -/
theorem attr_of {prog : Program} {w : World} {env : Env} {e : Expr} {f : Str} {pos : Pos} {s : Shared} {Q : Value → Shared → Prop} (hb : attributeBase e f env (eval e env) = eval e env)
    (h : wpAny (model prog w) A (eval e env) (fun o s₁ => wpAny (model prog w) A (getAttr o f true) Q E s₁) E s) : wpAny (model prog w) A (eval (.Attribute e f pos) env) Q E s :=
  Attribute_any_ h (by rw [arm_eval_Attribute, hb])
end

/-- e.f, an attribute of the instance -/
def tFld (K : PySem.W.Frag) (ta : TE) (f : Str) : TE := fun σ H Q => ta σ H fun x H1 => ∃ a C dx fs v, x = .ref a ∧ H1 a = some (.ins C dx fs) ∧ Cls K C ∧ NoAttr K C f ∧ fs.lookup f = some v ∧ Q v H1
/-- e.f = value -/
def sFld (K : PySem.W.Frag) (ta tv : TE) (f : Str) : TS := fun D σ H => tv σ H fun y H1 => ta σ H1 fun x H2 => ∃ a C dx fs, x = .ref a ∧ H2 a = some (.ins C dx fs) ∧ Cls K C ∧ NoAttr K C f ∧ fs.length < 1000 ∧
  D.nx σ (upd H2 a (.ins C dx (putF f y fs)))
/-- an augmented operator on two values -/
def InOp (X : Cx) (op : Operator) (rd : V → V → Hp → VK → Prop) : Prop :=
  ∀ (pins : List (Addr × Obj)) (s : Shared) (σ : St) (H : Hp) (x y : V) (u v : Value) (Q : VK), Inv X pins σ H s → RelV x u → RelV y v → rd x y H Q → wpAny (model X.prog X.w) X.A (inplaceOp op u v) (EP X pins σ Q) X.xe s
/-- e.f op= value -/
def sFldAug (K : PySem.W.Frag) (ta tv : TE) (rd : V → V → Hp → VK → Prop) (f : Str) : TS := fun D σ H => ta σ H fun x H1 => ∃ a C dx fs v, x = .ref a ∧ H1 a = some (.ins C dx fs) ∧ Cls K C ∧ NoAttr K C f ∧ fs.lookup f = some v ∧
  tv σ H1 fun y H2 => rd v y H2 fun z H3 => ∃ dx' fs', H3 a = some (.ins C dx' fs') ∧ fs'.length < 1000 ∧ D.nx σ (upd H3 a (.ins C dx' (putF f z fs')))

section
variable {X : Cx} {o e value : Expr} {f : Str} {pos pos' tpos : Pos} {ta tv : TE}
theorem pe_fld (he : PE X e ta) (hb : attributeBase e f X.env (eval e X.env) = eval e X.env) : PE X (.Attribute e f pos) (tFld X.K ta f) := by
  intro pins s σ H Q I h
  refine attr_of hb (thn (he pins s σ H _ I h) fun u s1 ⟨x, H1, I1, rx, a, C, dx, fs, v, ex, ea, c, n, l, q⟩ => ?_)
  subst ex
  obtain rfl : u = Value.ref a := rx
  exact getattr_ok I1 ea c n l fun u' s2 I2 ru => ⟨v, H1, I2, ru, q⟩
theorem ps_fld (ha : PE X o ta) (hv : PE X value tv) (hs : swapsWith value (some (.Attribute o f pos')) pos.line X.env = pure false) : PS X (.Assign [.Attribute o f pos'] value pos) (sFld X.K ta tv f) := by
  intro pins s σ H D I h
  refine plainObj_wpAny_Assign_Attribute (thn (hv pins s σ H _ I h) fun u s1 ⟨y, H1, I1, ry, q⟩ => thn (ha pins s1 σ H1 _ I1 q) fun ov s2 ⟨x, H2, I2, rx, a, C, dx, fs, ex, ea, c, n, l, q2⟩ => ?_) hs
  subst ex
  obtain rfl : ov = Value.ref a := rx
  exact setattr_ok I2 ea c n l ry fun s3 I3 => ⟨σ, _, I3, q2⟩
theorem ps_fldaug {op : Operator} {rd : V → V → Hp → VK → Prop} (ha : PE X o ta) (hv : PE X value tv) (hop : InOp X op rd) : PS X (.AugAssign (.Attribute o f tpos) op value pos) (sFldAug X.K ta tv rd f) := by
  intro pins s σ H D I h
  refine wpAny_AugAssign_AttributeAny (thn (ha pins s σ H _ I h) fun ov s1 ⟨x, H1, I1, rx, a, C, dx, fs, v, ex, ea, c, n, l, q⟩ => ?_)
  subst ex
  obtain rfl : ov = Value.ref a := rx
  refine getattr_ok I1 ea c n l fun u s2 I2 ru => thn (hv pins s2 σ H1 _ I2 q) fun w3 s3 ⟨y, H2, I3, ry, q3⟩ => thn (hop pins s3 σ H2 v y u w3 _ I3 ru ry q3) fun w4 s4 ⟨z, H3, I4, rz, dx', fs', ea', l', q4⟩ => ?_
  exact setattr_ok I4 ea' c n l' rz fun s5 I5 => ⟨σ, _, I5, q4⟩
def rAdd : V → V → Hp → VK → Prop := fun x y H Q => ∃ i j, x = .int i ∧ y = .int j ∧ Q (.int (i + j)) H
theorem in_add : InOp X .Add rAdd := by
  rintro pins s σ H x y u v Q I rx ry ⟨i, j, rfl, rfl, q⟩
  obtain ⟨t, rfl⟩ := (show ∃ t, u = Value.int i t from rx)
  obtain ⟨t', rfl⟩ := (show ∃ t', v = Value.int j t' from ry)
  exact PyProof.Rows.iadd_int ⟨.int (i + j), H, I.tok _, ⟨_, rfl⟩, q⟩
end

section
variable {X : Cx} {pins : List (Addr × Obj)} {σ : St} {H : Hp} {s : Shared} {A : Around} {E : Value → Shared → Prop} {Q : Value → Shared → Prop} {c : Value} {b : Bool}
/-- the type of a value, as the fragment's deciders take it; for an instance its class -/
inductive TyOf (K : PySem.W.Frag) (H : Hp) : V → Value → Prop where
  | non : TyOf K H .non (.type "NoneType")
  | bl (x : Bool) : TyOf K H (.bl x) (.type "bool")
  | int (i : Int) : TyOf K H (.int i) (.type "int")
  | str (x : Str) : TyOf K H (.str x) (.type "str")
  | flt (x : UInt64) : TyOf K H (.flt x) (.type "float")
  | lst {a : Addr} {xs : List V} (e : H a = some (.lst xs)) : TyOf K H (.ref a) (.type "list")
  | frz {a : Addr} {o : Obj} {xs : List V} (e : H a = some (.frz o (.lst xs))) : TyOf K H (.ref a) (.type "list")
  | tup {a : Addr} {xs : List V} (e : H a = some (.tup xs)) : TyOf K H (.ref a) (.type "tuple")
  | dK {a : Addr} {kvs : List (Key × V)} (e : H a = some (.dK kvs)) : TyOf K H (.ref a) (.type "dict")
  | dT {a : Addr} {kvs : List (List Key × V)} (e : H a = some (.dT kvs)) : TyOf K H (.ref a) (.type "dict")
  | ins {a C dx : Addr} {fs : List (Str × V)} (e : H a = some (.ins C dx fs)) (cl : Cls K C) (ha : PySem.W.findIn K (.ref C) "__class__" = some (some (.builtin "object.__class__")))
      (hn : PySem.W.specialIn K (.builtin "object.__class__") "__get__" = some (some (.builtin "getset_descriptor.__get__"))) (htk : PySem.W.takesIn K (.builtin "object.__class__") = some true)
      (hm : PySem.W.mroIn K C (.type "object") = some true) : TyOf K H (.ref a) (.ref C)
/-- isinstance(x, c) for one class c, a built-in or an own one: kitOne's answer -/
theorem isinst_ok {x : V} {u t : Value} (I : Inv X pins σ H s) (rx : RelV x u) (ty : TyOf X.K H x t) (e : PySem.W.kitOne X.K t c = some b) (h : ∀ tk, Q (.bool b) { s with toks := tk }) :
    wpAny (model X.prog X.w) A (call (.builtin "isinstance") [u, c]) Q E s := by
  cases ty with
  | non => cases (show u = Value.none from rx); exact PySem.W.kia_one PySem.W.kitx_none I.kIn True.intro e (fun z => nomatch z) h
  | bl y => cases (show u = Value.bool y from rx); exact PySem.W.kia_one PySem.W.kitx_bool I.kIn True.intro e (fun z => nomatch z) h
  | int i => obtain ⟨t, q⟩ := (show ∃ t, u = Value.int i t from rx); cases q; exact PySem.W.kia_one PySem.W.kitx_int I.kIn True.intro e (fun z => nomatch z) h
  | str y => obtain ⟨t, q⟩ := (show ∃ t, u = Value.str y t from rx); cases q; exact PySem.W.kia_one PySem.W.kitx_str I.kIn True.intro e (fun z => nomatch z) h
  | flt y => obtain ⟨t, q⟩ := (show ∃ t, u = Value.float y t from rx); cases q; exact PySem.W.kia_one PySem.W.kitx_float I.kIn True.intro e (fun z => nomatch z) h
  | @lst a xs ea =>
    cases (show u = Value.ref a from rx)
    obtain ⟨_, _, n, _, h1⟩ := (show ObjOk X.prog X.w H s.heap a (.lst xs) from I.hok a _ ea)
    exact PySem.W.kia_one PySem.W.kitx_list I.kIn ⟨_, h1, rfl⟩ e (fun z => nomatch z) h
  | @frz a ob xs ea =>
    cases (show u = Value.ref a from rx)
    obtain ⟨_, _, _, n, _, h1⟩ := (show ObjOk X.prog X.w H s.heap a (.frz ob (.lst xs)) from I.hok a _ ea)
    exact PySem.W.kia_one PySem.W.kitx_list I.kIn ⟨_, h1, rfl⟩ e (fun z => nomatch z) h
  | @tup a xs ea =>
    cases (show u = Value.ref a from rx)
    obtain ⟨_, _, _, p⟩ := (show ObjOk X.prog X.w H s.heap a (.tup xs) from I.hok a _ ea)
    obtain ⟨o, h1, h2, _⟩ := p
    exact PySem.W.kia_one PySem.W.kitx_tuple I.kIn ⟨o, h1, h2⟩ e (fun z => nomatch z) h
  | @dK a kvs ea =>
    cases (show u = Value.ref a from rx)
    obtain ⟨_, _, vs, _, p⟩ := (show ObjOk X.prog X.w H s.heap a (.dK kvs) from I.hok a _ ea)
    obtain ⟨o, es, ep, h1, h2, _⟩ := p
    exact PySem.W.kia_one PySem.W.kitx_dict I.kIn ⟨o, h1, h2.1⟩ e (fun z => nomatch z) h
  | @dT a kvs ea =>
    cases (show u = Value.ref a from rx)
    obtain ⟨_, _, xs, _, o, es, ep, h1, h2, _⟩ := (show ObjOk X.prog X.w H s.heap a (.dT kvs) from I.hok a _ ea)
    exact PySem.W.kia_one PySem.W.kitx_dict I.kIn ⟨o, h1, h2.1⟩ e (fun z => nomatch z) h
  | @ins a C dx fs ea cl ha hn htk hm =>
    cases (show u = Value.ref a from rx)
    obtain ⟨mA, O, _⟩ := ins_get I.hok ea
    obtain ⟨od, J, _⟩ := O.look
    exact PySem.W.kia_one (PySem.W.kitx_own (cl.get _) cl.hd ha hn htk hm) I.kIn J e (fun z => nomatch z) h
end
end L2

namespace L2
open PySem PySem.Spec PyProof.Rows

structure Room (k : Nat) (A : Around) : Prop where
  hd : A.handled = none
  dp : A.depth + 3 * k + 5 < recursionLimit
  un : A.units + 16 * k + 200 < cLine
theorem Room.mono {j k : Nat} {A : Around} (r : Room k A) (h : j ≤ k) : Room j A := ⟨r.hd, by have := r.dp; omega, by have := r.un; omega⟩
theorem Room.deeper {k : Nat} {A : Around} (r : Room (k + 1) A) (env : Env) : Room k (A.deeper env) :=
  ⟨r.hd, by have := r.dp; show A.depth + 1 + 3 * k + 5 < _; omega, by have := r.un; show A.units + 3 + 16 * k + 200 < _; omega⟩
theorem make_depth {A : Around} {C : Addr} {us : List Value} {kw : List (Str × Value)} : (A.under (.builtin "type.__call__" ⟨.ref C :: us, kw⟩)).depth = A.depth + 1 := by
  first | rfl | simp [Around.under, Code.weight, Code.isCreation, Code.isGuard, Code.isCaller, Code.frames, Code.isFrame, guardIds]
theorem make_units {A : Around} {C : Addr} {us : List Value} {kw : List (Str × Value)} : (A.under (.builtin "type.__call__" ⟨.ref C :: us, kw⟩)).units = A.units + 1 := by
  first | rfl | simp [Around.under, Code.cUnits, Code.frames, Code.isFrame]
theorem Room.make {k : Nat} {A : Around} (r : Room (k + 1) A) (C : Addr) (us : List Value) (kw : List (Str × Value)) : Room k (A.under (.builtin "type.__call__" ⟨.ref C :: us, kw⟩)) :=
  ⟨r.hd, by have := r.dp; rw [make_depth]; omega, by have := r.un; rw [make_units]; omega⟩
theorem Room.depth {k : Nat} {A : Around} (r : Room k A) : A.depth < recursionLimit := by have := r.dp; omega
theorem Room.units {k : Nat} {A : Around} (r : Room k A) : A.units + 64 < cLine := by have := r.un; omega
def tNil : TA := fun _ H Q => Q [] H
def tCons (ta : TE) (tr : TA) : TA := fun σ H Q => ta σ H fun x H1 => tr σ H1 fun xs H2 => Q (x :: xs) H2
section
variable {X : Cx} {e : Expr} {es : List Expr} {te : TE} {t : TA} {pos : Pos}
theorem pa_nil : PA X [] tNil := fun _ _ _ _ H Q I h => Calls.spliced_nil ⟨[], H, I, .nil, h⟩
theorem pa_cons (ha : PE X e te) (hr : PA X es t) (hs : starEach (e :: es) X.env = (false, eval e X.env) :: starEach es X.env := by rfl) : PA X (e :: es) (tCons te t) := by
  intro pos pins s σ H Q I h
  rw [hs]
  show wpAny _ _ (spliced ((false, eval e X.env) :: backTo pos (starEach es X.env))) _ _ s
  refine Calls.spliced_cons (thn (ha pins s σ H _ I h) fun u s1 ⟨x, H1, I1, r1, q1⟩ => ?_)
  exact thn (hr pos pins s1 σ H1 _ I1 q1) fun us s2 ⟨xs, H2, I2, r2, q2⟩ => ⟨x :: xs, H2, I2, .cons r1 r2, q2⟩

/-- a tuple, a list of written items -/
def tTup (t : TA) : TE := fun σ H Q => t σ H fun xs H1 => xs.length ≤ sizeLine ∧ ∀ p, H1 p = none → Q (.ref p) (upd H1 p (.tup xs))
def tLst (t : TA) : TE := fun σ H Q => t σ H fun xs H1 => xs.length ≤ sizeLine ∧ ∀ p, H1 p = none → Q (.ref p) (upd H1 p (.lst xs))
theorem pe_tup {x1} (h : PA X es t) : PE X (.Tuple es x1 pos) (tTup t) := by
  intro pins s σ H Q I hq
  refine wpAny_Tuple_spliced (thn (h pos pins s σ H _ I hq) fun us s1 ⟨xs, H1, I1, r, z, q⟩ => ⟨by rw [← r.length]; exact z, ?_⟩)
  have hf : H1 s1.heap.objs.size = none := I1.hok.fresh (Nat.le_refl _)
  refine ⟨.ref s1.heap.objs.size, upd H1 s1.heap.objs.size (.tup xs), I1.laid (t' := s1.toks) (fun b u e => Heap.get?_push_of_some _ e) (Nat.le_refl _) ?_, rfl, q _ hf⟩
  exact ⟨z, us, r, ⟨_, Heap.get?_push_size _ rfl, rfl, _, rfl⟩⟩
theorem pe_lst (h : PA X es t) : PE X (.List es pos) (tLst t) := by
  intro pins s σ H Q I hq
  refine wpAny_List_spliced (thn (h pos pins s σ H _ I hq) fun us s1 ⟨xs, H1, I1, r, z, q⟩ => ⟨by rw [← r.length]; exact z, ?_⟩)
  have hf : H1 s1.heap.objs.size = none := I1.hok.fresh (Nat.le_refl _)
  refine ⟨.ref s1.heap.objs.size, upd H1 s1.heap.objs.size (.lst xs), I1.laid (t' := s1.toks) (fun b u e => Heap.get?_push_of_some _ e) (Nat.le_refl _) ?_, rfl, q _ hf⟩
  exact ⟨z, us, 0, r, Heap.get?_push_size _ rfl⟩
end

/-- a def's promise: the bound arguments in the parameters' order, the heap, the wanted end, the wanted exception -/
abbrev Sp := List V → Hp → VK → XK → Prop
/-- how an exception lies behind a call (file 08 gives it): the callers' frames, abstract heap and state ahead of the call, the wish, the exception, the state -/
abbrev CXT := List Env → Hp → Shared → XK → Value → Shared → Prop

/-- the state at a call -/
structure Env0 (P : Program) (w : World) (K : PySem.W.Frag) (mg : Str → Option Value) (base : Heap) (A : Around) (outer : List Env) (s : Shared) (H : Hp) : Prop where
  frames : A.frames = some outer
  mod : Mod K mg base
  bs : ∀ b o, base.get? b = some o → s.heap.get? b = some o ∧ H b = none
  bsz : base.objs.size ≤ s.heap.objs.size
  funs : s.heap.FunFrames base outer
  frf : ∀ b ∈ frs outer, H b = none
  hok : HOk P w H s.heap
  bare : AllBare s.gens
/-- a call's end -/
def CE (outer : List Env) (P : Program) (w : World) (H : Hp) (s : Shared) (Q : VK) (u : Value) (s' : Shared) : Prop :=
  ∃ v H', s'.os = s.os ∧ AllBare s'.gens ∧ Un (frs outer) [] H H' s.heap s'.heap ∧ HOk P w H' s'.heap ∧ RelV v u ∧ Q v H'
def CR (CX : CXT) (outer : List Env) (P : Program) (w : World) (H : Hp) (s : Shared) (Q : VK) (E : XK) (r : Result) (s' : Shared) : Prop :=
  match r with
  | .ok (.ret u) => CE outer P w H s Q u s'
  | .ok _ => False
  | .error e => CX outer H s E e s'
structure FnOk (P : Program) (w : World) (K : PySem.W.Frag) (mg : Str → Option Value) (base : Heap) (CX : CXT) (k : Nat) (f : Addr) (fd : FuncData) (ps : List Str) (sp : Sp) : Prop where
  len : ∀ vs H Q E, sp vs H Q E → vs.length = ps.length
  run : ∀ (A : Around) (outer : List Env) (s : Shared) (H : Hp) (args : Args) (us : List Value) (vs : List V) (Q : VK) (E : XK), Room k A → Env0 P w K mg base A outer s H → BindsTo s fd args (ps.zip us) → Vals vs us → sp vs H Q E →
    codeAny (model P w) A (.call (.ref f) args) (CR CX outer P w H s Q E) s
theorem Env0.make {P : Program} {w : World} {K : PySem.W.Frag} {mg : Str → Option Value} {base : Heap} {A : Around} {outer : List Env} {s : Shared} {H : Hp} (e : Env0 P w K mg base A outer s H) (C : Addr) (us : List Value) (kw : List (Str × Value)) :
    Env0 P w K mg base (A.under (.builtin "type.__call__" ⟨.ref C :: us, kw⟩)) outer s H := ⟨by first | exact e.frames | (simpa [Around.under, Code.envs, Code.isFrame, pushEnvs] using e.frames), e.mod, e.bs, e.bsz, e.funs, e.frf, e.hok, e.bare⟩
section
variable {X : Cx} {pins : List (Addr × Obj)} {σ : St} {H : Hp} {s s' : Shared}
/-- from a body: what a callee wants -/
theorem Inv.env0 (I : Inv X pins σ H s) : Env0 X.prog X.w X.K X.mg X.base X.A X.stack s H :=
  ⟨I.ok.frames, I.ok.mod, I.bs, Nat.le_trans I.ok.bsz I.sz, I.stack, I.stkFree, I.hok, I.bare⟩
/-- behind a call -/
theorem Inv.after {Q : VK} {u : Value} (I : Inv X pins σ H s) (h : CE X.stack X.prog X.w H s Q u s') : EP X pins σ Q u s' := by
  obtain ⟨v, H', os, bare, un, hok, r, q⟩ := h
  obtain ⟨hh, g, d, t, os'⟩ := s'
  obtain rfl : os' = s.os := os
  exact ⟨v, H', I.call (h' := hh) (g' := g) (d' := d) (t' := t) (ch := []) un hok bare (fun b z => absurd z (by simp)), r, q⟩
end

/-- f(..): the written arguments, then the defaults dvs; E: what is wanted of an exception -/
def tCall (sp : Sp) (dvs : List V) (E : XK) (t : TA) : TE := fun σ H Q => t σ H fun vs H1 => sp (vs ++ dvs) H1 Q E
/-- o.m(..) of an instance of the class at C -/
def tMeth (C : Addr) (m : Str) (sp : Sp) (dvs : List V) (E : XK) (ta : TE) (t : TA) : TE := fun σ H Q => ta σ H fun x H1 => ∃ a dx fs, x = .ref a ∧ H1 a = some (.ins C dx fs) ∧ fs.lookup m = none ∧
  t σ H1 fun vs H2 => sp (x :: (vs ++ dvs)) H2 Q E
/-- C(..): a new instance and its dict, then __init__ -/
def tMake (C : Addr) (sp : Sp) (dvs : List V) (E : XK) (t : TA) : TE := fun σ H Q => t σ H fun vs H1 => ∀ x dx, H1 x = none → H1 dx = none → dx ≠ x →
  sp (.ref x :: (vs ++ dvs)) (upd (upd H1 dx (.own x)) x (.ins C dx [])) (fun v H2 => v = .non ∧ Q (.ref x) H2) E

/-- how the parameters are bound: us the positional arguments, kw the keywords' values by name, ds the defaults that fill up -/
def Binds (K : PySem.W.Frag) (fd : FuncData) (ps : List Str) (ds : List Value) : Prop :=
  ∀ (s : Shared) (us : List Value), K.In s.heap → (us ++ ds).length = ps.length → BindsTo s fd ⟨us, []⟩ (ps.zip (us ++ ds))
/-- every parameter is given -/
theorem Binds.all {K : PySem.W.Frag} {fd : FuncData} {ps : List Str} (h : ∀ us : List Value, us.length = ps.length → bindArgs fd ⟨us, []⟩ = pure (ps.zip us)) : Binds K fd ps [] := fun s us _ hl => by
  rw [List.append_nil] at hl ⊢
  exact .of_eq (h us hl)

/-- an exception of a callee reaches what this body wants of exceptions -/
def Passes (CX : CXT) (X : Cx) (E : XK) : Prop := ∀ (pins : List (Addr × Obj)) (σ : St) (H : Hp) (s : Shared) (e : Value) (s' : Shared), Inv X pins σ H s → CX X.stack H s E e s' → X.xe e s'

section
variable {X : Cx} {CX : CXT} {k : Nat} {f C : Addr} {fd : FuncData} {ps : List Str} {sp : Sp} {dvs : List V} {ds : List Value} {E : XK} {x m : Str} {p pos apos : Pos} {e o : Expr} {es : List Expr} {ta : TE} {t : TA}

/-- the callee runs -/
theorem run_fn {pins : List (Addr × Obj)} {σ : St} {H : Hp} {s : Shared} {Q : VK} {us : List Value} {vs : List V} (F : FnOk X.prog X.w X.K X.mg X.base CX k f fd ps sp) (hr : Room k X.A) (hb : Binds X.K fd ps ds) (hd : Vals dvs ds) (hx : Passes CX X E)
    (I : Inv X pins σ H s) (r : Vals vs us) (h : sp (vs ++ dvs) H Q E) : wpAny (model X.prog X.w) X.A (call (.ref f) us) (EP X pins σ Q) X.xe s := by
  have r2 : Vals (vs ++ dvs) (us ++ ds) := r.append hd
  have hl : (us ++ ds).length = ps.length := by rw [← r2.length]; exact F.len _ _ _ _ h
  refine wpAny_call (codeAny_mono (F.run X.A X.stack s H ⟨us, []⟩ (us ++ ds) (vs ++ dvs) Q E hr I.env0 (hb s us I.kIn hl) r2 h) fun r s' hq => ?_)
  cases r with
  | error e => exact hx pins σ H s e s' I hq
  | ok fl =>
    cases fl with
    | ret u => exact I.after hq
    | next => exact False.elim hq
    | brk => exact False.elim hq
    | cont => exact False.elim hq

theorem pe_call (F : FnOk X.prog X.w X.K X.mg X.base CX k f fd ps sp) (hr : Room k X.A) (hg : Gl X x) (hm : X.mg x = some (.ref f)) (hk : PySem.W.keepIn X.K (.ref f) = true) (hb : Binds X.K fd ps ds) (hd : Vals dvs ds) (hx : Passes CX X E)
    (ha : PA X (e :: es) t) (hdb : (x == ("__debug__" : Str)) = false := by decide) (he : starEach (e :: es) X.env = (false, eval e X.env) :: starEach es X.env := by rfl) (hpl : (backTo pos (starEach es X.env)).any (·.1) = false := by rfl) :
    PE X (.Call (.Name x p) (e :: es) [] pos) (tCall sp dvs E t) := by
  intro pins s σ H Q I h
  refine wpAny_Call_Name_kw (ld_glob I hg hm ?_ hdb)
  refine PySem.W.callWith_K (h₀ := X.base) I.ok.mod.kin hk (thn (ha pos pins s σ H _ I h) fun us s1 ⟨vs, H1, I1, r, q⟩ => ⟨I1.kIn, ?_⟩) he hpl
  exact run_fn F hr hb hd hx I1 r q
/-- o.m(e, ..) -/
theorem pe_meth {pl : Sem Bool} (he : PE X o ta) (c : Cls X.K C) (hm : Meth X.K C m f) (F : FnOk X.prog X.w X.K X.mg X.base CX k f fd ps sp) (hr : Room k X.A) (hb : Binds X.K fd ps ds) (hd : Vals dvs ds) (hx : Passes CX X E) (ha : PA X (e :: es) t)
    (hst : starEach (e :: es) X.env = (false, eval e X.env) :: starEach es X.env := by rfl) (hpl : (backTo pos (starEach es X.env)).any (·.1) = false := by rfl)
    (ht : eval (.Call (.Attribute o m apos) (e :: es) [] pos) X.env = (do
      let ov ← eval o X.env
      standAt apos.atName
      let (f, first) ← holding [ov] (getMethod ov m pl)
      callWith pos f first (backTo pos (starEach (e :: es) X.env)) (backToKw pos (keywordEach [] X.env))) := by rfl) :
    PE X (.Call (.Attribute o m apos) (e :: es) [] pos) (tMeth C m sp dvs E ta t) := by
  intro pins s σ H Q I h
  refine PySem.W.methodCall_KW (pl := pl) (thn (he pins s σ H _ I h) fun u s1 ⟨x, H1, I1, rx, a, dx, fs, ex, ea, l, q⟩ => ?_) ht
  subst ex
  obtain rfl : u = Value.ref a := rx
  refine getmeth_ok I1 ea c hm l ?_
  refine PySem.W.callWith_K (first := [.ref a]) (h₀ := X.base) I.ok.mod.kin hm.kp (thn (ha pos pins s1 σ H1 _ I1 q) fun us s2 ⟨vs, H2, I2, r, q2⟩ => ⟨I2.kIn, ?_⟩) hst hpl
  exact run_fn (us := .ref a :: us) (vs := .ref a :: vs) F hr hb hd hx I2 (.cons rfl r) q2
/-- o.m() -/
theorem pe_meth0 {pl : Sem Bool} (he : PE X o ta) (c : Cls X.K C) (hm : Meth X.K C m f) (F : FnOk X.prog X.w X.K X.mg X.base CX k f fd ps sp) (hr : Room k X.A) (hb : Binds X.K fd ps ds) (hd : Vals dvs ds) (hx : Passes CX X E)
    (ht : eval (.Call (.Attribute o m apos) [] [] pos) X.env = (do
      let ov ← eval o X.env
      standAt apos.atName
      let (f, first) ← holding [ov] (getMethod ov m pl)
      callWith pos f first (backTo pos (starEach [] X.env)) (backToKw pos (keywordEach [] X.env))) := by rfl) :
    PE X (.Call (.Attribute o m apos) [] [] pos) (tMeth C m sp dvs E ta tNil) := by
  intro pins s σ H Q I h
  refine PySem.W.methodCall_KW (pl := pl) (thn (he pins s σ H _ I h) fun u s1 ⟨x, H1, I1, rx, a, dx, fs, ex, ea, l, q⟩ => ?_) ht
  subst ex
  obtain rfl : u = Value.ref a := rx
  refine getmeth_ok I1 ea c hm l ?_
  exact PySem.W.callWith_K0 (first := [.ref a]) I1.kIn hm.kp (run_fn (us := [.ref a]) (vs := [.ref a]) F hr hb hd hx I1 (.cons rfl .nil) q)

/-- what a class must have to be made -/
structure Mk (K : PySem.W.Frag) (C f : Addr) : Prop where
  makes : PySem.W.makesIn K C = true
  init : PySem.W.findIn K (.ref C) "__init__" = some (some (.ref f))
  fn : PySem.W.isFn K (.ref f) = true
  kp : PySem.W.keepIn K (.ref C) = true

theorem run_make {pins : List (Addr × Obj)} {σ : St} {H : Hp} {s : Shared} {Q : VK} {us : List Value} {vs : List V} (M : Mk X.K C f) (F : FnOk X.prog X.w X.K X.mg X.base CX k f fd ps sp) (hr : Room (k + 1) X.A) (hb : Binds X.K fd ps ds) (hd : Vals dvs ds)
    (hx : Passes CX X E) (I : Inv X pins σ H s) (r : Vals vs us)
    (h : ∀ x dx, H x = none → H dx = none → dx ≠ x → sp (.ref x :: (vs ++ dvs)) (upd (upd H dx (.own x)) x (.ins C dx [])) (fun v H2 => v = .non ∧ Q (.ref x) H2) E) :
    wpAny (model X.prog X.w) X.A (call (.ref C) us) (EP X pins σ Q) X.xe s := by
  have hq := h (s.heap.objs.size + 1) s.heap.objs.size (I.hok.fresh (Nat.le_succ _)) (I.hok.fresh (Nat.le_refl _)) (Nat.ne_of_lt (Nat.lt_succ_self _))
  have I2 := Inv.made (C := C) I
  have r2 : Vals (V.ref (s.heap.objs.size + 1) :: (vs ++ dvs)) (Value.ref (s.heap.objs.size + 1) :: (us ++ ds)) := .cons rfl (r.append hd)
  have hl : (Value.ref (s.heap.objs.size + 1) :: us ++ ds).length = ps.length := by
    have e := r2.length
    rw [F.len _ _ _ _ hq] at e
    exact e.symm
  refine wpAny_call (make_map (f := f) I.kIn M.makes M.init (beq_iff_eq.mp M.fn) (codeAny_mono (F.run _ X.stack _ _ ⟨Value.ref (s.heap.objs.size + 1) :: us, []⟩ (Value.ref (s.heap.objs.size + 1) :: (us ++ ds)) _ _ E (hr.make C us [])
    (I2.env0.make C us []) (hb _ (Value.ref (s.heap.objs.size + 1) :: us) I2.kIn hl) r2 hq) fun r s' hq' => ?_))
  cases r with
  | error e => exact hx pins σ _ _ e s' I2 hq'
  | ok fl =>
    cases fl with
    | ret u =>
      obtain ⟨v, H', I3, rv, ev, q3⟩ := I2.after hq'
      subst ev
      exact ⟨rv, ⟨V.ref (s.heap.objs.size + 1), H', I3, rfl, q3⟩⟩
    | next => exact False.elim hq'
    | brk => exact False.elim hq'
    | cont => exact False.elim hq'
theorem pe_make (M : Mk X.K C f) (F : FnOk X.prog X.w X.K X.mg X.base CX k f fd ps sp) (hr : Room (k + 1) X.A) (hg : Gl X x) (hm : X.mg x = some (.ref C)) (hb : Binds X.K fd ps ds) (hd : Vals dvs ds) (hx : Passes CX X E)
    (ha : PA X (e :: es) t) (hdb : (x == ("__debug__" : Str)) = false := by decide) (he : starEach (e :: es) X.env = (false, eval e X.env) :: starEach es X.env := by rfl) (hpl : (backTo pos (starEach es X.env)).any (·.1) = false := by rfl) :
    PE X (.Call (.Name x p) (e :: es) [] pos) (tMake C sp dvs E t) := by
  intro pins s σ H Q I h
  refine wpAny_Call_Name_kw (ld_glob I hg hm ?_ hdb)
  refine PySem.W.callWith_K (h₀ := X.base) I.ok.mod.kin M.kp (thn (ha pos pins s σ H _ I h) fun us s1 ⟨vs, H1, I1, r, q⟩ => ⟨I1.kIn, ?_⟩) he hpl
  exact run_make M F hr hb hd hx I1 r q
end

section
variable {X : Cx} {CX : CXT} {k : Nat} {f C : Addr} {fd : FuncData} {ps ks : List Str} {sp : Sp} {E : XK} {x m : Str} {p pos apos kpos : Pos} {e o : Expr} {es : List Expr} {kws : List Keyword} {te ta : TE} {t tk : TA} {nm : Option Str}
variable {g : List Value → List Value → List Value} {gV : List V → List V → List V}
end

/-- names: the parameters first -/
structure FnScope (N P : List Str) (sc : Scope) : Prop where
  kind : sc.kind = .function
  co : sc.isCoroutine = false
  gen : sc.isGenerator = false
  nd : N.Nodup
  pre : N.take P.length = P
  par : ∀ x ∈ P, sc.names.lookup x = some .local ∨ sc.names.lookup x = some .cell
  nofree : ∀ y ∈ sc.names, y.2 ≠ .free

theorem bindL_out {kindOf : Str → Option NameKind} {x : Str} : ∀ {binds : List (Str × Value)} {m : Str → Option Value}, (∀ v, (x, v) ∉ binds) → bindL kindOf binds m x = m x
  | [], _, _ => rfl
  | (n, v) :: r, m, h => by
    unfold bindL
    rw [bindL_out fun w hw => h w (List.mem_cons_of_mem _ hw)]
    split
    · have : x ≠ n := by rintro rfl; exact h v List.mem_cons_self
      simp [this]
    · rfl
theorem bindC_out {kindOf : Str → Option NameKind} {x : Str} : ∀ {binds : List (Str × Value)} {m : Str → Option Value}, (∀ v, (x, v) ∉ binds) → bindC kindOf binds m x = m x
  | [], _, _ => rfl
  | (n, v) :: r, m, h => by
    unfold bindC
    rw [bindC_out fun w hw => h w (List.mem_cons_of_mem _ hw)]
    split
    · rfl
    · have : x ≠ n := by rintro rfl; exact h v List.mem_cons_self
      simp [this]
theorem bindL_get {kindOf : Str → Option NameKind} {x : Str} {v : Value} : ∀ {P : List Str} {vs : List Value} {i : Nat} {m : Str → Option Value}, P.Nodup → P[i]? = some x → vs[i]? = some v → kindOf x = some .local →
    bindL kindOf (P.zip vs) m x = some v
  | [], _, _, _, _, h, _, _ => by simp at h
  | _ :: _, [], _, _, _, _, h, _ => by simp at h
  | p :: P, w :: vs, 0, m, nd, h1, h2, hk => by
    simp at h1 h2; subst h1; subst h2
    show bindL kindOf ((p, w) :: P.zip vs) m p = _
    unfold bindL
    rw [bindL_out fun v hv => (List.nodup_cons.mp nd).1 (List.of_mem_zip hv).1, if_pos hk]
    simp
  | p :: P, w :: vs, i + 1, m, nd, h1, h2, hk => by
    show bindL kindOf ((p, w) :: P.zip vs) m x = _
    unfold bindL
    exact bindL_get (i := i) (List.nodup_cons.mp nd).2 (by simpa using h1) (by simpa using h2) hk
theorem bindC_get {kindOf : Str → Option NameKind} {x : Str} {v : Value} : ∀ {P : List Str} {vs : List Value} {i : Nat} {m : Str → Option Value}, P.Nodup → P[i]? = some x → vs[i]? = some v → kindOf x ≠ some .local →
    bindC kindOf (P.zip vs) m x = some v
  | [], _, _, _, _, h, _, _ => by simp at h
  | _ :: _, [], _, _, _, _, h, _ => by simp at h
  | p :: P, w :: vs, 0, m, nd, h1, h2, hk => by
    simp at h1 h2; subst h1; subst h2
    show bindC kindOf ((p, w) :: P.zip vs) m p = _
    unfold bindC
    rw [bindC_out fun v hv => (List.nodup_cons.mp nd).1 (List.of_mem_zip hv).1, if_neg hk]
    simp
  | p :: P, w :: vs, i + 1, m, nd, h1, h2, hk => by
    show bindC kindOf ((p, w) :: P.zip vs) m x = _
    unfold bindC
    exact bindC_get (i := i) (List.nodup_cons.mp nd).2 (by simpa using h1) (by simpa using h2) hk

/-- the names' values at the entry -/
def start (N : List Str) (vs : List V) : St := vs.map some ++ List.replicate (N.length - vs.length) none

/-- the context of a def's body, at its entry; an exception leaves the frame, then lies as CX says -/
def cxOf (CX : CXT) (P : Program) (w : World) (K : PySem.W.Frag) (mg : Str → Option Value) (base : Heap) (N : List Str) (qual : Str) (scope : Scope) (f : Addr) (cd : Value) (A : Around) (outer : List Env) (s : Shared) (H : Hp) (E : XK) : Cx where
  prog := P
  w := w
  K := K
  mg := mg
  base := base
  A := A.deeper (envOfC qual scope s.heap.objs.size f cd)
  N := N
  s₀ := s
  H₀ := H
  env := envOfC qual scope s.heap.objs.size f cd
  outer := outer
  stack := envOfC qual scope s.heap.objs.size f cd :: outer
  ex := []
  calm := true
  fn := fun _ => true
  pn := []
  xe := fun e s' => wpAny (model P w) (A.deeper (envOfC qual scope s.heap.objs.size f cd)) (leaving (envOfC qual scope s.heap.objs.size f cd) e) (fun _ s'' => CX outer H s E e s'') (fun e' s'' => CX outer H s E e' s'') s'

theorem cell_has {sc : Scope} {n : Nat} {x : Str} (h : sc.names.lookup x = some .cell) : ∃ c, (cellsFrom n sc.names []).lookup x = some c := by
  have q := PySem.W.cellsFrom_some sc.names n [] (.inl h)
  exact Option.isSome_iff_exists.mp q

theorem inv_start {CX : CXT} {P : Program} {w : World} {K : PySem.W.Frag} {mg : Str → Option Value} {base : Heap} {N ps : List Str} {qual : Str} {scope : Scope} {f : Addr} {cd : Value} {A : Around} {outer : List Env} {s s1 : Shared} {H : Hp} {E : XK} {us : List Value} {vs : List V}
    (S : FnScope N ps scope) (hd : A.handled = none) (e0 : Env0 P w K mg base A outer s H) (hl : vs.length = ps.length) (r : Vals vs us)
    (x : InCallC s s.heap.objs.size (bindL (envOfC qual scope s.heap.objs.size f cd).kindOf (ps.zip us) fun _ => none) (cellsFrom (s.heap.objs.size + 1) scope.names []) (bindC (envOfC qual scope s.heap.objs.size f cd).kindOf (ps.zip us) fun _ => none) s1) :
    Inv (cxOf CX P w K mg base N qual scope f cd A outer s H E) [] (start N vs) H s1 := by
  have hpl : ps.length ≤ N.length := by have := congrArg List.length S.pre; rw [List.length_take] at this; omega
  obtain ⟨h1, tk, rfl, hk⟩ := x.done
  have noA : ∀ b : Addr, b ∉ (cxOf CX P w K mg base N qual scope f cd A outer s H E).ex := fun b z => absurd (show b ∈ ([] : List Addr) from z) (by simp)
  refine ⟨⟨e0.mod, S.kind, rfl, rfl, Nat.le_refl _, fun y z c h1 h2 => ?_, fun y hy => ?_, fun y c _ h => ?_, fun _ => hd, Around.frames_deeper e0.frames, .inr ⟨rfl, rfl⟩, fun b z => absurd z (noA b), e0.bs, e0.bsz, fun b _ _ => noA b, fun b z => absurd z (noA b), e0.funs, e0.frf⟩,
    rfl, e0.bare, Un.kept hk, ⟨_, x.toInCall.ns, fun i y v h1 h2 h3 => ?_⟩, fun y c h => ⟨_, x.cell y c h⟩, e0.hok.fresh (Nat.le_refl _), fun y c h => ?_, fun p hp => absurd (show p ∈ ([] : List (Addr × Obj)) from hp) (by simp), e0.hok.kept hk, ?_⟩
  · exact name_of_addr x.apart (PySem.mem_of_lookup h1) (PySem.mem_of_lookup h2)
  · have hy : scope.names.lookup y = some .cell ∨ scope.names.lookup y = some .free := hy
    rcases hy with hy | hy
    · exact cell_has hy
    · exact absurd rfl (S.nofree _ (PySem.mem_of_lookup hy))
  · exact Nat.le_of_lt (x.above y c (PySem.mem_of_lookup h))
  · have hi : i < vs.length := by
      unfold start at h2
      by_cases hi : i < vs.length
      · exact hi
      · rw [List.getElem?_append_right (by simpa using hi)] at h2
        rw [List.getElem?_replicate] at h2
        split at h2 <;> cases h2
    have ha : vs[i]? = some v := by
      unfold start at h2
      rw [List.getElem?_append_left (by simpa using hi), List.getElem?_map] at h2
      cases e : vs[i]? with
      | none => rw [e] at h2; cases h2
      | some a => rw [e] at h2; cases h2; rfl
    obtain ⟨u, hu, rv⟩ := r.get ha
    have hp : ps[i]? = some y := by
      rw [← S.pre, List.getElem?_take_of_lt (by omega)]; exact h1
    have ndP : ps.Nodup := by rw [← S.pre]; exact S.nd.sublist (List.take_sublist _ _)
    refine ⟨u, rv, ?_⟩
    rcases S.par y (List.mem_of_getElem? hp) with k | k
    · exact .inl ⟨k, bindL_get ndP hp hu k⟩
    · obtain ⟨c, e⟩ := cell_has (n := s.heap.objs.size + 1) k
      refine .inr ⟨.inl k, c, e, ?_⟩
      have q := x.cell y c e
      rw [bindC_get ndP hp hu (by show scope.names.lookup y ≠ _; rw [k]; decide)] at q
      exact q
  · exact e0.hok.fresh (Nat.le_of_lt (x.above y c (PySem.mem_of_lookup h)))
  · unfold start
    show _ = N.length
    rw [List.length_append, List.length_map, List.length_replicate]
    omega

/-- THE RULE: a def (or a method) of the text, by its body. The body's reading t is chosen for each entry; it is run at the parameters' values -/
theorem fn_of {CX : CXT} {P : Program} {w : World} {K : PySem.W.Frag} {mg : Str → Option Value} {base : Heap} {k : Nat} {f : Addr} {name qual : Str} {params : Arguments} {body : List Stmt} {scope : Scope} {dV kV doc pm cdv ct oc : Value} {an od : Option Addr}
    {osl : Array (Option Value)} {N ps : List Str} {sp : Sp} (lk : K.lookup f = some ⟨oc, od, .func (PySem.W.fnOf name qual params body scope dV kV doc pm an cdv ct), osl⟩) (hcd : PySem.W.codeIn K cdv qual = true) (S : FnScope N ps scope)
    (len : ∀ vs H Q E, sp vs H Q E → vs.length = ps.length)
    (hbody : ∀ (A : Around) (outer : List Env) (s : Shared) (H : Hp) (vs : List V) (Q : VK) (E : XK), Room k (A.deeper (envOfC qual scope s.heap.objs.size f cdv)) → sp vs H Q E →
      ∃ t, PSs (cxOf CX P w K mg base N qual scope f cdv A outer s H E) body t ∧ t { nx := fun _ H' => Q .non H', rt := Q } (start N vs) H) :
    FnOk P w K mg base CX (k + 1) f (PySem.W.fnOf name qual params body scope dV kV doc pm an cdv ct) ps sp := by
  refine ⟨len, fun A outer s H args us vs Q E hr e0 hb r hsp => ?_⟩
  have hl := len _ _ _ _ hsp
  have KX : K.In s.heap := e0.mod.kin.keeps fun b o e => (e0.bs b o e).1
  have lim : s.heap.NoLimit := e0.mod.nolimit.keeps fun b o e => (e0.bs b o e).1
  have hkind : ∀ y ∈ ps.zip us, scope.names.lookup y.1 = some .local ∨ (scope.names.lookup y.1 = some .cell ∧ ((cellsFrom (s.heap.objs.size + 1) scope.names []).lookup y.1).isSome = true) := fun ⟨n, v⟩ hy => by
    rcases S.par n (List.of_mem_zip hy).1 with q | q
    · exact .inl q
    · exact .inr ⟨q, PySem.W.cellsFrom_some _ _ _ (.inl q)⟩
  refine codeAny_call_function hr.depth (KX _ _ lk) rfl S.co S.gen rfl (PySem.W.codeRec_of KX hcd) (hb _ _ _ _ ?_)
  refine wpAny_newFunctionEnv_cells S.kind hkind fun env he s1 x => ?_
  subst he
  refine ⟨lim.keeps x.toInCall.keep, codeAny_func ?_⟩
  obtain ⟨t, ht, hq⟩ := hbody A outer s H vs Q E (hr.deeper _) hsp
  have I : Inv (cxOf CX P w K mg base N qual scope f cdv A outer s H E) [] (start N vs) H s1 := inv_start S hr.hd e0 hl r x
  refine wpAny_mono (ht [] s1 (start N vs) H _ I hq) (fun fl s' hs => ?_) fun e s' hs => hs
  have fin : ∀ {σ' : St} {H' : Hp} {v : V} {u : Value}, Inv (cxOf CX P w K mg base N qual scope f cdv A outer s H E) [] σ' H' s' → RelV v u → Q v H' → CE outer P w H s Q u s' :=
    fun {σ' H' v u} J rv q => ⟨v, H', J.os, J.bare, J.base, J.hok, rv, q⟩
  cases fl with
  | ret u =>
    obtain ⟨v, σ', H', J, rv, q⟩ := hs
    exact fin J rv q
  | next =>
    obtain ⟨σ', H', J, q⟩ := hs
    exact fin (v := V.non) (u := Value.none) J rfl q
  | brk =>
    obtain ⟨_, _, _, q⟩ := hs
    exact False.elim q
  | cont =>
    obtain ⟨_, _, _, q⟩ := hs
    exact False.elim q
end L2

namespace L2
open PySem PySem.Spec PyProof.Rows
section
variable {X : Cx} {x : Str} {p pos : Pos} {e : Expr} {es : List Expr} {t : TA} {id T : String} {r : List V → Hp → VK → Prop}

def tCB (r : List V → Hp → VK → Prop) (t : TA) : TE := fun σ H Q => t σ H fun vs H1 => r vs H1 Q
/-- f(e, ..), f a built-in function -/
theorem pe_callB (hc : CallR X (.builtin id) r) (hg : Gl X x) (hm : X.mg x = none) (hv : bootBuiltins x = some (.builtin id)) (ha : PA X (e :: es) t) (hn : x ≠ "__name__" := by decide) (hdb : (x == ("__debug__" : Str)) = false := by decide)
    (he : starEach (e :: es) X.env = (false, eval e X.env) :: starEach es X.env := by rfl) (hpl : (backTo pos (starEach es X.env)).any (·.1) = false := by rfl) : PE X (.Call (.Name x p) (e :: es) [] pos) (tCB r t) := by
  intro pins s σ H Q I h
  refine wpAny_Call_Name_kw (ld_blt I hg hm hv ?_ hn hdb)
  exact PyProof.Rows.callWith_builtin1 (thn (ha pos pins s σ H _ I h) fun us s1 ⟨vs, H1, I1, r1, q1⟩ => hc pins s1 σ H1 vs us Q I1 r1 q1) he hpl
/-- T(e, ..), T a built-in type -/
theorem pe_callTy (hc : CallR X (.type T) r) (hg : Gl X x) (hm : X.mg x = none) (hv : bootBuiltins x = some (.type T)) (ha : PA X (e :: es) t) (hn : x ≠ "__name__" := by decide) (hdb : (x == ("__debug__" : Str)) = false := by decide)
    (he : starEach (e :: es) X.env = (false, eval e X.env) :: starEach es X.env := by rfl) (hpl : (backTo pos (starEach es X.env)).any (·.1) = false := by rfl) : PE X (.Call (.Name x p) (e :: es) [] pos) (tCB r t) := by
  intro pins s σ H Q I h
  refine wpAny_Call_Name_kw (ld_blt I hg hm hv ?_ hn hdb)
  exact PyProof.Rows.callWith_type1 (thn (ha pos pins s σ H _ I h) fun us s1 ⟨vs, H1, I1, r1, q1⟩ => hc pins s1 σ H1 vs us Q I1 r1 q1) he hpl
end
end L2

namespace HT
open PySem PyProof.Rows

section
open PySem.SeqAt
open PySem.AutoSeq1 (wpAny_loadPart')
open PySem.MeetsSeq PySem.MeetsSeq2 PySem.MeetsSeq3

end

section
variable {prog : Program} {w : World} {A : Around} {E : Value → Shared → Prop} {s : Shared}

/-- a slice's bound as a place among n (d where it is left out) -/
def sIx (n d : Nat) : Option Int → Nat
  | none => d
  | some v => if v < 0 then (v + (n : Int)).toNat else min v.toNat n
theorem sIx_none (n d : Nat) : sIx n d none = d := rfl
theorem sIx_nat (n d k : Nat) : sIx n d (some (k : Int)) = min k n := by
  show (if (k : Int) < 0 then ((k : Int) + (n : Int)).toNat else min (k : Int).toNat n) = min k n
  rw [if_neg (by omega), Int.toNat_natCast]
end
end HT

namespace L2
open PySem PySem.Spec PyProof.Rows

abbrev TO := St → Hp → (Option Int → Hp → Prop) → Prop
/-- a slice's part (left out, or an int) -/
def PO (X : Cx) (e : Option Expr) (t : TO) : Prop :=
  ∀ (pins : List (Addr × Obj)) (s : Shared) (σ : St) (H : Hp) (Q : Option Int → Hp → Prop), Inv X pins σ H s → t σ H Q →
    wpAny (model X.prog X.w) X.A (evalPart e X.env) (fun u s' => ∃ o H', Inv X pins σ H' s' ∧ IsPart u o ∧ Q o H') X.xe s
def tNoPart : TO := fun _ H Q => Q none H
def tPart (t : TE) : TO := fun σ H Q => t σ H fun x H1 => ∃ i, x = .int i ∧ Q (some i) H1

theorem intsAre_of {ns : List Int} : ∀ {us : List Value}, Vals (ns.map V.int) us → IntsAre us ns := by
  induction ns with
  | nil => intro us r; rw [List.map_nil] at r; cases r; exact .nil
  | cons n ns ih =>
    intro us r
    rw [List.map_cons] at r
    cases r with
    | cons r1 r2 =>
      obtain ⟨t, e⟩ := r1
      subst e
      exact .cons n t (ih r2)

section
variable {X : Cx} {e : Expr} {te : TE} {lo hi : Option Expr} {tl th : TO} {pos p2 : Pos}

theorem po_none : PO X none tNoPart := by
  intro pins s σ H Q I h
  rw [evalPart_none]
  exact wpAny_pure ⟨none, H, I, .none, h⟩
theorem po_some (h : PE X e te) : PO X (some e) (tPart te) := by
  intro pins s σ H Q I hw
  rw [evalPart_some]
  refine thn (h pins s σ H _ I hw) fun u s1 ⟨x, H1, I1, r1, q1⟩ => ?_
  obtain ⟨i, rfl, q⟩ := q1
  obtain ⟨t, rfl⟩ := r1
  exact ⟨some i, H1, I1, .int i t, q⟩

/-- what a slice of a value is, by values: the slice object stands at sl -/
def SlR (X : Cx) (r : V → Option Int → Option Int → Hp → VK → Prop) : Prop :=
  ∀ (pins : List (Addr × Obj)) (s : Shared) (σ : St) (H : Hp) (x : V) (v vl vu : Value) (lo hi : Option Int) (sl : Addr) (Q : VK), Inv X pins σ H s → RelV x v → s.heap.IsSliceOf sl vl vu .none → IsPart vl lo → IsPart vu hi → r x lo hi H Q →
    ∃ T id, typeLookup (.type T) "__getitem__" = pure (some (.builtin id)) ∧ s.TypeIs v T ∧ wpAny (model X.prog X.w) X.A (getItem v (.ref sl)) (EP X pins σ Q) X.xe s
def tSl (r : V → Option Int → Option Int → Hp → VK → Prop) (te : TE) (tl th : TO) : TE := fun σ H Q => te σ H fun x H1 => tl σ H1 fun l H2 => th σ H2 fun u H3 => r x l u H3 Q
/-- a[lo:hi], any a -/
theorem pe_slice {r : V → Option Int → Option Int → Hp → VK → Prop} (hr : SlR X r) (he : PE X e te) (hl : PO X lo tl) (hu : PO X hi th) : PE X (.Subscript e (.Slice lo hi none p2) pos) (tSl r te tl th) := by
  intro pins s σ H Q I h
  refine Subscript_ (thn (he pins s σ H _ I h) fun v s1 ⟨x, H1, I1, r1, q1⟩ => ?_)
  refine wpAny_Slice (thn (hl pins s1 σ H1 _ I1 q1) fun vl s2 ⟨l, H2, I2, pl, q2⟩ => thn (hu pins s2 σ H2 _ I2 q2) fun vu s3 ⟨u, H3, I3, pu, q3⟩ => ?_)
  rw [evalPart_none]
  refine wpAny_pure ?_
  have I4 : Inv X pins σ H3 { s3 with heap := s3.heap.push { cls := .type "slice", data := .fields #[vl, vu, .none] } } := I3.kept (t' := s3.toks) fun b ob q => Heap.get?_push_of_some _ q
  obtain ⟨T, id, hT, ht, hg⟩ := hr pins { s3 with heap := s3.heap.push { cls := .type "slice", data := .fields #[vl, vu, .none] } } σ H3 x v vl vu l u s3.heap.objs.size Q I4 r1 (Heap.IsSliceOf.new ..) pl pu q3
  show wpAny (model X.prog X.w) X.A (subscriptTail e (.Slice lo hi none p2) v (.ref s3.heap.objs.size)) (EP X pins σ Q) X.xe { s3 with heap := s3.heap.push { cls := .type "slice", data := .fields #[vl, vu, .none] } }
  exact tail_any (ops := [.ref s3.heap.objs.size, v]) ht hT hg (by with_unfolding_all rfl)

/-- the items of xs[lo:hi] -/
def cutV (xs : List V) (lo hi : Option Int) : List V := (xs.drop (HT.sIx xs.length 0 lo)).take (HT.sIx xs.length xs.length hi - HT.sIx xs.length 0 lo)
theorem cutV_length (xs : List V) (lo hi : Option Int) : (cutV xs lo hi).length ≤ xs.length := by
  unfold cutV
  rw [List.length_take, List.length_drop]
  omega
end
end L2

namespace L2
open PySem PySem.Spec PyProof.Rows

/-- the place that an index of any sign means -/
def ixN (n : Nat) (i : Int) : Option Nat := if 0 ≤ i then (if i < n then some i.toNat else none) else if -(n : Int) ≤ i then some (i + n).toNat else none
def atI {α : Type} (xs : List α) (i : Int) : Option α := (ixN xs.length i).bind fun j => xs[j]?
theorem ixN_seq {n : Nat} {i : Int} {j : Nat} (h : ixN n i = some j) : seqIndex? i n = some j ∧ j < n ∧ -(n : Int) ≤ i ∧ i < n := by
  unfold ixN at h
  by_cases h0 : 0 ≤ i
  · rw [if_pos h0] at h
    by_cases h1 : i < n
    · rw [if_pos h1] at h
      have e : i.toNat = j := Option.some.inj h
      exact ⟨by rw [seqIndex_of h0 h1, e], by omega, by omega, h1⟩
    · rw [if_neg h1] at h; cases h
  · rw [if_neg h0] at h
    by_cases h1 : -(n : Int) ≤ i
    · rw [if_pos h1] at h
      have e : (i + n).toNat = j := Option.some.inj h
      exact ⟨by rw [seqIndex_neg (by omega) h1, e], by omega, h1, by omega⟩
    · rw [if_neg h1] at h; cases h
theorem atI_get {α : Type} {xs : List α} {i : Int} {v : α} (h : atI xs i = some v) : ∃ j, seqIndex? i xs.length = some j ∧ xs[j]? = some v ∧ j < xs.length ∧ -(xs.length : Int) ≤ i ∧ i < xs.length := by
  unfold atI at h
  cases e : ixN xs.length i with
  | none => rw [e] at h; cases h
  | some j =>
    rw [e] at h
    obtain ⟨h1, h2, h3, h4⟩ := ixN_seq e
    exact ⟨j, h1, h, h2, h3, h4⟩
theorem atI_nat {α : Type} {xs : List α} {j : Nat} {v : α} (h : xs[j]? = some v) : atI xs (j : Int) = some v := by
  have hj : j < xs.length := (List.getElem?_eq_some_iff.mp h).1
  have e : ixN xs.length (j : Int) = some j := by
    unfold ixN
    rw [if_pos (by omega), if_pos (by omega)]; simp
  unfold atI; rw [e]; exact h
/-- what stands as an index of a plain subscript -/
def PlainIx (b : Expr) : Prop := ∀ o i, subscripted b false o i = operate [o, i] (getItem o i)
/-- a subscript by values -/
def IxR (X : Cx) (r : R2) : Prop :=
  ∀ (value slice : Expr) (pins : List (Addr × Obj)) (s : Shared) (σ : St) (H : Hp) (x y : V) (v u : Value) (Q : VK), Inv X pins σ H s → RelV x v → RelV y u → r x y H Q →
    subscripted slice false v u = operate [v, u] (getItem v u) → wpAny (model X.prog X.w) X.A (subscriptTail value slice v u) (EP X pins σ Q) X.xe s
/-- a call of a builtin's method by values: the receiver, the arguments -/
def MtR (X : Cx) (id : String) (r : V → List V → Hp → VK → Prop) : Prop :=
  ∀ (pins : List (Addr × Obj)) (s : Shared) (σ : St) (H : Hp) (x : V) (xs : List V) (v : Value) (us : List Value) (Q : VK), Inv X pins σ H s → RelV x v → Vals xs us → r x xs H Q →
    wpAny (model X.prog X.w) X.A (call (.builtin id) (v :: us)) (EP X pins σ Q) X.xe s
section
variable {X : Cx} {a b : Expr} {ta tb : TE} {pos : Pos}
/-- a[b] -/
theorem pe_ix {r : R2} (hr : IxR X r) (ha : PE X a ta) (hb : PE X b tb) (hs : PlainIx b) : PE X (.Subscript a b pos) (tOp r ta tb) := by
  intro pins s σ H Q I h
  exact Subscript_ (binT ha hb I h fun v u s2 x y H2 I2 rx ry q => hr a b pins s2 σ H2 x y v u Q I2 rx ry q (hs _ _))

def rIxL (K : PySem.W.Frag) : R2 := fun x y H Q => ∃ p xs i v, x = .ref p ∧ y = .int i ∧ SqL K H p xs ∧ atI xs i = some v ∧ Q v H
def rIxT (K : PySem.W.Frag) : R2 := fun x y H Q => ∃ p xs i v, x = .ref p ∧ y = .int i ∧ SqT K H p xs ∧ atI xs i = some v ∧ Q v H
theorem ix_list : IxR X (rIxL X.K) := by
  intro value slice pins s σ H x y v u Q I rx ry h hs
  obtain ⟨p, xs, i, z, rfl, rfl, hq, he, q⟩ := h
  cases rx
  obtain ⟨t, rfl⟩ := ry
  obtain ⟨its, r, pl, hz⟩ := I.list hq
  obtain ⟨j, h1, h2, h3, h4, h5⟩ := atI_get he
  obtain ⟨w, ew, rw'⟩ := r.get h2
  have hl := r.length
  have hn := line63
  have fin : EP X pins σ Q w s := ⟨z, H, I, rw', q⟩
  by_cases h0 : 0 ≤ i
  · have hj : i.toNat = j := by
      rw [seqIndex_of h0 h5] at h1
      exact Option.some.inj h1
    exact item_listR pl.isList h0 (by omega) (by rw [hj]; simpa using ew) fin hs
  · have hj : (i + (its.toArray.size : Int)).toNat = j := by
      rw [seqIndex_neg (by omega) h4] at h1
      rw [List.size_toArray, ← hl]
      exact Option.some.inj h1
    exact subscriptTail_builtinR (x := w) pl.isList.typeIs slot_list_getitem.lookup
      (wpAny_getItem_list_neg (Q := fun r s' => r = w ∧ EP X pins σ Q r s') pl.isList (by omega) (by rw [List.size_toArray] <;> omega) (by omega) (by rw [hj]; simpa using ew) ⟨rfl, fin⟩) hs
theorem ix_tup : IxR X (rIxT X.K) := by
  intro value slice pins s σ H x y v u Q I rx ry h hs
  obtain ⟨p, xs, i, z, rfl, rfl, hq, he, q⟩ := h
  cases rx
  obtain ⟨t, rfl⟩ := ry
  obtain ⟨its, r, pl, hz⟩ := I.tuple hq
  obtain ⟨j, h1, h2, h3, h4, h5⟩ := atI_get he
  obtain ⟨w, ew, rw'⟩ := r.get h2
  have hl := r.length
  have hn := line63
  have fin : EP X pins σ Q w s := ⟨z, H, I, rw', q⟩
  exact subscriptTail_builtinR (x := w) pl.typeIs slot_tuple_getitem.lookup
    (getItem_tuple (j := j) (Q := fun r s' => r = w ∧ EP X pins σ Q r s') pl (by omega) (by omega) (by rw [List.size_toArray, ← hl]; exact h1) (by simpa using ew) ⟨rfl, fin⟩) hs
/-- the list's object behind a store -/
theorem mapSeq_set (its : List Value) (n j : Nat) (u : Value) : Obj.mapSeq (·.setIfInBounds j u) { cls := .type "list", data := .seq its.toArray n } = { cls := .type "list", data := .seq (its.set j u).toArray n } := by
  simp [Obj.mapSeq]
theorem Inv.lst {pins : List (Addr × Obj)} {σ : St} {H : Hp} {s : Shared} {p : Addr} {xs : List V} (I : Inv X pins σ H s) (h : H p = some (.lst xs)) :
    ∃ (its : List Value) (n : Nat), Vals xs its ∧ s.heap.get? p = some { cls := .type "list", data := .seq its.toArray n } ∧ xs.length ≤ sizeLine := by
  obtain ⟨z, its, n, r, e⟩ := I.hok p _ h
  exact ⟨its, n, r, e, z⟩
/-- the list at p is written by an update of its object -/
theorem Inv.lstUpd {pins : List (Addr × Obj)} {σ : St} {H : Hp} {s : Shared} {p : Addr} {xs ys : List V} {its its' : List Value} {n n' : Nat} {f : Obj → Obj} (I : Inv X pins σ H s) (h : H p = some (.lst xs))
    (ho : s.heap.get? p = some { cls := .type "list", data := .seq its.toArray n }) (hf : f { cls := .type "list", data := .seq its.toArray n } = { cls := .type "list", data := .seq its'.toArray n' }) (r : Vals ys its') (hz : ys.length ≤ sizeLine) (t : Nat) :
    Inv X pins σ (upd H p (.lst ys)) { s with heap := s.heap.update p f, toks := t } := by
  have e : (s.heap.update p f).get? p = some { cls := .type "list", data := .seq its'.toArray n' } := by
    rw [Heap.get?_update_self f ho (by rw [hf] <;> rfl), hf]
  refine I.write (x := p) (e := p) (by rw [h]; trivial) (.inl rfl) (fun b u hb q => (Heap.get?_update_other _ _ (Ne.symm hb)).trans q) ⟨_, e⟩ ?_
  exact ⟨hz, its', n', r, e⟩
def rSetL : V → V → V → Hp → (Hp → Prop) → Prop := fun o i v H Q => ∃ p xs k j, o = .ref p ∧ i = .int k ∧ H p = some (.lst xs) ∧ ixN xs.length k = some j ∧ Q (upd H p (.lst (xs.set j v)))
theorem set_list : PSet X rSetL := by
  intro pins s σ H o i v ov iv u Q I ro ri rv h
  obtain ⟨p, xs, k, j, rfl, rfl, hp, hj, q⟩ := h
  cases ro
  obtain ⟨t, rfl⟩ := ri
  obtain ⟨its, n, r, ho, hz⟩ := I.lst hp
  obtain ⟨h1, h2, h3, h4⟩ := ixN_seq hj
  have hl := r.length
  have hn := line63
  have I' : Inv X pins σ (upd H p (.lst (xs.set j v))) { s with heap := s.heap.update p (Obj.mapSeq (·.setIfInBounds j u)) } :=
    I.lstUpd hp ho (mapSeq_set its n j u) (r.set rv j) (by rw [List.length_set]; exact hz) s.toks
  by_cases h0 : 0 ≤ k
  · have hk : k.toNat = j := by
      rw [seqIndex_of h0 h4] at h1
      exact Option.some.inj h1
    exact PySem.W.ki_setAt ho h0 (by omega) (by rw [List.size_toArray, ← hl]; exact h4) (by rw [hk]; exact ⟨_, I', q⟩)
  · have hk : (k + (its.toArray.size : Int)).toNat = j := by
      rw [seqIndex_neg (by omega) h3] at h1
      rw [List.size_toArray, ← hl]
      exact Option.some.inj h1
    exact PySem.W.ki_setBack ho (by omega) (by rw [List.size_toArray, ← hl]; exact h3) (by omega) (by rw [hk]; exact ⟨_, I', q⟩)

theorem slice_bounds (lo hi : Option Int) (n : Nat) : (sliceBounds lo hi none n).1 = ((HT.sIx n 0 lo : Nat) : Int) ∧ (sliceBounds lo hi none n).2.1 = ((HT.sIx n n hi : Nat) : Int) ∧ (sliceBounds lo hi none n).2.2 = 1 := by
  refine ⟨?_, ?_, rfl⟩
  · cases lo with
    | none => simp [sliceBounds, HT.sIx]
    | some i =>
      simp only [sliceBounds, HT.sIx, Option.getD_none, show (1 : Int) > 0 by decide, if_true]
      by_cases h : i < 0
      · simp only [h, if_true] <;> omega
      · simp only [h, if_false] <;> omega
  · cases hi with
    | none => simp [sliceBounds, HT.sIx]
    | some i =>
      simp only [sliceBounds, HT.sIx, Option.getD_none, show (1 : Int) > 0 by decide, if_true]
      by_cases h : i < 0
      · simp only [h, if_true] <;> omega
      · simp only [h, if_false] <;> omega
theorem slicePick_cut (its : List Value) (lo hi : Option Int) : slicePick its.toArray lo hi none = ((its.drop (HT.sIx its.length 0 lo)).take (HT.sIx its.length its.length hi - HT.sIx its.length 0 lo)).toArray := by
  obtain ⟨h1, h2, h3⟩ := slice_bounds lo hi its.toArray.size
  unfold slicePick
  rw [h1, h2, h3]
  simp only [sliceRange_one, pick_run, List.size_toArray] <;> rfl
/-- xs[lo:hi] of a list: a new list -/
def rSlL (K : PySem.W.Frag) : V → Option Int → Option Int → Hp → VK → Prop := fun x lo hi H Q => ∃ a xs, x = .ref a ∧ SqL K H a xs ∧ ∀ p, H p = none → Q (.ref p) (upd H p (.lst (cutV xs lo hi)))
theorem sl_list : SlR X (rSlL X.K) := by
  intro pins s σ H x v vl vu lo hi sl Q I rx hs pl pu h
  obtain ⟨a, xs, rfl, hx, q⟩ := h
  cases rx
  obtain ⟨its, r, ht, hz⟩ := I.list hx
  have hlen := r.length
  refine ⟨"list", _, slot_list_getitem.lookup, ht.isList.typeIs, ?_⟩
  refine wpAny_getItem_list_slice ht.isList hs pl pu .none (by simp) ?_ (by rw [List.size_toArray] <;> omega)
  rw [slicePick_cut, ← hlen]
  refine ⟨.ref s.heap.objs.size, _, I.laid (t' := s.toks) (o := .lst (cutV xs lo hi)) (fun b ob q => Heap.get?_push_of_some _ q) (Nat.le_refl _) ?_, rfl, q _ (I.hok.fresh (Nat.le_refl _))⟩
  exact ⟨Nat.le_trans (cutV_length xs lo hi) hz, _, 0, (r.drop (HT.sIx xs.length 0 lo)).take (HT.sIx xs.length xs.length hi - HT.sIx xs.length 0 lo), Heap.get?_push_size _ rfl⟩

theorem call_len_seq : CallR X (.builtin "len") (fun xs H Q => ∃ p ys, xs = [.ref p] ∧ (SqL X.K H p ys ∨ SqT X.K H p ys) ∧ Q (.int ys.length) H) := by
  intro pins s σ H xs us Q I r h
  obtain ⟨p, ys, rfl, hq, q⟩ := h
  obtain ⟨u, rfl, rx⟩ := vals1 r
  cases rx
  have hn := line63
  rcases hq with hq | hq
  · obtain ⟨its, r', pl, hz⟩ := I.list hq
    have hlen := r'.length
    exact Calls.call_len_list pl.isList (by simp only [List.size_toArray] <;> omega) ⟨.int ys.length, H, I.tok _, ⟨s.toks + 1, by rw [List.size_toArray, hlen]⟩, q⟩
  · obtain ⟨its, r', pl, hz⟩ := I.tuple hq
    have hlen := r'.length
    exact len_tuple pl (by simp only [List.size_toArray] <;> omega) ⟨.int ys.length, H, I.tok _, ⟨s.toks + 1, by rw [List.size_toArray, hlen]⟩, q⟩
theorem call_list_of : CallR X (.type "list") (fun xs H Q => ∃ p ys, xs = [.ref p] ∧ (SqL X.K H p ys ∨ SqT X.K H p ys) ∧ ∀ l, H l = none → Q (.ref l) (upd H l (.lst ys))) := by
  intro pins s σ H xs us Q I r h
  obtain ⟨p, ys, rfl, hq, q⟩ := h
  obtain ⟨u, rfl, rx⟩ := vals1 r
  cases rx
  have fin : ∀ (its : List Value), Vals ys its → ys.length ≤ sizeLine → ∀ (h' : Heap) (c' : Nat), (∀ b o', s.heap.get? b = some o' → h'.get? b = some o') →
      h'.get? s.heap.objs.size = some { cls := .type "list", dict := none, data := .seq its.toArray c', slots := #[] } → EP X pins σ Q (.ref s.heap.objs.size) { s with heap := h' } := fun its r' hz h' c' kp e =>
    ⟨.ref s.heap.objs.size, _, I.laid (t' := s.toks) kp (Nat.le_refl _) (show ObjOk X.prog X.w _ h' _ (.lst ys) from ⟨hz, its, c', r', e⟩), rfl, q _ (I.hok.fresh (Nat.le_refl _))⟩
  rcases hq with hq | hq
  · obtain ⟨its, r', pl, hz⟩ := I.list hq
    have hlen := r'.length
    obtain ⟨o, ho, hc, n, hd⟩ := pl.isList
    exact call_list_seq p (.inl rfl) ho hc hd (fun h' c' kp e => fin its r' hz h' c' kp e) (by simp only [List.size_toArray] <;> omega)
  · obtain ⟨its, r', pl, hz⟩ := I.tuple hq
    have hlen := r'.length
    obtain ⟨o, ho, hc, n, hd⟩ := pl
    exact call_list_seq p (.inr rfl) ho hc hd (fun h' c' kp e => fin its r' hz h' c' kp e) (by simp only [List.size_toArray] <;> omega)
/-- the value is of that builtin type -/
def tyV (K : PySem.W.Frag) (T : String) (x : V) (H : Hp) : Prop := match x with
  | .str _ => T = "str"
  | .int _ => T = "int"
  | .ref p => (T = "list" ∧ ∃ xs, SqL K H p xs) ∨ (T = "tuple" ∧ ∃ o, K.lookup p = some o ∧ o.cls = .type "tuple" ∧ o.dict = none) ∨
      (T = "dict" ∧ ((∃ kvs, H p = some (.dK kvs)) ∨ ∃ kvs, H p = some (.dT kvs))) ∨ (T = "set" ∧ ∃ S n, H p = some (.set S n))
  | _ => False
theorem tyV_is {pins : List (Addr × Obj)} {σ : St} {H : Hp} {s : Shared} {T : String} {x : V} {v : Value} (I : Inv X pins σ H s) (r : RelV x v) (ty : tyV X.K T x H) :
    s.TypeIs v T ∧ ∀ a, v = .ref a → ∃ ob, s.heap.get? a = some ob ∧ ob.dict = none := by
  cases x with
  | str z =>
    obtain ⟨t, rfl⟩ := r
    cases (show T = "str" from ty)
    exact ⟨typeIs_str s z t, fun _ e => nomatch e⟩
  | int i =>
    obtain ⟨t, rfl⟩ := r
    cases (show T = "int" from ty)
    exact ⟨typeIs_int s i t, fun _ e => nomatch e⟩
  | ref p =>
    cases r
    rcases ty with ⟨rfl, xs, hq⟩ | ⟨rfl, o, hk, hc, hd⟩ | ⟨rfl, hk⟩ | ⟨rfl, S, n, hk⟩
    · obtain ⟨its, _, pl, _⟩ := I.list hq
      refine ⟨pl.isList.typeIs, fun a e => ?_⟩
      cases e
      obtain ⟨o, n, e, c, hd, _⟩ := pl
      exact ⟨o, e, hd⟩
    · refine ⟨⟨o, I.kIn p o hk, hc⟩, fun a e => ?_⟩
      cases e
      exact ⟨o, I.kIn _ o hk, hd⟩
    · have z : ∃ o, s.heap.get? p = some o ∧ o.ExactDict := by
        rcases hk with ⟨kvs, hk⟩ | ⟨kvs, hk⟩
        · obtain ⟨_, _, _, _, o, _, _, e, ex, _⟩ := I.hok p _ hk
          exact ⟨o, e, ex⟩
        · obtain ⟨_, _, _, _, o, _, _, e, ex, _⟩ := I.hok p _ hk
          exact ⟨o, e, ex⟩
      obtain ⟨o, e, ex⟩ := z
      refine ⟨⟨o, e, ex.1⟩, fun a e2 => ?_⟩
      cases e2
      exact ⟨o, e, ex.2.1⟩
    · obtain ⟨o, _, _, _, e, ex, _⟩ := I.hok p _ hk
      refine ⟨⟨o, e, ex.1⟩, fun a e2 => ?_⟩
      cases e2
      exact ⟨o, e, ex.2.1⟩
  | _ => exact False.elim ty
def tBM0 (K : PySem.W.Frag) (T : String) (r : V → List V → Hp → VK → Prop) (to : TE) : TE := fun σ H Q => to σ H fun x H1 => tyV K T x H1 ∧ r x [] H1 Q
def tBM (K : PySem.W.Frag) (T : String) (r : V → List V → Hp → VK → Prop) (to : TE) (t : TA) : TE := fun σ H Q => to σ H fun x H1 => tyV K T x H1 ∧ t σ H1 fun xs H2 => r x xs H2 Q
variable {o e : Expr} {es : List Expr} {to : TE} {t : TA} {name : Str} {apos cpos : Pos} {T id : String} {r : V → List V → Hp → VK → Prop}
theorem pe_bm (pa : PlainAttrs T) (slot : Slot T name id) (hty : typeOf (.builtin id) = pure (.type "method_descriptor")) (hm : MtR X id r) (ho : PE X o to) (ha : PA X (e :: es) t)
    (hbase : attributeBase o name X.env (eval o X.env) = eval o X.env := by rfl)
    (hfew : ((backTo cpos (starEach (e :: es) X.env)).all (fun x => !x.1) && (backToKw cpos (keywordEach [] X.env)).all (fun x => x.1.isSome)
      && decide ((e :: es).length + ([] : List Keyword).length + (if ([] : List Keyword).isEmpty then 0 else 1) < 30)) = true := by rfl)
    (hline : (apos.endLine == cpos.line) = true := by rfl) (hs : starEach (e :: es) X.env = (false, eval e X.env) :: starEach es X.env := by rfl) (hplain : (backTo cpos (starEach es X.env)).any (·.1) = false := by rfl) :
    PE X (.Call (.Attribute o name apos) (e :: es) [] cpos) (tBM X.K T r to t) := by
  intro pins s σ H Q I h
  refine wpAny_Call_method_late hbase hfew hline rfl (thn (ho pins s σ H _ I h) fun v s1 ⟨x, H1, I1, r1, ty, q1⟩ => ?_)
  obtain ⟨h1, h2⟩ := tyV_is I1 r1 ty
  refine ⟨T, id, pa, slot, hty, h1, h2, ?_⟩
  have hA := ha cpos pins s1 σ H1 _ I1 q1
  rw [hs] at hA ⊢
  refine Calls.callWith_builtin (by show (false || (backTo cpos (starEach es X.env)).any (·.1)) = false; rw [hplain] <;> rfl) (Calls.evalArgs_plain ?_)
  exact thn hA fun us s2 ⟨vs, H2, I2, r2, q2⟩ => hm pins s2 σ H2 x vs v us Q I2 r1 r2 q2
/- xs.append(e), list.index on a module's tuple .. are MtR facts of 06m -/
end
end L2

namespace L2
open PySem PySem.Spec PyProof.Rows

def MtM (X : Cx) (id : String) (r : V → List V → Hp → VK → Prop) : Prop :=
  ∀ (pins : List (Addr × Obj)) (s : Shared) (σ : St) (H : Hp) (x : V) (xs : List V) (v : Value) (us : List Value) (Q : VK), Inv X pins σ H s → RelV x v → Vals xs us → r x xs H Q →
    wpAny (model X.prog X.w) X.A (call (.builtin id) (v :: us)) (EP X pins σ Q) X.xe s

theorem Vals.one : ∀ {x : V} {us : List Value}, Vals [x] us → ∃ u, us = [u] ∧ RelV x u
  | _, _, .cons r .nil => ⟨_, rfl, r⟩
theorem Vals.two : ∀ {x y : V} {us : List Value}, Vals [x, y] us → ∃ u v, us = [u, v] ∧ RelV x u ∧ RelV y v
  | _, _, _, .cons r (.cons q .nil) => ⟨_, _, rfl, r, q⟩
theorem Vals.rep {xs : List V} {us : List Value} (h : Vals xs us) : ∀ k : Nat, Vals (List.replicate k xs).flatten (List.replicate k us).flatten
  | 0 => .nil
  | k + 1 => by
    rw [List.replicate_succ, List.replicate_succ, List.flatten_cons, List.flatten_cons]
    exact Vals.append h (Vals.rep h k)
theorem foldl_rep (its : List Value) : ∀ (k : Nat) (acc : List Value),
    List.foldl (fun x1 x2 => x1 ++ x2) acc.toArray (List.replicate k its.toArray) = (acc ++ (List.replicate k its).flatten).toArray
  | 0, acc => by simp
  | k + 1, acc => by
    have e : acc.toArray ++ its.toArray = (acc ++ its).toArray := by simp
    have e2 : (acc ++ its) ++ (List.replicate k its).flatten = acc ++ (List.replicate (k + 1) its).flatten := by
      rw [List.replicate_succ, List.flatten_cons, List.append_assoc]
    rw [← e2, ← foldl_rep its k (acc ++ its), ← e, List.replicate_succ, List.foldl_cons]

section
variable {X : Cx} {pins : List (Addr × Obj)} {σ : St} {H : Hp} {s : Shared} {l b : Addr} {xs ys zs : List V}

theorem Inv.lset {its its' : List Value} {n : Nat} {f : Array Value → Array Value} {t' : Nat} (I : Inv X pins σ H s) (hH : H l = some (.lst xs))
    (e : s.heap.get? l = some { cls := .type "list", data := .seq its.toArray n }) (hf : f its.toArray = its'.toArray) (hv : Vals ys its') (hz : ys.length ≤ sizeLine) :
    Inv X pins σ (upd H l (.lst ys)) { s with heap := s.heap.update l (Obj.mapSeq f), toks := t' } := by
  have q := PySem.IsL.update e f
  rw [hf] at q
  refine I.write (x := l) (e := l) (by rw [hH]; exact trivial) (.inl rfl) (fun b' u hb hu => (Heap.get?_update_other s.heap (Obj.mapSeq f) (Ne.symm hb)).trans hu) ⟨_, q⟩ ?_
  exact ⟨hz, its', _, hv, q⟩
theorem Inv.lnew {its : List Value} {t' : Nat} (I : Inv X pins σ H s) (hv : Vals ys its) (hz : ys.length ≤ sizeLine) :
    Inv X pins σ (upd H s.heap.objs.size (.lst ys)) { s with heap := s.heap.push { cls := .type "list", data := .seq its.toArray }, toks := t' } :=
  I.laid (fun _ _ q => Heap.get?_push_of_some _ q) (Nat.le_refl _) ⟨hz, its, 0, hv, Heap.get?_push_size _ rfl⟩
theorem Inv.fresh (I : Inv X pins σ H s) : H s.heap.objs.size = none := I.hok.fresh (Nat.le_refl _)
theorem Inv.lstM (I : Inv X pins σ H s) (hH : H l = some (.lst xs)) : xs.length ≤ sizeLine ∧ ∃ (its : List Value) (n : Nat), Vals xs its ∧ xs.length = its.length ∧ s.heap.get? l = some { cls := .type "list", data := .seq its.toArray n } := by
  obtain ⟨z, its, n, r, e⟩ := I.hok l _ hH
  exact ⟨z, its, n, r, r.length, e⟩

theorem notLongL {n : Nat} (h : n ≤ sizeLine) : Builtin.List.listTooLong n = false := by
  unfold Builtin.List.listTooLong
  exact decide_eq_false (by omega)
end

section
variable {X : Cx}

def rAppend : V → List V → Hp → VK → Prop := fun x vs H Q => ∃ l xs y, x = .ref l ∧ vs = [y] ∧ H l = some (.lst xs) ∧ xs.length < sizeLine ∧ Q .non (upd H l (.lst (xs ++ [y])))
theorem mt_append : MtM X "list.append" rAppend := by
  intro pins s σ H x vs v us Q I rx rv h
  obtain ⟨l, xs, y, rfl, rfl, hH, hz, q⟩ := h
  cases rx
  obtain ⟨u, rfl, ru⟩ := rv.one
  obtain ⟨z, its, n, r, hl, e⟩ := I.lstM hH
  refine call_meets F.slot_list_append ⟨_, e, rfl⟩ F.entry_list_append (F.args_list_append_2 _ _) (PySem.list_append l its.toArray n u (by rw [List.size_toArray]; omega)) ⟨e, ?_⟩
  refine ⟨.non, _, I.lset (its' := its ++ [u]) hH e (by simp) (r.append (.cons ru .nil)) ?_, rfl, q⟩
  rw [List.length_append, List.length_singleton]
  omega

def rCat : R2 := fun x y H Q => ∃ l b xs zs, x = .ref l ∧ y = .ref b ∧ H l = some (.lst xs) ∧ H b = some (.lst zs) ∧ xs.length + zs.length ≤ sizeLine ∧ ∀ p, H p = none → Q (.ref p) (upd H p (.lst (xs ++ zs)))
theorem op_cat : OpR X (binaryOp .Add) rCat := by
  intro pins s σ H x y v u Q I rx ry h
  obtain ⟨l, b, xs, zs, rfl, rfl, hH, hB, hz, q⟩ := h
  cases rx
  cases ry
  obtain ⟨z, its, n, r, hl, e⟩ := I.lstM hH
  obtain ⟨z2, its2, n2, r2, hl2, e2⟩ := I.lstM hB
  refine PySem.P.add_list e e2 ?_ (by rw [List.size_toArray, List.size_toArray]; omega)
  have ea : its.toArray ++ its2.toArray = (its ++ its2).toArray := by simp
  rw [ea]
  exact ⟨.ref _, _, I.lnew (t' := s.toks) (r.append r2) (by rw [List.length_append]; omega), rfl, q _ I.fresh⟩
/-- a list times an int (a negative one is nothing) -/
def rRep : R2 := fun x y H Q => ∃ l k xs, x = .ref l ∧ y = .int k ∧ H l = some (.lst xs) ∧ -(2 ^ 63) ≤ k ∧ k < 2 ^ 63 ∧ xs.length * k.toNat ≤ sizeLine ∧
  ∀ p, H p = none → Q (.ref p) (upd H p (.lst (List.replicate k.toNat xs).flatten))
theorem len_rep {α : Type} (xs : List α) (k : Nat) : (List.replicate k xs).flatten.length = k * xs.length := by
  induction k with
  | zero => simp
  | succ k ih => rw [List.replicate_succ, List.flatten_cons, List.length_append, ih, Nat.succ_mul, Nat.add_comm]
theorem op_rep : OpR X (binaryOp .Mult) rRep := by
  intro pins s σ H x y v u Q I rx ry h
  obtain ⟨l, k, xs, rfl, rfl, hH, h1, h2, hz, q⟩ := h
  cases rx
  obtain ⟨t, rfl⟩ := ry
  obtain ⟨z, its, n, r, hl, e⟩ := I.lstM hH
  have hlen : its.toArray.size * k.toNat ≤ sizeLine := by rw [List.size_toArray, ← hl]; exact hz
  have hcap : ¬ its.toArray.size * k.toNat > (2 ^ 63 - 1) / 8 := by
    have : (sizeLine : Nat) ≤ (2 ^ 63 - 1) / 8 := by decide
    omega
  have hfit : ¬ (!Builtin.List.listFitsIndex k) = true := by
    rw [fitsIndex_both h1 h2]
    exact Bool.false_ne_true
  have hlong : ¬ Builtin.List.listTooLong (its.toArray.size * k.toNat) = true := by
    rw [notLongL hlen]
    exact Bool.false_ne_true
  have hnew : List.foldl (fun x1 x2 => x1 ++ x2) #[] (List.replicate (if its.toArray.isEmpty = true then 0 else k.toNat) its.toArray) = (List.replicate k.toNat its).flatten.toArray := by
    have f0 : ∀ m : Nat, List.foldl (fun x1 x2 => x1 ++ x2) #[] (List.replicate m its.toArray) = (List.replicate m its).flatten.toArray := fun m => by
      have := foldl_rep its m []
      rw [List.nil_append] at this
      exact this
    rw [f0]
    cases its with
    | nil => simp
    | cons a r' => rw [if_neg (by simp)]
  refine wpAny_binaryOp_repeat_ref (T := "list") (U := "int") (by decide) ⟨_, e, rfl⟩ (fun s' => typeIs_int s' k t) noFill_list_mul F.fills_int_mul F.slot_int_rmul repeat_list F.slot_int_index.lookup
    (call_meets F.slot_int_rmul (typeIs_int s k t) F.entry_int_rmul (F.args_int_rmul_2 _ _) (int___rmul___int_list k t l its.toArray n)
      ⟨e, rfl, ⟨_, e, rfl⟩, call_meets F.slot_list_mul ⟨_, e, rfl⟩ F.entry_list_mul (F.args_list_mul_2 _ _) (AutoListH.list___mul___list_int_3 l its.toArray n k t hfit hcap hlong) ⟨e, ?_⟩⟩)
  rw [hnew]
  exact ⟨.ref _, _, I.lnew (t' := s.toks) (r.rep k.toNat) (by rw [len_rep, Nat.mul_comm]; exact hz), rfl, q _ I.fresh⟩

end

section
variable {prog : Program} {w : World} {A : Around} {E : Value → Shared → Prop} {s : Shared}
set_option maxRecDepth 100000 in
end

section
variable {X : Cx}
end
end L2

namespace Att
open PySem PySem.W PySem.Calls PyProof.Rows

theorem ints_of_wellAll {P : Params} {h : Heap} : ∀ (ns : List Int) (vs : List Value), WellAll P h vs (ns.map WData.int) → IntsAre vs ns := by
  intro ns
  induction ns with
  | nil =>
    intro vs w
    rw [List.map_nil] at w
    cases w
    exact .nil
  | cons n ns ih =>
    intro vs w
    rw [List.map_cons] at w
    cases w with
    | cons a b =>
      cases a
      exact .cons _ _ (ih _ b)

theorem script_of {l : OpenLaw} {n : Nat} (hn : l.most = some n) {P : Params} {h : Heap} {args : List WData} {vals : List Value}
    (hpre : l.row.toRowW.claim.pre args = true) (hwl : WellAll P h vals args) :
    ∃ a vs ns, vals = [Value.ref a] ∧ args = [WData.list (ns.map WData.int)] ∧ h.get? a = some { cls := .type "list", data := .seq vs.toArray } ∧ IntsAre vs ns ∧ ns.length ≤ n := by
  have hsh : WShape.hasAll [] args [.list .int] = true := (pre_splitW hpre).1
  have hc : l.pre.holds [] { args := args } = true := (pre_splitW hpre).2
  obtain ⟨d, r, rfl, h1, h2⟩ := hasAllW_cons hsh
  obtain rfl := hasAllW_nil h2
  obtain ⟨xs, rfl, h3⟩ := hasW_list h1
  obtain ⟨ns, rfl⟩ := items_int h3
  have hlen : ns.length ≤ n := by
    unfold OpenLaw.pre at hc
    have h4 : (WTm.not (.lt (.lit (.int (n : Int))) (.len (.arg 0)))).holds [] { args := [.list (ns.map .int)] } = true := by
      have h4 := (holds_andW hc).1
      rw [hn] at h4
      exact h4
    have h5 := condW_of h4 (w_not (w_lt w_lit (w_len_list (w_arg rfl))))
    rw [List.length_map] at h5
    refine Nat.le_of_not_lt fun q => ?_
    have q' : (n : Int) < ((ns.length : Nat) : Int) := by omega
    first
      | (rw [decide_eq_true q'] at h5; exact absurd h5 (by decide))
      | (simp at h5; omega)
  cases hwl with
  | cons w1 w2 =>
    cases w2
    cases w1 with
    | list ho hall => exact ⟨_, _, ns, rfl, rfl, ho, ints_of_wellAll ns _ hall, hlen⟩

theorem post_true (l : OpenLaw) (args : List WData) : l.row.toRowW.claim.post args (.bool true) args = true :=
  postW_of (r := l.row.toRowW) (X := (true == true))
    (show WShape.has [] (.bool true) .bool = true by first | rfl | decide | simp [WShape.has, WShape.arms, WShape.armsAll])
    (show (WTm.eq .res (.lit (.bool true))).value [] { args := args, res := some (.bool true), after := args } = some (.bool (true == true)) from w_eq_bool (w_res rfl) w_lit) rfl

/-- the same from a codeAny of the CALL (for a layer whose function contracts speak of calls) -/
theorem attach_call {l : OpenLaw} {n : Nat} {q : Program} {loose : List Str} {XP : (Str → Option Value) → Heap → Prop} {YP : World → Heap → Prop} {d : DefRec}
    (hn : l.most = some n) (hdf : d.params.defaults = [])
    (call : ∀ (w : World) (s₀ s₁ : Shared) (mg mb : Str → Option Value) (fa : Addr) (o : Obj) (pm cd doc : Value) (a : Addr) (vs : List Value) (ns : List Int),
      Ground q loose [] XP w s₀ mg mb s₁.heap → YP w s₁.heap →
      s₁.heap.get? fa = some o → o.data = .func (docDef d.name d.params d.body d.scope pm cd doc) → s₁.heap.CodeRec cd d.name → mg d.name = some (.ref fa) →
      s₁.heap.get? a = some { cls := .type "list", data := .seq vs.toArray } → IntsAre vs ns → ns.length ≤ n → s₁.gens = #[] →
      codeAny (model l.prog w) callerA (.call (.ref fa) ⟨[.ref a], []⟩) (fun r s' => r = .ok (.ret (.bool true)) ∧ OldK s₁.heap s'.heap ∧ s'.os = s₁.os ∧ AllBare s'.gens) s₁) :
    WalkO q loose XP YP l.row.toRowW d [] (fun f vs => PySem.call f vs) := by
  intro w s₀ s₁ mg mb G Y fa o pm cd doc dV kV ho hd hcd hD hmg hg args vals as hpre hlay hrd hwl hlo
  obtain rfl : dV = .none := Dflts.none hD hdf
  obtain rfl : kV = .none := Dflts.noKw hD
  obtain ⟨a, vs, ns, rfl, rfl, hobj, hints, hlen⟩ := script_of hn hpre hwl
  refine enter_call (codeAny_mono (call w s₀ s₁ mg mb fa o pm cd doc a vs ns G Y ho (fd_plain hd) hcd hmg hobj hints hlen hg) fun r s' hq => ?_)
  obtain ⟨rfl, h2, h3, h4⟩ := hq
  exact ⟨.inl ⟨.bool true, .bool true, [], rfl, fun _ => rfl, .bool true, post_true l _, fun _ => ⟨List.Pairwise.nil, fun _ hm => (nomatch hm)⟩⟩, h2, h3, h4⟩

section
variable {prog : Program} {w : World} {A : Around} {E : Value → Shared → Prop} {s : Shared} {K : Frag}

end
end Att

namespace L2
open PySem PySem.Spec PyProof.Rows

theorem vals_ints : ∀ {vs : List Value} {ns : List Int}, IntsAre vs ns → Vals (ns.map V.int) vs
  | _, _, .nil => .nil
  | _, _, .cons n t h => .cons ⟨t, rfl⟩ (vals_ints h)

/-- nothing is tracked but the script, known to the object (or it is an object of the module) -/
def Only (H : Hp) : Prop := ∀ b, H b = none ∨ ∃ o xs, H b = some (.frz o (.lst xs))

/-- THE HEAD: the law's promise, at the heap behind the top. F, the promise of the law's def, may use that base is part of the heap (so K.In base, base.Ns mainGlobals mg stand in Mod) -/
theorem law_call {P : Program} {w : World} {K : PySem.W.Frag} {mg mb : Str → Option Value} {CX : CXT} {k : Nat} {fa a : Addr} {fd : FuncData} {x : Str} {sp : Sp} {s₁ : Shared} {vs : List Value} {ns : List Int}
    (KX : K.In s₁.heap) (hns : s₁.heap.Ns mainGlobals mg) (hb : s₁.heap.Ns builtinsNs mb) (hbb : ∀ x : Str, x ≠ "__name__" → mb x = bootBuiltins x) (hlim : s₁.heap.NoLimit) (hg : s₁.gens = #[])
    (ha : s₁.heap.get? a = some { cls := .type "list", data := .seq vs.toArray }) (hi : IntsAre vs ns) (hl : ns.length ≤ sizeLine) (hr : Room k callerA)
    (F : ∀ base : Heap, K.In base → base.Ns mainGlobals mg → FnOk P w K mg base CX k fa fd [x] sp) (hbind : ∀ (s : Shared) (u : Value), BindsTo s fd ⟨[u], []⟩ [(x, u)])
    (hsp : ∀ H : Hp, Only H → SqL K H a (ns.map V.int) → sp [.ref a] H (fun v _ => v = .bl true) fun _ _ _ => False)
    (hCX : ∀ H e s', CX [] H s₁ (fun _ _ _ => False) e s' → False) :
    codeAny (model P w) callerA (.call (.ref fa) ⟨[.ref a], []⟩) (fun r s' => r = .ok (.ret (.bool true)) ∧ OldK s₁.heap s'.heap ∧ s'.os = s₁.os ∧ AllBare s'.gens) s₁ := by
  have rv := vals_ints hi
  have lenV := hi.length
  -- from an abstract heap in which nothing but the script may be tracked
  have core : ∀ H : Hp, Only H → SqL K H a (ns.map V.int) → HOk P w H s₁.heap → (∀ b, H b ≠ none → b = a) → (H a ≠ none → K.lookup a = none) →
      codeAny (model P w) callerA (.call (.ref fa) ⟨[.ref a], []⟩) (fun r s' => r = .ok (.ret (.bool true)) ∧ OldK s₁.heap s'.heap ∧ s'.os = s₁.os ∧ AllBare s'.gens) s₁ := by
    intro H hO hS hok hA hK
    have base_of : ∀ {b : Addr} {o : Obj}, s₁.heap.get? b = some o → H b = none → (hidT s₁.heap H).get? b = some o := fun e n => hidT_get e n
    have noA : ∀ {b : Addr} {o : Obj} {es : Array DictEntry} {ep : Nat}, s₁.heap.get? b = some o → o.data = .dict es ep → H b = none := fun {b o es ep} e d => by
      cases q : H b with
      | none => rfl
      | some u =>
        have e' : b = a := hA b (by rw [q]; simp)
        subst e'
        rw [ha] at e; cases e
        have d' : Data.seq vs.toArray _ = Data.dict es ep := d
        cases d'
    have nsK : ∀ {b : Addr} {m : Str → Option Value}, s₁.heap.Ns b m → (hidT s₁.heap H).Ns b m := fun {b m} ⟨o, es, ep, e, d, r⟩ => ⟨o, es, ep, base_of e (noA e d), d, r⟩
    have hKb : K.In (hidT s₁.heap H) := fun b o e => base_of (KX b o e) (by
      cases q : H b with
      | none => rfl
      | some u =>
        have e' : b = a := hA b (by rw [q]; simp)
        subst e'
        rw [hK (by rw [q]; simp)] at e; cases e)
    have hM : Mod K mg (hidT s₁.heap H) := ⟨hKb, nsK hns, ⟨mb, nsK hb, hbb⟩, let ⟨mc, h1, h2⟩ := hlim; ⟨mc, nsK h1, h2⟩⟩
    have e0 : Env0 P w K mg (hidT s₁.heap H) callerA [] s₁ H := ⟨rfl, hM, fun b o e => of_hidT e, Nat.le_of_eq (hidT_size _ _), trivial, fun b hb => absurd (show b ∈ ([] : List Addr) from hb) (by simp), hok, .of_eq hg⟩
    refine codeAny_mono ((F _ hKb (nsK hns)).run callerA [] s₁ H ⟨[.ref a], []⟩ [.ref a] [.ref a] _ _ hr e0 (hbind s₁ (.ref a)) (.cons rfl .nil) (hsp H hO hS)) fun r s' h => ?_
    cases r with
    | error e => exact (hCX H e s' h).elim
    | ok fl =>
      cases fl with
      | next => exact False.elim h
      | brk => exact False.elim h
      | cont => exact False.elim h
      | ret u =>
        obtain ⟨v, H', os, bare, un, hok', r', q⟩ := h
        have q' : v = .bl true := q
        subst q'
        obtain rfl : u = Value.bool true := r'
        refine ⟨rfl, OldK.of_keep fun b o e => ?_, os, bare⟩
        cases q : H b with
        | none => exact un.keep b o e q (by intro z; exact absurd (show b ∈ ([] : List Addr) from z) (by simp)) (by simp)
        | some u =>
          rcases hO b with z | ⟨ob, xs, z⟩
          · rw [q] at z; cases z
          · have z2 := un.frzs b ob _ z
            obtain ⟨e1, _⟩ := hok b _ z
            obtain ⟨e2, _⟩ := hok' b _ z2
            rw [e] at e1; cases e1
            exact e2
  cases hk : K.lookup a with
  | some o =>
    -- the script is one of the module's own objects
    have e := KX a o hk
    rw [ha] at e
    cases e
    refine core (fun _ => none) (fun _ => .inl rfl) (.inr ⟨_, vs.toArray, _, hk, rfl, rfl, rfl, by rw [List.size_toArray, lenV]; exact hl, by simpa using rv⟩) (fun b u z => by have z' : (none : Option HO) = some u := z; cases z') (fun b z => absurd rfl z) fun z => absurd rfl z
  | none =>
    refine core (fun b => if b = a then some (.frz { cls := .type "list", data := .seq vs.toArray } (.lst (ns.map V.int))) else none) (fun b => ?_) (.inl (.inr ⟨{ cls := .type "list", data := .seq vs.toArray }, if_pos rfl⟩)) (fun b u z => ?_) (fun b z => ?_) fun _ => hk
    · by_cases hb : b = a
      · exact .inr ⟨_, _, if_pos hb⟩
      · exact .inl (if_neg hb)
    · by_cases hb : b = a
      · have z' := (if_pos hb).symm.trans z
        cases z'
        subst hb
        exact ⟨ha, by rw [List.length_map]; exact hl, vs, _, rv, ha⟩
      · have z' := (if_neg hb).symm.trans z
        cases z'
    · by_cases hb : b = a
      · exact hb
      · exact absurd (if_neg hb) z
end L2

namespace L2
open PySem PySem.Spec PyProof.Rows

/-- the goal that k_head leaves (case hc), from the law's promise. F gives the function object fd (K's own) once, then the promise over every base -/
theorem walk_of {l : PySem.W.OpenLaw} {n k : Nat} {q : Program} {loose : List Str} {XP : (Str → Option Value) → Heap → Prop} {YP : World → Heap → Prop} {d : DefRec} {K : Params → PySem.W.Frag} {CX : World → CXT} {sp : World → Sp} {x : Str}
    (hn : l.most = some n) (hn2 : n ≤ sizeLine) (hdf : d.params.defaults = []) (hr : Room k callerA)
    (hY : ∀ (w : World) (h : Heap), YP w h → (K w.params).In h)
    (F : ∀ (w : World) (mg : Str → Option Value) (fa : Addr) (h : Heap), (K w.params).In h → h.Ns mainGlobals mg → mg d.name = some (.ref fa) →
      ∃ fd : FuncData, (∀ (s : Shared) (u : Value), BindsTo s fd ⟨[u], []⟩ [(x, u)]) ∧
        ∀ base : Heap, (K w.params).In base → base.Ns mainGlobals mg → FnOk l.prog w (K w.params) mg base (CX w) k fa fd [x] (sp w))
    (hsp : ∀ (w : World) (H : Hp) (a : Addr) (ns : List Int), ns.length ≤ n → Only H → SqL (K w.params) H a (ns.map V.int) → sp w [.ref a] H (fun v _ => v = .bl true) fun _ _ _ => False)
    (hCX : ∀ (w : World) (H : Hp) (s : Shared) (e : Value) (s' : Shared), CX w [] H s (fun _ _ _ => False) e s' → False) :
    PySem.W.WalkO q loose XP YP l.row.toRowW d [] (fun f vs => PySem.call f vs) := by
  refine Att.attach_call hn hdf fun w s₀ s₁ mg mb fa o pm cd doc a vs ns G Y ho hd hcd hmg hobj hints hlen hg => ?_
  have KX := hY w _ Y
  obtain ⟨fd, hb, hF⟩ := F w mg fa _ KX G.T.g hmg
  exact law_call KX G.T.g G.T.b G.T.builtins G.T.nolimit hg hobj hints (Nat.le_trans hlen hn2) hr hF hb (fun H hO hS => hsp w H a ns hlen hO hS) fun H e s' => hCX w H s₁ e s'
end L2

/- THE LAST THEOREM (shape; LID, My.* are yours):
   My.Adr: a structure of the addresses that your layer names (classes, functions); My.Txt K t: a structure (Prop) of the equations over K;
   My.txt_mk : {K} {implicit addresses ..} (e1 : nsIn K mainGlobals "law" = some (some (.ref f))) (e2 : K.lookup f = some ⟨oc, od, .func (fnOf "law" "law" params body scope dV kV doc pm an cdv ct), sl⟩) (e3 : codeIn K cdv "law" = true) .. : ∃ t, My.Txt K t

set_option maxRecDepth 100000 in
set_option maxHeartbeats 0 in
theorem PySem.Challenge.cw_LID_holds : PySem.Challenge.rw_LID.Holds := by
  w_on; o_law; k_head; (case hw => w_witness2)
  k_fill
  refine L2.walk_of (l := PySem.Challenge.rw_LID) (n := 63) (k := 40) (x := "script") (CX := fun w => ..) (sp := fun _ => My.sp_law) rfl (by decide) rfl ⟨rfl, by decide, by decide⟩ (fun w h Y => PySem.W.kIn_of Y) ?F ?S ?C
  case F =>
    intro w mg fa h KX G hmg
    have T : ∃ t, My.Txt (L2.KOf KX) t := by
      dsimp only [L2.KOf]                          -- K must stand as «<heap const> w.params» for k_is
      refine' My.txt_mk ?e1 ?e2 ?e3 ..
      (case e1 => PySem.W.k_is)                    -- in the order: a name -> its address -> its object -> its parts
      (case e2 => PySem.W.k_is)
      ..
    obtain ⟨t, T⟩ := T
    have e0 := hmg.symm.trans (PySem.W.mg_of KX G T.law)
    cases e0                                       -- fa is the law's own address
    exact ⟨_, fun s u => .of_eq rfl, fun base kb nb => My.law_fn T kb nb⟩     -- if «.of_eq rfl» comes too early: refine' ⟨_, ?b, fun base kb nb => My.law_fn T kb nb⟩; exact fun s u => .of_eq rfl
  case S => exact fun w H a ns hl hO hS => ..
  case C => exact ..
(the tactic k_is has no namespace: write k_is) -/

namespace L2
open PySem PySem.Spec PyProof.Rows

/-- the j-th statement of a class's body -/
def inClass (s : Stmt) (j : Nat) : Stmt := match s with
  | .ClassDef _ _ _ body _ _ _ _ _ _ _ => body.getD j (.Pass ⟨0, 0, 0, 0⟩)
  | _ => .Pass ⟨0, 0, 0, 0⟩
def defArgs (s : Stmt) : Arguments := match s with
  | .FunctionDef _ a _ _ _ _ _ _ _ _ => a
  | _ => { posonlyargs := [], args := [], vararg := none, kwonlyargs := [], kw_defaults := [], kwarg := none, defaults := [] }
def defBody (s : Stmt) : List Stmt := match s with
  | .FunctionDef _ _ b _ _ _ _ _ _ _ => b
  | _ => []
def defScope (s : Stmt) : Scope := match s with
  | .FunctionDef _ _ _ _ _ _ sc _ _ _ => sc
  | _ => { kind := .function, names := [], isGenerator := false, isCoroutine := false }

abbrev CX0 : CXT := fun _ _ _ _ _ _ => False
abbrev E0 : XK := fun _ _ _ => False
theorem pass0 {X : Cx} : Passes CX0 X E0 := fun _ _ _ _ _ _ _ h => h.elim

structure Fun (K : PySem.W.Frag) (x qual : Str) (st : Stmt) (f : Addr) (fd : FuncData) : Prop where
  ex : ∃ (oc : Value) (od : Option Addr) (kV doc pm : Value) (an : Option Addr) (cdv ct : Value) (osl : Array (Option Value)),
    fd = PySem.W.fnOf x qual (defArgs st) (defBody st) (defScope st) .none kV doc pm an cdv ct ∧ K.lookup f = some ⟨oc, od, .func fd, osl⟩ ∧ PySem.W.codeIn K cdv qual = true
  kp : PySem.W.keepIn K (.ref f) = true
section
variable {P : Program} {w : World} {K : PySem.W.Frag} {mg : Str → Option Value} {base : Heap}
/-- THE RULE for a def: its body as a term of rules, and the reading of that term -/
theorem Fun.ok {x qual : Str} {st : Stmt} {f : Addr} {fd : FuncData} {N ps : List Str} {k : Nat} {sp : Sp} (F : Fun K x qual st f fd) (S : FnScope N ps (defScope st)) (len : ∀ vs H Q E, sp vs H Q E → vs.length = ps.length)
    (hbody : ∀ (cdv : Value) (A : Around) (outer : List Env) (s : Shared) (H : Hp) (vs : List V) (Q : VK) (E : XK), Room k (A.deeper (envOfC qual (defScope st) s.heap.objs.size f cdv)) → sp vs H Q E →
      ∃ t, PSs (cxOf CX0 P w K mg base N qual (defScope st) f cdv A outer s H E).nox (defBody st) t ∧ t { nx := fun _ H' => Q .non H', rt := Q } (start N vs) H) : FnOk P w K mg base CX0 (k + 1) f fd ps sp := by
  obtain ⟨oc, od, kV, doc, pm, an, cdv, ct, osl, rfl, lk, hcd⟩ := F.ex
  refine fn_of lk hcd S len fun A outer s H vs Q E hr hsp => ?_
  obtain ⟨t, h, q⟩ := hbody cdv A outer s H vs Q E hr hsp
  exact ⟨t, h.nox, q⟩
/-- how its arguments bind (no defaults): h is «fun _ _ _ _ _ _ us hl => match us, hl with | [_, _], _ => rfl», one _ a parameter -/
theorem Fun.binds {x qual : Str} {st : Stmt} {f : Addr} {fd : FuncData} {ps : List Str} (F : Fun K x qual st f fd)
    (h : ∀ (kV doc pm : Value) (an : Option Addr) (cdv ct : Value) (us : List Value), us.length = ps.length → bindArgs (PySem.W.fnOf x qual (defArgs st) (defBody st) (defScope st) .none kV doc pm an cdv ct) ⟨us, []⟩ = pure (ps.zip us)) : Binds K fd ps [] := by
  obtain ⟨oc, od, kV, doc, pm, an, cdv, ct, osl, rfl, lk, hcd⟩ := F.ex
  exact .all (h kV doc pm an cdv ct)
theorem fun_mk {x qual : Str} {st : Stmt} {f : Addr} {oc : Value} {od an : Option Addr} {osl : Array (Option Value)} {kV doc pm cdv ct : Value} (l : K.lookup f = some ⟨oc, od, .func (PySem.W.fnOf x qual (defArgs st) (defBody st) (defScope st) .none kV doc pm an cdv ct), osl⟩)
    (c : PySem.W.codeIn K cdv qual = true) (k : PySem.W.keepIn K (.ref f) = true) : Fun K x qual st f (PySem.W.fnOf x qual (defArgs st) (defBody st) (defScope st) .none kV doc pm an cdv ct) := ⟨⟨oc, od, kV, doc, pm, an, cdv, ct, osl, rfl, l, c⟩, k⟩
end
theorem hu_of {A : Around} {k : Nat} (hr : Room k A) : A.units + 1 < cLine := Nat.lt_of_le_of_lt (Nat.add_le_add_left (by decide : 1 ≤ 64) _) hr.units
theorem small1000 {n : Nat} (h : n ≤ 1000) : n < sizeLine := Nat.lt_of_le_of_lt h (by decide)

section
variable {X : Cx}
theorem pv (i : Nat) {x : Str} {pos : Pos} (hN : X.N[i]? = some x := by rfl) (hv : Vis X.env.scope x := by first | exact Or.inl rfl | exact Or.inr (Or.inl rfl) | exact Or.inr (Or.inr rfl)) (hd : (x == ("__debug__" : Str)) = false := by decide)
    (hcd : (x == ("__classdict__" : Str)) = false := by decide) : PE X (.Name x pos) (tVar i) := pe_var hN hv hd hcd
end

/-- all that was tracked is as it was -/
def Same (H H' : Hp) : Prop := ∀ b o, H b = some o → H' b = some o
theorem Same.refl (H : Hp) : Same H H := fun _ _ h => h
theorem Same.trans {H H1 H2 : Hp} (a : Same H H1) (b : Same H1 H2) : Same H H2 := fun c o h => b c o (a c o h)
theorem Same.free {H H' : Hp} (e : Same H H') {l : Addr} (h : H' l = Option.none) : H l = Option.none := by
  cases q : H l with
  | none => rfl
  | some o =>
    rw [e l o q] at h
    cases h
theorem Same.seq {K : PySem.W.Frag} {H H' : Hp} {a : Addr} {xs : List V} (e : Same H H') (h : SqL K H a xs) : SqL K H' a xs := by
  rcases h with (h | ⟨o, h⟩) | h
  · exact .inl (.inl (e _ _ h))
  · exact .inl (.inr ⟨o, e _ _ h⟩)
  · exact .inr h

end L2

set_option Elab.async false
set_option linter.all false
set_option maxRecDepth 100000
set_option maxHeartbeats 4000000

namespace L2
open PySem PySem.Spec PyProof.Rows

theorem natlt {a b : Addr} (h : a < b) : @LT.lt Nat _ a b := h
theorem ne_lt {a b : Addr} {n : Nat} (h : a < n) (k : n ≤ b) : a ≠ b := Nat.ne_of_lt (Nat.lt_of_lt_of_le h k)
theorem cellsFrom_app : ∀ (names : List (Str × NameKind)) (n : Nat) (acc : List (Str × Addr)), cellsFrom n names acc = cellsFrom n names [] ++ acc
  | [], _, _ => rfl
  | (x, k) :: r, n, acc => by
    unfold cellsFrom
    split
    · rw [cellsFrom_app r (n + 1) ((x, n) :: acc), cellsFrom_app r (n + 1) [(x, n)], List.append_assoc]; rfl
    · exact cellsFrom_app r n acc
theorem cellsFrom_mem : ∀ (names : List (Str × NameKind)) (n : Nat) (acc : List (Str × Addr)) (y : Str) (c : Addr), (y, c) ∈ cellsFrom n names acc → (y, c) ∈ acc ∨ ((y, NameKind.cell) ∈ names ∧ n ≤ c)
  | [], _, _, _, _, h => .inl h
  | (x, k) :: r, n, acc, y, c, h => by
    unfold cellsFrom at h
    split at h
    · rename_i hk
      have hk' : k = .cell := by simpa using hk
      rcases cellsFrom_mem r (n + 1) _ y c h with h | ⟨h, l⟩
      · rcases List.mem_cons.mp h with e | h
        · cases e; subst hk'; exact .inr ⟨List.mem_cons_self, Nat.le_refl _⟩
        · exact .inl h
      · exact .inr ⟨List.mem_cons_of_mem _ h, Nat.le_of_succ_le l⟩
    · rcases cellsFrom_mem r n _ y c h with h | ⟨h, l⟩
      · exact .inl h
      · exact .inr ⟨List.mem_cons_of_mem _ h, l⟩
def closFrom (cells : List (Str × Addr)) : List (Str × NameKind) → List (Str × Addr) → List (Str × Addr)
  | [], acc => acc
  | (x, k) :: r, acc => if k == .free then closFrom cells r ((x, (cells.lookup x).getD 0) :: acc) else closFrom cells r acc
theorem closFrom_mem {cells : List (Str × Addr)} : ∀ (names : List (Str × NameKind)) (acc : List (Str × Addr)) (y : Str) (c : Addr), (y, c) ∈ closFrom cells names acc → (y, c) ∈ acc ∨ ((y, NameKind.free) ∈ names ∧ c = (cells.lookup y).getD 0)
  | [], _, _, _, h => .inl h
  | (x, k) :: r, acc, y, c, h => by
    unfold closFrom at h
    split at h
    · rename_i hk
      have hk' : k = .free := by simpa using hk
      rcases closFrom_mem r _ y c h with h | ⟨h, l⟩
      · rcases List.mem_cons.mp h with e | h
        · cases e; subst hk'; exact .inr ⟨List.mem_cons_self, rfl⟩
        · exact .inl h
      · exact .inr ⟨List.mem_cons_of_mem _ h, l⟩
    · rcases closFrom_mem r _ y c h with h | ⟨h, l⟩
      · exact .inl h
      · exact .inr ⟨List.mem_cons_of_mem _ h, l⟩
theorem closFrom_acc {cells : List (Str × Addr)} : ∀ (names : List (Str × NameKind)) (acc : List (Str × Addr)) (p : Str × Addr), p ∈ acc → p ∈ closFrom cells names acc
  | [], _, _, h => h
  | (x, k) :: r, acc, p, h => by
    unfold closFrom
    split
    · exact closFrom_acc r _ p (List.mem_cons_of_mem _ h)
    · exact closFrom_acc r _ p h
theorem closFrom_has {cells : List (Str × Addr)} : ∀ (names : List (Str × NameKind)) (acc : List (Str × Addr)) (y : Str), (y, NameKind.free) ∈ names → (y, (cells.lookup y).getD 0) ∈ closFrom cells names acc
  | [], _, _, h => nomatch h
  | (x, k) :: r, acc, y, h => by
    unfold closFrom
    rcases List.mem_cons.mp h with e | h
    · cases e
      rw [if_pos (by rfl)]
      exact closFrom_acc r _ _ List.mem_cons_self
    · split
      · exact closFrom_has r _ y h
      · exact closFrom_has r _ y h
theorem lookup_of_mem {α : Type} : ∀ {l : List (Str × α)} {y : Str} {c : α}, (y, c) ∈ l → ∃ c', l.lookup y = some c'
  | (k, v) :: r, y, c, h => by
    rw [List.lookup_cons]
    cases hb : y == k with
    | true => exact ⟨v, rfl⟩
    | false =>
      rcases List.mem_cons.mp h with e | h
      · cases e; rw [beq_self_eq_true] at hb; cases hb
      · exact lookup_of_mem h
theorem closureFor_go {env : Env} (f : Str × NameKind → List (Str × Addr) → Sem (ForInStep (List (Str × Addr))))
    (hf : ∀ name kind cs, f (name, kind) cs = if kind == .free then (do let a ← cellOf env name; pure (.yield ((name, a) :: cs))) else pure (.yield cs)) :
    ∀ (names : List (Str × NameKind)) (acc : List (Str × Addr)), (∀ x, (x, NameKind.free) ∈ names → ∃ c, env.cells.lookup x = some c) → forIn names acc f = (pure (closFrom env.cells names acc) : Sem (List (Str × Addr)))
  | [], acc, _ => by rw [List.forIn_nil]; rfl
  | (x, k) :: r, acc, h => by
    have hr : ∀ x, (x, NameKind.free) ∈ r → ∃ c, env.cells.lookup x = some c := fun y hy => h y (List.mem_cons_of_mem _ hy)
    rw [List.forIn_cons, hf]
    unfold closFrom
    split
    · rename_i hk
      have hk' : k = .free := by simpa using hk
      subst hk'
      obtain ⟨c, hc⟩ := h x List.mem_cons_self
      have e : cellOf env x = (pure c : Sem Addr) := by unfold cellOf; rw [hc]
      rw [e, hc]
      exact closureFor_go f hf r ((x, c) :: acc) hr
    · exact closureFor_go f hf r acc hr
theorem closureFor_eq {scope : Scope} {env : Env} (h : ∀ x, (x, NameKind.free) ∈ scope.names → ∃ c, env.cells.lookup x = some c) : closureFor scope env = pure (closFrom env.cells scope.names []) := by
  simp only [closureFor]
  rw [closureFor_go _ (fun name kind cs => by cases hk : kind == NameKind.free <;> simp [hk]) scope.names [] h]
  rfl
section
variable {M : Model} {A : Around} {E : Value → Shared → Prop} {s : Shared}
/-- the block's own frame and cells, over a closure -/
theorem newEnv_comp {scope : Scope} {globals : Addr} {cl : List (Str × Addr)} {qual : Str} {env : Env} {Q : Env → Shared → Prop}
    (hQ : Q { scope := scope, locals := s.heap.objs.size, globals := globals, cells := cellsFrom (s.heap.objs.size + 1) scope.names cl, qual := qual, func := none, code := env.code, frame := env.frame, builtins := env.builtins }
      { s with heap := pushCells (s.heap.push { cls := .type "dict", data := .dict #[] }) scope.names }) :
    wpAny M A (newFunctionEnv scope globals cl [] qual none .none (some env)) Q E s := by
  simp only [newFunctionEnv, Option.isSome_some, if_true]
  refine wpAny_bind (wpAny_alloc ?_)
  refine wpAny_bind (wpAny_layCells _ (fun name kind cells => by cases hkc : kind == NameKind.cell <;> simp [hkc]) _ _ _ _ ?_)
  rw [show ({ s with heap := s.heap.push { cls := .type "dict", data := .dict #[] } } : Shared).heap.objs.size = s.heap.objs.size + 1 from Heap.size_push ..]
  rw [List.forIn_nil]
  exact wpAny_bind (wpAny_pure (wpAny_pure hQ))
end
theorem relabel_lookup {scope : Scope} {env : Env} (x : Str) : (relabel scope env).names.lookup x = (scope.names.lookup x).map fun k => if (k == .free && env.scope.kind == .function && env.kindOf x == some .cell) = true then NameKind.cell else k := by
  unfold relabel
  dsimp only
  generalize scope.names = names
  induction names with
  | nil => rfl
  | cons p r ih =>
    obtain ⟨n, k⟩ := p
    rw [List.map_cons, List.lookup_cons (as := r)]
    cases hx : x == n with
    | true =>
      have e : x = n := beq_iff_eq.mp hx
      subst e
      by_cases hc : (k == NameKind.free && env.scope.kind == .function && env.kindOf x == some .cell) = true
      · simp only [hc, if_true, List.lookup_cons, hx, Option.map_some]
      · simp only [hc, Bool.false_eq_true, if_false, List.lookup_cons, hx, Option.map_some]
    | false =>
      by_cases hc : (k == NameKind.free && env.scope.kind == .function && env.kindOf n == some .cell) = true
      · simp only [hc, if_true, List.lookup_cons, hx]; exact ih
      · simp only [hc, Bool.false_eq_true, if_false, List.lookup_cons, hx]; exact ih

/-- the block's names: its own k first, then those that it takes from the outer slots js -/
def cmpCheck (N : List Str) (osc : Scope) (k : Nat) (js : List Nat) (N' : List Str) (sc : Scope) : Bool :=
  decide (sc.kind = .function) && decide (N'.length = k + js.length) && decide N'.Nodup &&
  sc.names.all (fun p => decide (sc.names.lookup p.1 = some p.2) && (decide (p.2 ≠ .free) || decide (osc.names.lookup p.1 = some .cell) || decide (osc.names.lookup p.1 = some .free))) &&
  (List.range js.length).all (fun i => decide (js[i]?.bind (fun j => N[j]?) = N'[k + i]?) && decide ((N'[k + i]?).bind (fun y => sc.names.lookup y) = some .free))
structure CmpOk (N : List Str) (osc : Scope) (k : Nat) (js : List Nat) (N' : List Str) (sc : Scope) : Prop where
  kind : sc.kind = .function
  len : N'.length = k + js.length
  nd : N'.Nodup
  look : ∀ p ∈ sc.names, sc.names.lookup p.1 = some p.2
  fr : ∀ y, (y, NameKind.free) ∈ sc.names → osc.names.lookup y = some .cell ∨ osc.names.lookup y = some .free
  js : ∀ i j, js[i]? = some j → ∃ y, N'[k + i]? = some y ∧ N[j]? = some y ∧ sc.names.lookup y = some .free
theorem cmpOk {N : List Str} {osc : Scope} {k : Nat} {js : List Nat} {N' : List Str} {sc : Scope} (h : cmpCheck N osc k js N' sc = true) : CmpOk N osc k js N' sc := by
  unfold cmpCheck at h
  simp only [Bool.and_eq_true, decide_eq_true_eq, List.all_eq_true, Bool.or_eq_true, List.mem_range] at h
  obtain ⟨⟨⟨⟨h1, h2⟩, h3⟩, h4⟩, h5⟩ := h
  refine ⟨h1, h2, h3, fun p hp => (h4 p hp).1, fun y hy => ?_, fun i j hj => ?_⟩
  · rcases (h4 _ hy).2 with (z | z) | z
    · exact absurd rfl z
    · exact .inl z
    · exact .inr z
  · have hi : i < js.length := (List.getElem?_eq_some_iff.mp hj).1
    obtain ⟨a, b⟩ := h5 i hi
    rw [hj] at a
    cases e : N'[k + i]? with
    | none => rw [e] at b; cases b
    | some y =>
      rw [e] at a b
      exact ⟨y, rfl, a, b⟩

def compEnv (scope : Scope) (cl : List (Str × Addr)) (C : Addr) (env : Env) : Env :=
  { scope := relabel scope env, locals := C, globals := env.globals, cells := cellsFrom (C + 1) scope.names cl, qual := env.qual, func := none, code := env.code, frame := env.frame, builtins := env.builtins }
/-- the block's context -/
def cxComp (X : Cx) (N' : List Str) (scope : Scope) (C : Addr) (fp : List Addr) (s2 : Shared) (H2 : Hp) : Cx where
  prog := X.prog
  w := X.w
  K := X.K
  mg := X.mg
  base := X.base
  A := X.A
  N := N'
  s₀ := s2
  H₀ := H2
  env := compEnv scope (closFrom X.env.cells scope.names []) C X.env
  outer := X.stack
  stack := X.stack
  ex := fp
  fn := fun x => decide (scope.names.lookup x = some .cell)
  calm := X.calm
  pn := []
  xe := fun _ _ => False
/-- the block's slots at its start -/
def up (k : Nat) (js : List Nat) (σ : St) : St := List.replicate k none ++ js.map fun j => (σ[j]?).getD none

section
variable {X : Cx} {pins : List (Addr × Obj)} {σ : St} {H : Hp} {s2 : Shared} {k : Nat} {js : List Nat} {N' : List Str} {scope : Scope} {fp : List Addr}
theorem comp_inv (hc : CmpOk X.N X.env.scope k js N' scope) (I : Inv X pins σ H s2) (hfp : ∀ b ∈ fp, FpOk X pins H b) (hlt : ∀ b ∈ fp, b < s2.heap.objs.size) {h3 : Heap} (hz : h3.objs.size = s2.heap.objs.size + 1) (hk3 : ∀ b o, s2.heap.get? b = some o → h3.get? b = some o) :
    Inv (cxComp X N' scope (s2.heap.objs.size + 1) fp s2 H) [] (up k js σ) H { s2 with heap := pushCells (h3.push { cls := .type "dict", data := .dict #[] }) scope.names } := by
  have frLook : ∀ y, (y, NameKind.free) ∈ scope.names → ∃ c, X.env.cells.lookup y = some c := fun y hy => I.ok.has y (hc.fr y hy)
  have ok0 := cellsFrom_ok scope.names (h3.push { cls := .type "dict", data := .dict #[] }) (s2.heap.objs.size + 2) [] ⟨fun _ _ hm => (nomatch hm), List.Pairwise.nil⟩ (by rw [Heap.size_push, hz]; exact Nat.le_refl _)
  rw [Heap.size_push, hz] at ok0
  -- the cells of the block
  have parts : ∀ y c, (compEnv scope (closFrom X.env.cells scope.names []) (s2.heap.objs.size + 1) X.env).cells.lookup y = some c →
      ((y, c) ∈ cellsFrom (s2.heap.objs.size + 2) scope.names [] ∧ (y, NameKind.cell) ∈ scope.names ∧ s2.heap.objs.size + 2 ≤ c) ∨ ((y, NameKind.free) ∈ scope.names ∧ X.env.cells.lookup y = some c) := fun y c e => by
    have m := PySem.mem_of_lookup e
    change (y, c) ∈ cellsFrom (s2.heap.objs.size + 1 + 1) scope.names _ at m
    rw [cellsFrom_app] at m
    rcases List.mem_append.mp m with m | m
    · rcases cellsFrom_mem _ _ _ _ _ m with z | ⟨z, l⟩
      · cases z
      · exact .inl ⟨m, z, l⟩
    · rcases closFrom_mem _ _ _ _ m with z | ⟨z, l⟩
      · cases z
      · obtain ⟨c', e'⟩ := frLook y z
        rw [e'] at l
        exact .inr ⟨z, by rw [e']; exact congrArg some l.symm⟩
  have old : ∀ y c, X.env.cells.lookup y = some c → c < s2.heap.objs.size := fun y c e => by
    obtain ⟨v, q⟩ := I.cell y c e
    exact q.lt
  have freeAt : ∀ y, (y, NameKind.free) ∈ scope.names → ∀ c, X.env.cells.lookup y = some c → (compEnv scope (closFrom X.env.cells scope.names []) (s2.heap.objs.size + 1) X.env).cells.lookup y = some c := fun y hy c e => by
    have m : (y, c) ∈ cellsFrom (s2.heap.objs.size + 1 + 1) scope.names (closFrom X.env.cells scope.names []) := by
      rw [cellsFrom_app]
      have q := closFrom_has (cells := X.env.cells) scope.names [] y hy
      rw [e] at q
      exact List.mem_append_right _ q
    obtain ⟨c', q⟩ := lookup_of_mem m
    rcases parts y c' q with ⟨_, z, _⟩ | ⟨_, z⟩
    · have z1 := hc.look _ z
      have z2 := hc.look _ hy
      rw [z1] at z2
      cases z2
    · rw [e] at z
      cases z
      exact q
  have keepAll : ∀ b o, s2.heap.get? b = some o → (pushCells (h3.push { cls := .type "dict", data := .dict #[] }) scope.names).get? b = some o := fun b o e => pushCells_keeps _ _ b o (Heap.get?_push_of_some _ (hk3 b o e))
  refine ⟨⟨I.ok.mod, hc.kind, I.ok.glob, I.ok.blt, Nat.le_succ _, fun y z c h1 h2 => ?_, fun y hy => ?_, fun y c h1 h2 => ?_, I.ok.hd, I.ok.frames, .inl rfl, fun b hb => ⟨?_, fun y c e => ?_⟩, I.bs, Nat.le_trans I.ok.bsz I.sz, fun b o e hb => ?_, fun b hb hs => ?_, I.stack, I.stkFree⟩,
    rfl, I.bare, Un.kept keepAll, ⟨fun _ => none, ?_, fun i y v e1 e2 e3 => ?_⟩, fun y c e => ?_, I.hok.fresh (Nat.le_succ _), fun y c e => ?_, fun p hp => absurd (show p ∈ ([] : List (Addr × Obj)) from hp) (by simp), I.hok.kept keepAll, ?_⟩
  · -- inj
    rcases parts y c h1 with ⟨a, _, l⟩ | ⟨_, a⟩ <;> rcases parts z c h2 with ⟨b, _, l'⟩ | ⟨_, b⟩
    · exact name_of_addr ok0.apart a b
    · have := natlt (old z c b); omega
    · have := natlt (old y c a); omega
    · exact I.ok.inj y z c a b
  · -- has
    have hy' : (relabel scope X.env).names.lookup y = some .cell ∨ (relabel scope X.env).names.lookup y = some .free := hy
    rw [relabel_lookup] at hy'
    have q : scope.names.lookup y = some .cell ∨ scope.names.lookup y = some .free := by
      cases e : scope.names.lookup y with
      | none => rw [e] at hy'; rcases hy' with z | z <;> cases z
      | some kk =>
        rw [e] at hy'
        cases kk <;> first | exact .inl rfl | exact .inr rfl | (rcases hy' with z | z <;> simp at z)
    rcases q with q | q
    · obtain ⟨c, e⟩ := cell_has (n := s2.heap.objs.size + 1 + 1) q
      have m : (y, c) ∈ cellsFrom (s2.heap.objs.size + 1 + 1) scope.names (closFrom X.env.cells scope.names []) := by
        rw [cellsFrom_app]
        exact List.mem_append_left _ (PySem.mem_of_lookup e)
      exact lookup_of_mem m
    · have m := PySem.mem_of_lookup q
      obtain ⟨c, e⟩ := frLook y m
      exact ⟨c, freeAt y m c e⟩
  · -- cab
    have h1' : scope.names.lookup y = some .cell := of_decide_eq_true h1
    rcases parts y c h2 with ⟨_, _, l⟩ | ⟨z, _⟩
    · show s2.heap.objs.size ≤ c
      omega
    · have := hc.look _ z
      rw [h1'] at this
      cases this
  · -- an iterator is not the frame
    exact ne_lt (hlt b hb) (Nat.le_succ _)
  · rcases parts y c e with ⟨_, _, l⟩ | ⟨_, z⟩
    · exact (ne_lt (hlt b hb) (Nat.le_trans (Nat.le_add_right _ 2) l)).symm
    · exact (hfp b hb).2.2.2.2.1 y c z
  · -- noex
    rcases (hfp b hb).2.2.2.1 with z | z
    · exact I.ok.noex b o e z
    · exact absurd (Nat.lt_of_lt_of_le (Heap.lt_size e) (Nat.le_trans I.ok.bsz z)) (Nat.lt_irrefl _)
  · -- exfs
    rcases List.mem_cons.mp (I.stkSub b hs) with z | z
    · exact (hfp b hb).2.1 z
    · exact (hfp b hb).2.2.1 z
  · -- the frame's map
    have q := (Heap.Ns.new h3 (.type "dict")).keeps (pushCells_keeps scope.names _)
    rw [hz] at q
    exact q
  · -- what is captured
    unfold up at e2
    have hik : k ≤ i := by
      by_cases hi : i < k
      · rw [List.getElem?_append_left (by simpa using hi), List.getElem?_replicate] at e2
        rw [if_pos hi] at e2
        cases e2
      · omega
    rw [List.getElem?_append_right (by simpa using hik), List.length_replicate, List.getElem?_map] at e2
    cases ej : js[i - k]? with
    | none => rw [ej] at e2; cases e2
    | some j =>
      rw [ej] at e2
      have e2' : (σ[j]?).getD none = some v := Option.some.inj e2
      have e4 : σ[j]? = some (some v) := by
        cases q : σ[j]? with
        | none => rw [q] at e2'; cases e2'
        | some z => rw [q] at e2'; exact congrArg some e2'
      obtain ⟨y', n1, n2, n3⟩ := hc.js _ _ ej
      rw [Nat.add_sub_cancel' hik] at n1
      have n0 : N'[i]? = some y := e1
      rw [n1] at n0
      cases n0
      have hm := PySem.mem_of_lookup n3
      have hvis : Vis X.env.scope y := .inr (hc.fr y hm)
      obtain ⟨m, hn, hl⟩ := I.loc
      obtain ⟨u, r, l⟩ := hl j y v n2 e4 hvis
      refine ⟨u, r, ?_⟩
      rcases l with ⟨kk, _⟩ | ⟨kk, c, ec, ic⟩
      · have kk' : X.env.scope.names.lookup y = some .local := kk
        rcases hc.fr y hm with z | z <;> (rw [kk'] at z; cases z)
      · refine .inr ⟨?_, c, freeAt y hm c ec, ic.keeps keepAll⟩
        show (relabel scope X.env).names.lookup y = some .cell ∨ (relabel scope X.env).names.lookup y = some .free
        rw [relabel_lookup, n3]
        simp only [Option.map_some]
        split
        · exact .inl rfl
        · exact .inr rfl
  · -- cells are there
    rcases parts y c e with ⟨a, _, _⟩ | ⟨_, a⟩
    · exact ⟨none, (ok0.empty y c a).1⟩
    · obtain ⟨v, q⟩ := I.cell y c a
      exact ⟨v, q.keeps keepAll⟩
  · rcases parts y c e with ⟨_, _, l⟩ | ⟨_, a⟩
    · exact I.hok.fresh (by omega)
    · exact I.freeC y c a
  · unfold up
    show _ = N'.length
    rw [List.length_append, List.length_replicate, List.length_map, hc.len]

/-- the block is left: the list D stands in the outer heap -/
theorem comp_end {σ' : St} {H' : Hp} {s' : Shared} {C D : Addr} {its : List Value} {n : Nat} {ys : List V} (I : Inv X pins σ H s2) (hfp : ∀ b ∈ fp, FpOk X pins H b) (hC : s2.heap.objs.size ≤ C) (hD : s2.heap.objs.size ≤ D) (hDC : D ≠ C)
    (I' : Inv (cxComp X N' scope C fp s2 H) [(D, { cls := .type "list", data := .seq its.toArray n })] σ' H' s') (hv : Vals ys its) (hz : ys.length ≤ sizeLine) :
    H' D = none ∧ ∀ h', Heap.SameBut C s'.heap h' → Inv X pins σ (upd H' D (.lst ys)) { s' with heap := h' } := by
  obtain ⟨eD, nD, _, _, _⟩ := I'.pin (D, { cls := .type "list", data := .seq its.toArray n }) (List.mem_append_right _ List.mem_cons_self)
  dsimp only at eD nD
  have nC : H' C = none := I'.free
  refine ⟨nD, fun h' hs => ?_⟩
  have neC : ∀ b o, s2.heap.get? b = some o → b ≠ C := fun b o e => ne_lt (Heap.lt_size e) hC
  have neD : ∀ b o, s2.heap.get? b = some o → b ≠ D := fun b o e => ne_lt (Heap.lt_size e) hD
  have tr : ∀ b u, H' b = some u → b ≠ D := fun b u e z => by rw [z, nD] at e; cases e
  have trC : ∀ b u, H' b = some u → b ≠ C := fun b u e z => by rw [z, nC] at e; cases e
  have B := I'.base
  refine I.call' (s' := { s' with heap := h' }) (ch := fp) I'.os ⟨fun b o e nn hb hx => ?_, fun b o e nn hb hx => ?_, fun b o e nn hx => ?_, fun b o e hx => ?_, fun b xs e => ?_, fun b o u e => ?_, fun b ps e => ?_⟩ (fun b u e => ?_) I'.bare fun b hb => ?_
  · exact (hs.2 b (neC b o e)).trans (B.keep b o e nn hb hx)
  · obtain ⟨sl, q⟩ := B.slot b o e nn hb hx
    exact ⟨sl, (hs.2 b (neC b o e)).trans q⟩
  · rw [upd_ne (neD b o e)]
    exact B.free b o e nn hx
  · obtain ⟨o', q⟩ := B.there b o e hx
    exact ⟨o', (hs.2 b (neC b o e)).trans q⟩
  · have q := B.tups b xs e
    rw [upd_ne (tr b _ q)]
    exact q
  · have q := B.frzs b o u e
    rw [upd_ne (tr b _ q)]
    exact q
  · obtain ⟨more, q⟩ := B.tbls b ps e
    exact ⟨more, by rw [upd_ne (tr b _ q)]; exact q⟩
  · by_cases hb : b = D
    · subst hb
      rw [upd_same] at e
      cases e
      exact ⟨hz, its, n, hv, (hs.2 b hDC).trans eD⟩
    · rw [upd_ne hb] at e
      refine (I'.hok b u e).stay (fun c v hcc q => (hs.2 c ?_).trans q) (fun c q => by rw [upd_ne (tr c _ q)]; exact q) fun c xs q => by rw [upd_ne (tr c _ q)]; exact q
      rcases hcc with rfl | hcc
      · exact trC c _ e
      · exact trC c _ hcc
  · obtain ⟨_, f1, _, f3, f4, f5⟩ := hfp b hb
    exact ⟨f3, f1, f4, f5⟩
end

section
variable {prog : Program} {w : World} {A : Around} {R : Result → Shared → Prop} {s : Shared}
theorem codeAny_compLoop_any {elt target iter : Expr} {ifs : List Expr} {scope : Scope} {pos : Pos} {it acc : Value} {env : Env} (I : Nat → Shared → Prop)
    (turn : ∀ n s, I n s → wpAny (model prog w) A (pyNext it) (fun r s₁ => match r with
      | none => R (.ok .next) s₁
      | some v => wpAny (model prog w) A (letOwnedTupleGo target it v) (fun _ s₁' => wpAny (model prog w) A (assign target env v) (fun _ s₂ =>
          wpAny (model prog w) A (forIn ifs true fun c r => if r = true then do let ok ← isTrue c env (eval c env); pure (ForInStep.yield ok) else pure (ForInStep.yield r)) (fun ok s₃ =>
            if ok = true then wpAny (model prog w) A (eval elt env) (fun x s₄ =>
              wpAny (model prog w) A (call (.builtin "list.append") [acc, x]) (fun _ s₅ => ∃ m, m < n ∧ I m s₅) (notedBy (model prog w) A env fun e s' => R (.error e) s') s₄) (notedBy (model prog w) A env fun e s' => R (.error e) s') s₃
            else ∃ m, m < n ∧ I m s₃) (notedBy (model prog w) A env fun e s' => R (.error e) s') s₂) (notedBy (model prog w) A env fun e s' => R (.error e) s') s₁') (notedBy (model prog w) A env fun e s' => R (.error e) s') s₁) (notedBy (model prog w) A env fun e s' => R (.error e) s') s)
    (n : Nat) (h : I n s) :
    codeAny (model prog w) A (.compLoop (.ListComp elt [⟨target, iter, ifs, 0⟩] scope pos) 0 it acc env) R s := by
  refine codeAny_loop rfl I (fun n s hI => ?_) n h
  show wpAny _ A ((compTurn (.ListComp elt [⟨target, iter, ifs, 0⟩] scope pos) 0 it acc env).onRaise (fun x => do noteFrame x env; theTreesLotGoes x)) _ _ s
  refine wpAny_noted ?_
  rw [compTurn_list]
  refine wpAny_bind (wpAny_standAt (wpAny_bind (wpAny_mono (turn n s hI) (fun r s₁ h₁ => ?_) fun _ _ h' => h')))
  cases r with
  | none => exact wpAny_pure h₁
  | some v =>
    refine wpAny_bind (wpAny_mono h₁ (fun _ s₁' h₁' => ?_) fun _ _ h' => h')
    refine wpAny_bind (wpAny_mono h₁' (fun _ s₂ h₂ => wpAny_bind (wpAny_mono h₂ (fun ok s₃ h₃ => ?_) fun _ _ h' => h')) fun _ _ h' => h')
    cases ok with
    | false => exact wpAny_pure ⟨rfl, h₃⟩
    | true => exact wpAny_bind (wpAny_bind (wpAny_mono h₃ (fun x s₄ h₄ => wpAny_bind (wpAny_mono h₄ (fun _ s₅ h₅ => wpAny_pure (wpAny_pure ⟨rfl, h₅⟩)) fun _ _ h' => h')) fun _ _ h' => h'))
end

/-- a test that a comprehension makes (ifs) -/
def PIfs (X : Cx) (ifs : List Expr) (t : TT) : Prop :=
  ∀ (pins : List (Addr × Obj)) (s : Shared) (σ : St) (H : Hp) (Q : Bool → Hp → Prop), Inv X pins σ H s → t σ H Q →
    wpAny (model X.prog X.w) X.A (forIn ifs true fun c r => if r = true then do let ok ← isTrue c X.env (eval c X.env); pure (ForInStep.yield ok) else pure (ForInStep.yield r)) (TP X pins σ Q) X.xe s
def tYes : TT := fun _ H Q => Q true H
theorem pifs_nil {X : Cx} : PIfs X [] tYes := fun _ _ _ H _ I h => wpAny_tests_nil ⟨H, I, h⟩
theorem pifs_one {X : Cx} {c : Expr} {t : TT} (hc : PT X c t) : PIfs X [c] t := fun pins s σ H Q I h => wpAny_tests_one (hc pins s σ H Q I h)

/-- [e for .. in ..]: W says what holds between two turns: the turn, a measure, the items so far, the block's slots, the heap -/
def tComp (k : Nat) (js : List Nat) (wi : TI) (g : TG) (tt : TT) (te : TE) : TE := fun σ H Q => wi σ H fun J H1 => ∃ W : Nat → Nat → List V → St → Hp → Prop, (∃ m, W 0 m [] (up k js σ) H1) ∧ ∀ i m ys σ H, W i m ys σ H →
  (J.stop i H ∧ ys.length ≤ sizeLine ∧ ∀ p, H p = none → Q (.ref p) (upd H p (.lst ys))) ∨
  (J.go i H ∧ ys.length < sizeLine ∧ ∀ x H', J.yld i H x H' → g x σ H' fun σ2 H2 => tt σ2 H2 fun b H3 => if b = true then te σ2 H3 fun y H4 => ∃ m', m' < m ∧ W (i + 1) m' (ys ++ [y]) σ2 H4 else ∃ m', m' < m ∧ W (i + 1) m' ys σ2 H3)

section
variable {X : Cx} {k : Nat} {js : List Nat} {N' : List Str} {scope : Scope} {tg iter elt : Expr} {ifs : List Expr} {wi : TI} {g : TG} {tt : TT} {te : TE} {pos : Pos}
theorem comp_core {use : Option (Value → Sem Unit)} {Q' : Value → Shared → Prop} (hcalm : X.calm = true) (hc : CmpOk X.N X.env.scope k js N' scope) (hi : PI X tg iter wi)
    (hg : ∀ C fp s2 H2, PG (cxComp X N' scope C fp s2 H2) tg g) (ht : ∀ C fp s2 H2, PIfs (cxComp X N' scope C fp s2 H2) ifs tt) (he : ∀ C fp s2 H2, PE (cxComp X N' scope C fp s2 H2) elt te)
    {pins : List (Addr × Obj)} {s : Shared} {σ : St} {H : Hp} {Q : VK} (I : Inv X pins σ H s) (h : tComp k js wi g tt te σ H Q)
    (fin : ∀ (C D : Addr) (s' : Shared) (m : Str → Option Value) (H' : Hp) (ys : List V), s'.heap.Ns C m → C ≠ X.env.locals → C ∉ X.fs → D ≠ C → H' C = none → X.s₀.heap.objs.size ≤ C → (∀ x c, X.env.cells.lookup x = some c → c ≠ C) → (∀ p ∈ X.pn ++ pins, p.1 ≠ C) → (∀ h', Heap.SameBut C s'.heap h' → Inv X pins σ (upd H' D (.lst ys)) { s' with heap := h' }) → Q (.ref D) (upd H' D (.lst ys)) →
      compPost (model X.prog X.w) X.A X.xe use Q' (.ref D) C (.ok .next) s')
    (hs : ∀ x, foldedSetIterable iter X.env x = pure x) (p' : Pos) :
    wpAny (model X.prog X.w) X.A (comprehension (.ListComp elt [⟨tg, iter, ifs, 0⟩] scope pos) scope X.env p' (newList []) false (eval iter X.env) use) Q' X.xe s := by
  have hclos : closureFor scope X.env = pure (closFrom X.env.cells scope.names []) := closureFor_eq fun y hy => I.ok.has y (hc.fr y hy)
  refine wpAny_comprehension_free (g := ⟨tg, iter, ifs, 0⟩) (gs := []) rfl hs hclos hc.kind (fun x hx hl => by rw [hc.look x hx, hl]) ?_
  refine thn (hi pins s σ H _ I h) fun v s1 h1 => thn h1 fun itv s2 h2 => ?_
  obtain ⟨it, fp, tn, J, H2, e, I2, T, st2, f2, W, ⟨m0, w0⟩, turn⟩ := h2
  subst e
  have hlt : ∀ b ∈ fp, b < s2.heap.objs.size := fun b hb => by
    obtain ⟨o, e, _⟩ := T.obj _ _ st2 b hb
    exact Heap.lt_size e
  refine wpAny_newObj_type (newEnv_comp ?_)
  have hz3 : (s2.heap.push { cls := .type "list", dict := none, data := .seq ([] : List Value).toArray }).objs.size = s2.heap.objs.size + 1 := Heap.size_push ..
  have I3 := comp_inv (h3 := s2.heap.push { cls := .type "list", dict := none, data := .seq ([] : List Value).toArray }) hc I2 f2 hlt hz3 (fun b o e => Heap.get?_push_of_some _ e)
  dsimp only
  rw [hz3]
  generalize hS4 : ({ s2 with heap := pushCells ((s2.heap.push { cls := .type "list", dict := none, data := .seq ([] : List Value).toArray }).push { cls := .type "dict", data := .dict #[] }) scope.names } : Shared) = s4 at I3 ⊢
  have keep4 : ∀ b o, s2.heap.get? b = some o → s4.heap.get? b = some o := fun b o e => by
    rw [← hS4]
    exact pushCells_keeps _ _ b o (Heap.get?_push_of_some _ (Heap.get?_push_of_some _ e))
  have eD4 : s4.heap.get? s2.heap.objs.size = some { cls := .type "list", data := .seq ([] : List Value).toArray 0 } := by
    rw [← hS4]
    exact pushCells_keeps _ _ _ _ (Heap.get?_push_of_some _ (Heap.get?_push_size _ rfl))
  generalize hX' : cxComp X N' scope (s2.heap.objs.size + 1) fp s2 H2 = X' at I3
  have hC' : X'.env.locals = s2.heap.objs.size + 1 := by rw [← hX']; rfl
  have hfs' : X'.fs = frs X.stack := by rw [← hX']; rfl
  -- D is nobody's
  have nofsD : ∀ a, s2.heap.objs.size ≤ a → a ∉ frs X.stack := fun a ha hb => by
    rcases List.mem_cons.mp (I2.stkSub a hb) with z | z
    · exact absurd z.symm (ne_lt I2.lt ha)
    · exact I2.nofs ha z
  have cellD : ∀ x c, X'.env.cells.lookup x = some c → c ≠ s2.heap.objs.size := fun x c e z => by
    obtain ⟨v, o, ho, hd⟩ := I3.cell x c e
    rw [z, eD4] at ho
    cases ho
    cases hd
  have pinD : ∀ {σ' : St} {H' : Hp} {s' : Shared} {its : List Value} {n : Nat}, Inv X' [] σ' H' s' → s'.heap.get? s2.heap.objs.size = some { cls := .type "list", data := .seq its.toArray n } → H' s2.heap.objs.size = none →
      Inv X' [(s2.heap.objs.size, { cls := .type "list", data := .seq its.toArray n })] σ' H' s' := fun {σ' H' s' its n} J e nn => J.pins_of fun p hp => by
    have e' : p = (s2.heap.objs.size, { cls := .type "list", data := .seq its.toArray n }) := by simpa using hp
    subst e'
    refine ⟨e, nn, ?_, ?_, fun v z => nomatch z⟩
    · rw [hC']; exact Nat.ne_of_lt (Nat.lt_succ_self _)
    · rw [hfs']; exact nofsD _ (Nat.le_refl _)
  have I4 := pinD I3 eD4 (I2.hok.fresh (Nat.le_refl _))
  -- what stays true of the iterator's objects
  have stat : ∀ {H' : Hp} {o : Obj}, (∀ b ∈ fp, H' b = none) → ∀ b ∈ fp, FpOk X' [(s2.heap.objs.size, o)] H' b := fun {H' o} hn b hb => by
    have hb' := hlt b hb
    refine ⟨hn b hb, ?_, ?_, .inl (by rw [← hX']; exact hb), fun x c e z => ?_, fun p hp z => ?_⟩
    · rw [hC']; exact ne_lt hb' (Nat.le_succ _)
    · rw [hfs']
      intro z
      rcases List.mem_cons.mp (I2.stkSub b z) with q | q
      · exact (f2 b hb).2.1 q
      · exact (f2 b hb).2.2.1 q
    · have q := I3.ok.exf b (by rw [← hX']; exact hb)
      exact q.2 x c e z
    · rw [show X'.pn = [] by rw [← hX']; rfl] at hp
      have e' : p = (s2.heap.objs.size, o) := by simpa using hp
      subst e'
      exact absurd hb' (by rw [← z]; exact Nat.lt_irrefl _)
  have hfin : ∀ {σ' : St} {H' : Hp} {s' : Shared} {its : List Value} {n : Nat} {ys : List V}, Inv X' [(s2.heap.objs.size, { cls := .type "list", data := .seq its.toArray n })] σ' H' s' → Vals ys its → ys.length ≤ sizeLine → (∀ p, H' p = none → Q (.ref p) (upd H' p (.lst ys))) →
      compPost (model X.prog X.w) X.A X.xe use Q' (.ref s2.heap.objs.size) (s2.heap.objs.size + 1) (.ok .next) s' := fun {σ' H' s' its n ys} J hv hz hq => by
    obtain ⟨m, hn, _⟩ := id J.loc
    rw [hC'] at hn
    have nC : H' (s2.heap.objs.size + 1) = none := by rw [← hC']; exact J.free
    have J' : Inv (cxComp X N' scope (s2.heap.objs.size + 1) fp s2 H2) [(s2.heap.objs.size, { cls := .type "list", data := .seq its.toArray n })] σ' H' s' := by rw [hX']; exact J
    obtain ⟨nD, E⟩ := comp_end I2 f2 (Nat.le_succ _) (Nat.le_refl _) (Nat.ne_of_lt (Nat.lt_succ_self _)) J' hv hz
    refine fin _ _ s' m H' ys hn ?_ (I2.nofs (Nat.le_succ _)) (Nat.ne_of_lt (Nat.lt_succ_self _)) nC (Nat.le_trans I2.sz (Nat.le_succ _)) (fun x c e z => ?_) (fun p hp z => ?_) E (hq _ nD)
    · exact (ne_lt I2.lt (Nat.le_succ _)).symm
    · obtain ⟨v, q⟩ := I2.cell x c e
      exact absurd z (ne_lt q.lt (Nat.le_succ _))
    · exact absurd z (ne_lt (Heap.lt_size (I2.pin p hp).1) (Nat.le_succ _))
  have hprog : X'.prog = X.prog := by rw [← hX']; rfl
  have hw : X'.w = X.w := by rw [← hX']; rfl
  have hK : X'.K = X.K := by rw [← hX']; rfl
  have hcalm' : X'.calm = true := by rw [← hX']; exact hcalm
  have hA : X'.A = X.A := by rw [← hX']; rfl
  have henv : compEnv scope (closFrom X.env.cells scope.names []) (s2.heap.objs.size + 1) X.env = X'.env := by rw [← hX']; rfl
  have hgX := hg (s2.heap.objs.size + 1) fp s2 H2
  have htX := ht (s2.heap.objs.size + 1) fp s2 H2
  have heX := he (s2.heap.objs.size + 1) fp s2 H2
  rw [hX'] at hgX htX heX
  have hxe : ∀ e s', X'.xe e s' → False := fun e s' z => by rw [← hX'] at z; exact z
  have hXA : X'.pn = [] := by rw [← hX']; rfl
  have hs0 : X'.s₀.heap.objs.size = s2.heap.objs.size := by rw [← hX']; rfl
  have loop : codeAny (model X.prog X.w) X.A (.compLoop (.ListComp elt [⟨tg, iter, ifs, 0⟩] scope pos) 0 (.ref it) (.ref s2.heap.objs.size) X'.env) (compPost (model X.prog X.w) X.A X.xe use Q' (.ref s2.heap.objs.size) (s2.heap.objs.size + 1)) s4 := by
    refine codeAny_compLoop_any (fun n s' => ∃ i σ' H' its nn ys, Inv X' [(s2.heap.objs.size, { cls := .type "list", data := .seq its.toArray nn })] σ' H' s' ∧ tn i s'.heap ∧ (∀ b ∈ fp, H' b = none) ∧ Vals ys its ∧ W i n ys σ' H') ?_ m0
      ⟨0, _, H2, [], 0, [], I4, T.keep _ _ _ st2 (fun b _ o e => keep4 b o e), fun b hb => (f2 b hb).1, .nil, w0⟩
    rintro n s5 ⟨i, σ5, H5, its, nn, ys, I5, st5, fr5, hv, w5⟩
    rcases turn i n ys σ5 H5 w5 with ⟨stop, hz, hq⟩ | ⟨go, hz, step⟩
    · have d := T.done X' hprog hw hK hcalm' i _ s5 σ5 H5 (fun _ _ => False) I5 (stat fr5) st5 stop
      rw [hA] at d
      refine wpAny_mono d (fun r s6 ⟨hr, I6⟩ => ?_) fun _ _ z => z.elim
      subst hr
      exact hfin I6 hv hz hq
    · have d := T.item X' hprog hw hK hcalm' i _ s5 σ5 H5 (fun _ _ => False) I5 (stat fr5) st5 go
      rw [hA] at d
      refine wpAny_mono d (fun r s6 ⟨u, hr, h6⟩ => ?_) fun _ _ z => z.elim
      subst hr
      refine wpAny_mono h6 (fun _ s7 ⟨x, H7, I7, r7, y7, st7, fr7⟩ => ?_) fun _ _ z => z.elim
      have I7' := I7.pinned (stat fr7) (T.obj _ _ st7)
      have a1 := hgX _ s7 σ5 H7 x u _ I7' r7 (step x H7 y7)
      rw [hprog, hw, hA] at a1
      refine wpAny_mono a1 (fun _ s8 ⟨σ8, H8, I8, q8⟩ => ?_) fun _ _ z => (hxe _ _ z).elim
      have a2 := htX _ s8 σ8 H8 _ I8 q8
      rw [hprog, hw, hA] at a2
      refine wpAny_mono a2 (fun ok s9 ⟨H9, I9, q9⟩ => ?_) fun _ _ z => (hxe _ _ z).elim
      have back : ∀ {σ' : St} {H' : Hp} {s' : Shared}, Inv X' ([(s2.heap.objs.size, ({ cls := .type "list", data := .seq its.toArray nn } : Obj))] ++ pinsAt fp s7.heap) σ' H' s' → tn (i + 1) s'.heap ∧ (∀ b ∈ fp, H' b = none) := fun {σ' H' s'} J => by
        refine ⟨T.keep _ _ _ st7 fun b hb o e => (J.pin (b, o) (List.mem_append_right _ (List.mem_append_right _ (mem_pinsAt hb e)))).1, fun b hb => ?_⟩
        obtain ⟨o, e, d⟩ := T.obj _ _ st7 b hb
        exact (J.pin (b, o) (List.mem_append_right _ (List.mem_append_right _ (mem_pinsAt hb e)))).2.1
      cases ok with
      | false =>
        rw [if_neg Bool.false_ne_true] at q9 ⊢
        obtain ⟨m', hm, w9⟩ := q9
        obtain ⟨t9, f9⟩ := back I9
        exact ⟨m', hm, i + 1, σ8, H9, its, nn, ys, I9.unpinned, t9, f9, hv, w9⟩
      | true =>
        rw [if_pos rfl] at q9 ⊢
        have a3 := heX _ s9 σ8 H9 _ I9 q9
        rw [hprog, hw, hA] at a3
        refine wpAny_mono a3 (fun uy s10 ⟨y, H10, I10, r10, m', hm, w10⟩ => ?_) fun _ _ z => (hxe _ _ z).elim
        obtain ⟨t10, f10⟩ := back I10
        have I11 := I10.unpinned
        obtain ⟨eD, nD, _, _, _⟩ := I11.pin (s2.heap.objs.size, { cls := .type "list", data := .seq its.toArray nn }) (List.mem_append_right _ List.mem_cons_self)
        dsimp only at eD nD
        have hsz : its.length < sizeLine := by rw [← hv.length]; exact hz
        refine wpAny_list_append_plain ⟨nn, eD⟩ (fun h' hpl hsb => ?_) (by rw [List.size_toArray]; omega)
        obtain ⟨n', e'⟩ := hpl
        have e'' : h'.get? s2.heap.objs.size = some { cls := .type "list", data := .seq (its ++ [uy]).toArray n' } := by rw [e']; simp
        have I12 : Inv X' [] σ8 H10 s10 := I11.pins_of fun p hp => absurd hp (by simp)
        have I13 := I12.turned (h' := h') (t' := s10.toks) (it := s2.heap.objs.size) (fun b o hb e => (hsb.2 b hb).trans e) nD (by rw [hC']; exact Nat.ne_of_lt (Nat.lt_succ_self _)) (.inr (by rw [hs0]; exact Nat.le_refl _)) cellD (fun p hp => absurd hp (by rw [hXA]; simp))
        refine ⟨m', hm, i + 1, σ8, H10, its ++ [uy], n', ys ++ [y], pinD I13 e'' nD, T.keep _ _ _ t10 fun b hb o e => ?_, f10, hv.append (.cons r10 .nil), w10⟩
        exact (hsb.2 b (ne_lt (hlt b hb) (Nat.le_refl _))).trans e
  have hst : codeAny (model X.prog X.w) X.A (.compStart (.ListComp elt [⟨tg, iter, ifs, 0⟩] scope pos) 0 (.ref it) (.ref s2.heap.objs.size) X'.env) (compPost (model X.prog X.w) X.A X.xe use Q' (.ref s2.heap.objs.size) (s2.heap.objs.size + 1)) s4 :=
    codeAny_compStart_list loop (T.self X.A 0 s4 _ _ (T.keep _ _ _ st2 (fun b _ o e => keep4 b o e)) loop)
  rw [← henv] at hst
  exact hst

/-- [e for .. in ..] as an expression -/
theorem pe_comp (hcalm : X.calm = true) (hc : cmpCheck X.N X.env.scope k js N' scope = true) (hi : PI X tg iter wi)
    (hg : ∀ C fp s2 H2, PG (cxComp X N' scope C fp s2 H2) tg g) (ht : ∀ C fp s2 H2, PIfs (cxComp X N' scope C fp s2 H2) ifs tt) (he : ∀ C fp s2 H2, PE (cxComp X N' scope C fp s2 H2) elt te)
    (hs : ∀ x, foldedSetIterable iter X.env x = pure x := by intro _; rfl) : PE X (.ListComp elt [⟨tg, iter, ifs, 0⟩] scope pos) (tComp k js wi g tt te) := by
  intro pins s σ H Q I h
  rw [eval_ListComp]
  refine comp_core (use := none) hcalm (cmpOk hc) hi hg ht he I h (fun C D s' m H' ys hn _ _ _ _ _ _ _ E q => ?_) hs _
  exact ⟨m, hn, fun h' hsb => ⟨.ref D, _, E h' hsb, rfl, q⟩⟩
/-- x = [e for .. in ..], x a plain local name on the same row -/
theorem ps_setComp {i : Nat} {x : Str} {px spos : Pos} (hN : X.N.Nodup) (hix : X.N[i]? = some x) (hx : Loc X.env.scope x) (hcalm : X.calm = true) (hc : cmpCheck X.N X.env.scope k js N' scope = true) (hi : PI X tg iter wi)
    (hg : ∀ C fp s2 H2, PG (cxComp X N' scope C fp s2 H2) tg g) (ht : ∀ C fp s2 H2, PIfs (cxComp X N' scope C fp s2 H2) ifs tt) (he : ∀ C fp s2 H2, PE (cxComp X N' scope C fp s2 H2) elt te)
    (hs : ∀ x, foldedSetIterable iter X.env x = pure x := by intro _; rfl) (hsw : swapsWith (.ListComp elt [⟨tg, iter, ifs, 0⟩] scope pos) (some (.Name x px)) spos.line X.env = pure true := by rfl)
    (hf : X.fn x = true ∨ X.env.scope.names.lookup x = some .local := by first | exact .inl rfl | exact .inr rfl | assumption) :
    PS X (.Assign [.Name x px] (.ListComp elt [⟨tg, iter, ifs, 0⟩] scope pos) spos) (tAsg (tComp k js wi g tt te) (gName i)) := by
  intro pins s σ H D I h
  rw [exec_Assign_Name_used _ _ _ _ hsw]
  refine wpAny_bind (wpAny_standAt (wpAny_bind ?_))
  show wpAny _ X.A (do let _ ← comprehension (.ListComp elt [⟨tg, iter, ifs, 0⟩] scope pos) scope X.env _ (newList []) false (eval iter X.env) (some (assign (.Name x px) X.env))) _ _ s
  refine wpAny_bind (wpAny_mono (comp_core (use := some (assign (.Name x px) X.env)) (Q' := fun _ s' => SP X pins D .next s') hcalm (cmpOk hc) hi hg ht he I h (fun C Dd s' m H' ys hn c1 c2 c3 c4 c5 c6 c7 E q => ?_) hs _) (fun _ s' hq => wpAny_pure (wpAny_pure hq)) fun _ _ e => e)
  have J := E s'.heap (.refl ..)
  obtain ⟨oC, es, ep, eC, dC, rC⟩ := id hn
  have J' : Inv X (pins ++ [(C, oC)]) σ (upd H' Dd (.lst ys)) s' := J.pins_of fun p hp => by
    rcases List.mem_append.mp hp with z | z
    · exact J.pin p (List.mem_append_right _ z)
    · have e' : p = (C, oC) := by simpa using z
      subst e'
      refine ⟨eC, ?_, c1, c2, fun v z => ?_⟩
      · show upd H' Dd _ C = none
        rw [upd_ne (Ne.symm c3)]
        exact c4
      · have z' : oC.data = .cell v := z
        rw [dC] at z'
        cases z'
  show wpAny _ X.A (assign (.Name x px) X.env (.ref Dd)) _ _ _
  refine wpAny_assign_Name (store_ok (Q := fun _ s'' => ∃ m, s''.heap.Ns C m ∧ ∀ h', Heap.SameBut C s''.heap h' → SP X pins D .next { s'' with heap := h' }) J' hN hix hx (v := .ref Dd) (u := .ref Dd) rfl (fun s'' K' => ?_) hf)
  obtain ⟨e2, n2, _, _, _⟩ := K'.pin (C, oC) (List.mem_append_right _ (List.mem_append_right _ List.mem_cons_self))
  dsimp only at e2 n2
  refine ⟨m, ⟨oC, es, ep, e2, dC, rC⟩, fun h' hsb => ⟨_, _, K'.unpinned.turned (it := C) (t' := s''.toks) (fun b o hb e => (hsb.2 b hb).trans e) n2 c1 (.inr c5) c6 c7, q⟩⟩
end
end L2

set_option Elab.async false
set_option linter.all false
set_option maxRecDepth 100000
set_option maxHeartbeats 4000000

namespace L2
open PySem PySem.Spec PyProof.Rows

mutual
def Dp (K : PySem.W.Frag) (H : Hp) : PyData → V → Prop
  | .none, v => v = .non
  | .bool b, v => v = .bl b
  | .int i, v => v = .int i
  | .str x, v => v = .str x
  | .list ds, v => ∃ a xs, v = .ref a ∧ SqL K H a xs ∧ DpAll K H ds xs
  | .tuple ds, v => ∃ a xs, v = .ref a ∧ SqT K H a xs ∧ DpAll K H ds xs
  | .dict _, _ => False
def DpAll (K : PySem.W.Frag) (H : Hp) : List PyData → List V → Prop
  | [], vs => vs = []
  | d :: ds, vs => ∃ v r, vs = v :: r ∧ Dp K H d v ∧ DpAll K H ds r
end
theorem Same.seqT {K : PySem.W.Frag} {H H' : Hp} {a : Addr} {xs : List V} (e : Same H H') (h : SqT K H a xs) : SqT K H' a xs := by
  rcases h with (h | ⟨o, h⟩) | h
  · exact .inl (.inl (e _ _ h))
  · exact .inl (.inr ⟨o, e _ _ h⟩)
  · exact .inr h
mutual
theorem Dp.mono {K : PySem.W.Frag} {H H' : Hp} (e : Same H H') : ∀ {d : PyData} {v : V}, Dp K H d v → Dp K H' d v
  | .none, _, h => h
  | .bool _, _, h => h
  | .int _, _, h => h
  | .str _, _, h => h
  | .list ds, _, h => by
    unfold Dp at h ⊢
    obtain ⟨a, xs, r, q, t⟩ := h
    exact ⟨a, xs, r, e.seq q, DpAll.mono e t⟩
  | .tuple ds, _, h => by
    unfold Dp at h ⊢
    obtain ⟨a, xs, r, q, t⟩ := h
    exact ⟨a, xs, r, e.seqT q, DpAll.mono e t⟩
  | .dict _, _, h => by unfold Dp at h; exact h.elim
theorem DpAll.mono {K : PySem.W.Frag} {H H' : Hp} (e : Same H H') : ∀ {ds : List PyData} {vs : List V}, DpAll K H ds vs → DpAll K H' ds vs
  | [], _, h => h
  | _ :: _, _, h => by
    unfold DpAll at h ⊢
    obtain ⟨v, r, q, a, t⟩ := h
    exact ⟨v, r, q, Dp.mono e a, DpAll.mono e t⟩
end
theorem DpAll.length {K : PySem.W.Frag} {H : Hp} : ∀ {ds : List PyData} {vs : List V}, DpAll K H ds vs → vs.length = ds.length
  | [], _, h => by unfold DpAll at h; subst h; rfl
  | _ :: _, _, h => by
    unfold DpAll at h
    obtain ⟨v, r, q, a, t⟩ := h
    subst q
    rw [List.length_cons, List.length_cons, DpAll.length t]
theorem DpAll.get {K : PySem.W.Frag} {H : Hp} : ∀ {ds : List PyData} {vs : List V} {i : Nat} {d : PyData}, DpAll K H ds vs → ds[i]? = some d → ∃ v, vs[i]? = some v ∧ Dp K H d v
  | [], _, _, _, _, e => by simp at e
  | _ :: _, _, 0, _, h, e => by
    unfold DpAll at h
    obtain ⟨v, r, q, a, t⟩ := h
    subst q
    simp at e
    subst e
    exact ⟨v, rfl, a⟩
  | _ :: _, _, i + 1, _, h, e => by
    unfold DpAll at h
    obtain ⟨v, r, q, a, t⟩ := h
    subst q
    simp at e
    obtain ⟨u, h1, h2⟩ := DpAll.get t e
    exact ⟨u, by simpa using h1, h2⟩
theorem DpAll.of_get {K : PySem.W.Frag} {H : Hp} {ds : List PyData} {vs : List V} {i : Nat} {v : V} (h : DpAll K H ds vs) (e : vs[i]? = some v) : ∃ d, ds[i]? = some d ∧ Dp K H d v := by
  have hi : i < ds.length := by rw [← h.length]; exact (List.getElem?_eq_some_iff.mp e).1
  obtain ⟨u, h1, h2⟩ := h.get (List.getElem?_eq_getElem hi)
  rw [e] at h1
  cases h1
  exact ⟨_, List.getElem?_eq_getElem hi, h2⟩
theorem DpAll.nil {K : PySem.W.Frag} {H : Hp} : DpAll K H [] [] := by unfold DpAll; rfl
theorem DpAll.cons {K : PySem.W.Frag} {H : Hp} {d : PyData} {ds : List PyData} {v : V} {vs : List V} (a : Dp K H d v) (t : DpAll K H ds vs) : DpAll K H (d :: ds) (v :: vs) := by unfold DpAll; exact ⟨v, vs, rfl, a, t⟩
theorem DpAll.one {K : PySem.W.Frag} {H : Hp} {d : PyData} {v : V} (a : Dp K H d v) : DpAll K H [d] [v] := .cons a .nil
theorem DpAll.two {K : PySem.W.Frag} {H : Hp} {d e : PyData} {v u : V} (a : Dp K H d v) (b : Dp K H e u) : DpAll K H [d, e] [v, u] := .cons a (.cons b .nil)
theorem DpAll.ints {K : PySem.W.Frag} {H : Hp} : ∀ (ns : List Int), DpAll K H (ns.map PyData.int) (ns.map V.int)
  | [] => .nil
  | n :: r => .cons (by unfold Dp; rfl) (DpAll.ints r)
theorem dp_int {K : PySem.W.Frag} {H : Hp} (i : Int) : Dp K H (.int i) (.int i) := by unfold Dp; rfl
theorem dp_str {K : PySem.W.Frag} {H : Hp} (i : Str) : Dp K H (.str i) (.str i) := by unfold Dp; rfl
theorem dp_bl {K : PySem.W.Frag} {H : Hp} (i : Bool) : Dp K H (.bool i) (.bl i) := by unfold Dp; rfl
theorem dp_lst {K : PySem.W.Frag} {H : Hp} {a : Addr} {xs : List V} {ds : List PyData} (h : SqL K H a xs) (t : DpAll K H ds xs) : Dp K H (.list ds) (.ref a) := by unfold Dp; exact ⟨a, xs, rfl, h, t⟩
theorem dp_tup {K : PySem.W.Frag} {H : Hp} {a : Addr} {xs : List V} {ds : List PyData} (h : SqT K H a xs) (t : DpAll K H ds xs) : Dp K H (.tuple ds) (.ref a) := by unfold Dp; exact ⟨a, xs, rfl, h, t⟩
theorem Dp.asT {K : PySem.W.Frag} {H : Hp} {v : V} {ds : List PyData} (h : Dp K H (.tuple ds) v) : ∃ a xs, v = .ref a ∧ SqT K H a xs ∧ DpAll K H ds xs := by unfold Dp at h; exact h
theorem Dp.asI {K : PySem.W.Frag} {H : Hp} {v : V} {i : Int} (h : Dp K H (.int i) v) : v = .int i := by unfold Dp at h; exact h
theorem Dp.asS {K : PySem.W.Frag} {H : Hp} {v : V} {i : Str} (h : Dp K H (.str i) v) : v = .str i := by unfold Dp at h; exact h
section
variable {X : Cx} {pins : List (Addr × Obj)} {σ : St} {H : Hp} {s : Shared}
mutual
theorem Inv.reads (I : Inv X pins σ H s) : ∀ {d : PyData} {v : V} {u : Value}, Dp X.K H d v → RelV v u → ∃ as, Reads s.heap u d as
  | .none, _, _, h, r => by unfold Dp at h; subst h; cases (show _ = Value.none from r); exact ⟨_, .none⟩
  | .bool b, _, _, h, r => by unfold Dp at h; subst h; cases (show _ = Value.bool b from r); exact ⟨_, .bool b⟩
  | .int i, _, _, h, r => by unfold Dp at h; subst h; obtain ⟨t, q⟩ := (show ∃ t, _ = Value.int i t from r); subst q; exact ⟨_, .int i t⟩
  | .str x, _, _, h, r => by unfold Dp at h; subst h; obtain ⟨t, q⟩ := (show ∃ t, _ = Value.str x t from r); subst q; exact ⟨_, .str x t⟩
  | .list ds, _, _, h, r => by
    unfold Dp at h
    obtain ⟨a, xs, q, sq, t⟩ := h
    subst q
    cases (show _ = Value.ref a from r)
    obtain ⟨its, rv, pl, _⟩ := I.list sq
    obtain ⟨as, ra⟩ := Inv.readsAll I t rv
    obtain ⟨o, n, e1, e2, _, e3⟩ := pl
    exact ⟨_, .list e1 e2 e3 (by simpa using ra)⟩
  | .tuple ds, _, _, h, r => by
    unfold Dp at h
    obtain ⟨a, xs, q, sq, t⟩ := h
    subst q
    cases (show _ = Value.ref a from r)
    obtain ⟨its, rv, pl, _⟩ := I.tuple sq
    obtain ⟨as, ra⟩ := Inv.readsAll I t rv
    obtain ⟨o, e1, e2, n, e3⟩ := pl
    exact ⟨_, .tuple e1 e2 e3 (by simpa using ra)⟩
  | .dict _, _, _, h, _ => by unfold Dp at h; exact h.elim
theorem Inv.readsAll (I : Inv X pins σ H s) : ∀ {ds : List PyData} {vs : List V} {us : List Value}, DpAll X.K H ds vs → Vals vs us → ∃ as, ReadsAll s.heap us ds as
  | [], _, _, h, r => by unfold DpAll at h; subst h; cases r; exact ⟨_, .nil⟩
  | _ :: _, _, _, h, r => by
    unfold DpAll at h
    obtain ⟨v, q, e, a, t⟩ := h
    subst e
    cases r with
    | cons r1 r2 =>
      obtain ⟨as, h1⟩ := Inv.reads I a r1
      obtain ⟨bs, h2⟩ := Inv.readsAll I t r2
      exact ⟨_, .cons h1 h2⟩
end
/-- == and != of data -/
def rEqD (K : PySem.W.Frag) : R2 := fun x y H Q => ∃ d e, Dp K H d x ∧ Dp K H e y ∧ d.canLay0 = true ∧ e.canLay0 = true ∧ d.depth ≤ 64 ∧ Q (.bl (PyData.eqv d e)) H
def rNeD (K : PySem.W.Frag) : R2 := fun x y H Q => ∃ d e, Dp K H d x ∧ Dp K H e y ∧ d.canLay0 = true ∧ e.canLay0 = true ∧ d.depth ≤ 64 ∧ Q (.bl (!PyData.eqv d e)) H
theorem op_eqD (hu : X.A.units + 64 < cLine) : OpR X (compareOp .Eq) (rEqD X.K) := by
  intro pins s σ H x y v u Q I rx ry h
  obtain ⟨d, e, h1, h2, c1, c2, dp, q⟩ := h
  obtain ⟨as, ra⟩ := I.reads h1 rx
  obtain ⟨bs, rb⟩ := I.reads h2 ry
  exact SeqAt.compareEq_reads ra rb c1 c2 (by omega) ⟨.bl _, H, I, rfl, q⟩
theorem op_neD (hu : X.A.units + 64 < cLine) : OpR X (compareOp .NotEq) (rNeD X.K) := by
  intro pins s σ H x y v u Q I rx ry h
  obtain ⟨d, e, h1, h2, c1, c2, dp, q⟩ := h
  obtain ⟨as, ra⟩ := I.reads h1 rx
  obtain ⟨bs, rb⟩ := I.reads h2 ry
  exact SeqAt.compareNe_reads ra rb c1 c2 (by omega) ⟨.bl _, H, I, rfl, q⟩
end
end L2

set_option Elab.async false
set_option linter.all false
set_option maxRecDepth 100000
set_option maxHeartbeats 4000000

namespace L2
open PySem PySem.Spec PyProof.Rows

section
variable {X : Cx} {x : Str} {pos : Pos}
theorem pe_gstr {y : Str} (hg : Gl X x) (h : ∃ t, X.mg x = some (.str y t)) (hd : (x == ("__debug__" : Str)) = false := by decide) : PE X (.Name x pos) (tC (.str y)) := by
  obtain ⟨t, e⟩ := h
  exact pe_glob hg e ⟨t, rfl⟩ hd
theorem pe_gint {y : Int} (hg : Gl X x) (h : ∃ t, X.mg x = some (.int y t)) (hd : (x == ("__debug__" : Str)) = false := by decide) : PE X (.Name x pos) (tC (.int y)) := by
  obtain ⟨t, e⟩ := h
  exact pe_glob hg e ⟨t, rfl⟩ hd
theorem pe_bty {n : String} (hg : Gl X x) (hm : X.mg x = none) (hv : bootBuiltins x = some (.type n)) (hn : x ≠ "__name__" := by decide) (hd : (x == ("__debug__" : Str)) = false := by decide) : PE X (.Name x pos) (tC (.ty n)) := pe_bltn hg hm hv rfl hn hd
end

structure Fn (P : Program) (w : World) (K : PySem.W.Frag) (mg : Str → Option Value) (base : Heap) (CX : CXT) (x : Str) (k : Nat) (ps : List Str) (sp : Sp) : Prop where
  ex : ∃ f fd, FnOk P w K mg base CX k f fd ps sp ∧ Binds K fd ps [] ∧ PySem.W.keepIn K (.ref f) = true ∧ mg x = some (.ref f)
structure Mt (P : Program) (w : World) (K : PySem.W.Frag) (mg : Str → Option Value) (base : Heap) (CX : CXT) (C : Addr) (m : Str) (k : Nat) (ps : List Str) (sp : Sp) : Prop where
  cl : Cls K C
  ex : ∃ f fd, FnOk P w K mg base CX k f fd ps sp ∧ Binds K fd ps [] ∧ Meth K C m f
structure Kl (P : Program) (w : World) (K : PySem.W.Frag) (mg : Str → Option Value) (base : Heap) (CX : CXT) (x : Str) (C : Addr) (k : Nat) (ps : List Str) (sp : Sp) : Prop where
  mgC : mg x = some (.ref C)
  ex : ∃ f fd, FnOk P w K mg base CX k f fd ps sp ∧ Binds K fd ps [] ∧ Mk K C f
section
variable {X : Cx} {CX : CXT} {k : Nat} {ps : List Str} {sp : Sp} {E : XK} {x m : Str} {C : Addr} {p pos apos : Pos} {e o : Expr} {es : List Expr} {ta : TE} {t : TA}
theorem pe_fn (F : Fn X.prog X.w X.K X.mg X.base CX x k ps sp) (hr : Room k X.A) (hg : Gl X x) (hx : Passes CX X E) (ha : PA X (e :: es) t) (hdb : (x == ("__debug__" : Str)) = false := by decide) (he : starEach (e :: es) X.env = (false, eval e X.env) :: starEach es X.env := by rfl) (hpl : (backTo pos (starEach es X.env)).any (·.1) = false := by rfl) :
    PE X (.Call (.Name x p) (e :: es) [] pos) (tCall sp [] E t) := by
  obtain ⟨f, fd, h1, h2, h3, h4⟩ := F.ex
  exact pe_call h1 hr hg h4 h3 h2 .nil hx ha hdb he hpl
theorem pe_mt {pl : Sem Bool} (F : Mt X.prog X.w X.K X.mg X.base CX C m k ps sp) (hr : Room k X.A) (hx : Passes CX X E) (he : PE X o ta) (ha : PA X (e :: es) t)
    (hst : starEach (e :: es) X.env = (false, eval e X.env) :: starEach es X.env := by rfl) (hpl : (backTo pos (starEach es X.env)).any (·.1) = false := by rfl)
    (ht : eval (.Call (.Attribute o m apos) (e :: es) [] pos) X.env = (do
      let ov ← eval o X.env
      standAt apos.atName
      let (f, first) ← holding [ov] (getMethod ov m pl)
      callWith pos f first (backTo pos (starEach (e :: es) X.env)) (backToKw pos (keywordEach [] X.env))) := by rfl) :
    PE X (.Call (.Attribute o m apos) (e :: es) [] pos) (tMeth C m sp [] E ta t) := by
  obtain ⟨f, fd, h1, h2, h3⟩ := F.ex
  exact pe_meth he F.cl h3 h1 hr h2 .nil hx ha hst hpl ht
theorem pe_mt0 {pl : Sem Bool} (F : Mt X.prog X.w X.K X.mg X.base CX C m k ps sp) (hr : Room k X.A) (hx : Passes CX X E) (he : PE X o ta)
    (ht : eval (.Call (.Attribute o m apos) [] [] pos) X.env = (do
      let ov ← eval o X.env
      standAt apos.atName
      let (f, first) ← holding [ov] (getMethod ov m pl)
      callWith pos f first (backTo pos (starEach [] X.env)) (backToKw pos (keywordEach [] X.env))) := by rfl) :
    PE X (.Call (.Attribute o m apos) [] [] pos) (tMeth C m sp [] E ta tNil) := by
  obtain ⟨f, fd, h1, h2, h3⟩ := F.ex
  exact pe_meth0 he F.cl h3 h1 hr h2 .nil hx ht
theorem pe_mk (F : Kl X.prog X.w X.K X.mg X.base CX x C k ps sp) (hr : Room (k + 1) X.A) (hg : Gl X x) (hx : Passes CX X E) (ha : PA X (e :: es) t) (hdb : (x == ("__debug__" : Str)) = false := by decide) (he : starEach (e :: es) X.env = (false, eval e X.env) :: starEach es X.env := by rfl) (hpl : (backTo pos (starEach es X.env)).any (·.1) = false := by rfl) :
    PE X (.Call (.Name x p) (e :: es) [] pos) (tMake C sp [] E t) := by
  obtain ⟨f, fd, h1, h2, h3⟩ := F.ex
  exact pe_make h3 h1 hr hg F.mgC h2 .nil hx ha hdb he hpl
end

def isCls : V → Bool
  | .ty _ => true
  | .ref _ => true
  | _ => false
def cval : V → Value
  | .ty n => .type n
  | .ref a => .ref a
  | _ => .none
section
variable {X : Cx}
theorem call_isinst : CallR X (.builtin "isinstance") (fun xs H Q => ∃ x c ty b, xs = [x, c] ∧ isCls c = true ∧ TyOf X.K H x ty ∧ PySem.W.kitOne X.K ty (cval c) = some b ∧ Q (.bl b) H) := by
  intro pins s σ H xs us Q I r h
  obtain ⟨x, c, ty, b, rfl, hc, hty, e, q⟩ := h
  obtain ⟨u, w', rfl, r1, r2⟩ := vals2 r
  have e2 : w' = cval c := by
    cases c <;> first | (cases hc; done) | exact r2
  subst e2
  exact isinst_ok I r1 hty e fun tk => ⟨.bl b, H, I.tok tk, rfl, q⟩
end

theorem tVar_0 {v : V} {σ : St} {H : Hp} {Q : VK} : tVar 0 (some v :: σ) H Q = Q v H := by
  apply propext; unfold tVar; simp
theorem tVar_s {i : Nat} {a : Option V} {σ : St} {H : Hp} {Q : VK} : tVar (i + 1) (a :: σ) H Q = tVar i σ H Q := by
  apply propext; unfold tVar; simp
theorem rI0_int {g : Int → Int → V} {i j : Int} {H : Hp} {Q : VK} : rI0 g (.int i) (.int j) H Q = Q (g i j) H := by
  apply propext; unfold rI0; simp
theorem rI_int {C : Int → Int → Prop} {g : Int → Int → V} {i j : Int} {H : Hp} {Q : VK} : rI C g (.int i) (.int j) H Q = (C i j ∧ Q (g i j) H) := by
  apply propext; unfold rI; simp
theorem rU_int {g : Int → V} {i : Int} {H : Hp} {Q : VK} : rU g (.int i) H Q = Q (g i) H := by
  apply propext; unfold rU; simp
theorem rEq_int {i j : Int} {H : Hp} {Q : VK} : rEq (.int i) (.int j) H Q = Q (.bl (decide (i = j))) H := by
  apply propext; unfold rEq; simp [scal]
theorem rNe_int {i j : Int} {H : Hp} {Q : VK} : rNe (.int i) (.int j) H Q = Q (.bl (!decide (i = j))) H := by
  apply propext; unfold rNe; simp [scal]
theorem rEq_bl {i j : Bool} {H : Hp} {Q : VK} : rEq (.bl i) (.bl j) H Q = Q (.bl (decide (i = j))) H := by
  apply propext; unfold rEq; simp [scal]
theorem rNe_bl {i j : Bool} {H : Hp} {Q : VK} : rNe (.bl i) (.bl j) H Q = Q (.bl (!decide (i = j))) H := by
  apply propext; unfold rNe; simp [scal]
theorem rEq_str {i j : Str} {H : Hp} {Q : VK} : rEq (.str i) (.str j) H Q = Q (.bl (decide (i = j))) H := by
  apply propext; unfold rEq; simp [scal]
theorem rNe_str {i j : Str} {H : Hp} {Q : VK} : rNe (.str i) (.str j) H Q = Q (.bl (!decide (i = j))) H := by
  apply propext; unfold rNe; simp [scal]
theorem ex_bl {c : Bool} {Q : Bool → Prop} : (∃ k, V.bl c = V.bl k ∧ Q k) = Q c := by
  apply propext; simp
theorem ex_int {c : Int} {Q : Int → Prop} : (∃ k, V.int c = V.int k ∧ Q k) = Q c := by
  apply propext; simp
theorem le_line {n : Nat} (h : n ≤ 1000) : n ≤ sizeLine := Nat.le_of_lt (small1000 h)
theorem same_new {H : Hp} {p : Addr} (h : H p = none) (o : HO) : Same H (upd H p o) := fun b u q => by rw [upd_ne (ne_of_none q h)]; exact q
theorem upd_fresh {H : Hp} {p a : Addr} {o u : HO} (h : H p = none) (e : H a = some u) : upd H p o a = some u := by rw [upd_ne (ne_of_none e h)]; exact e
end L2

namespace L2
open PySem PySem.Spec PyProof.Rows
def getF (K : PySem.W.Frag) (f : Str) (x : V) (H : Hp) (Q : VK) : Prop := ∃ a C dx fs v, x = .ref a ∧ H a = some (.ins C dx fs) ∧ Cls K C ∧ NoAttr K C f ∧ fs.lookup f = some v ∧ Q v H
theorem tFld_eq {K : PySem.W.Frag} {ta : TE} {f : Str} {σ : St} {H : Hp} {Q : VK} : tFld K ta f σ H Q = ta σ H (fun x H1 => getF K f x H1 Q) := rfl
theorem getF_of {K : PySem.W.Frag} {f : Str} {a C dx : Addr} {fs : List (Str × V)} {v : V} {H : Hp} {Q : VK} (h : H a = some (.ins C dx fs)) (cl : Cls K C) (n : NoAttr K C f) (l : fs.lookup f = some v) (q : Q v H) : getF K f (.ref a) H Q := ⟨a, C, dx, fs, v, rfl, h, cl, n, l, q⟩
def setF (K : PySem.W.Frag) (f : Str) (x y : V) (H : Hp) (Q : Hp → Prop) : Prop := ∃ a C dx fs, x = .ref a ∧ H a = some (.ins C dx fs) ∧ Cls K C ∧ NoAttr K C f ∧ fs.length < 1000 ∧ Q (upd H a (.ins C dx (putF f y fs)))
theorem sFld_eq {K : PySem.W.Frag} {ta tv : TE} {f : Str} {D : Ends} {σ : St} {H : Hp} : sFld K ta tv f D σ H = tv σ H (fun y H1 => ta σ H1 fun x H2 => setF K f x y H2 (D.nx σ)) := rfl
theorem setF_of {K : PySem.W.Frag} {f : Str} {a C dx : Addr} {fs : List (Str × V)} {y : V} {H : Hp} {Q : Hp → Prop} (h : H a = some (.ins C dx fs)) (cl : Cls K C) (n : NoAttr K C f) (l : fs.length < 1000) (q : Q (upd H a (.ins C dx (putF f y fs)))) : setF K f (.ref a) y H Q := ⟨a, C, dx, fs, rfl, h, cl, n, l, q⟩
theorem ixL_of {K : PySem.W.Frag} {p : Addr} {xs : List V} {i : Int} {v : V} {H : Hp} {Q : VK} (h : SqL K H p xs) (e : atI xs i = some v) (q : Q v H) : rIxL K (.ref p) (.int i) H Q := ⟨p, xs, i, v, rfl, rfl, h, e, q⟩
theorem ixT_of {K : PySem.W.Frag} {p : Addr} {xs : List V} {i : Int} {v : V} {H : Hp} {Q : VK} (h : SqT K H p xs) (e : atI xs i = some v) (q : Q v H) : rIxT K (.ref p) (.int i) H Q := ⟨p, xs, i, v, rfl, rfl, h, e, q⟩
theorem atI_of {α : Type} {xs : List α} {i : Int} {v : α} (h0 : 0 ≤ i) (h : xs[i.toNat]? = some v) : atI xs i = some v := by
  have q := atI_nat h
  rwa [Int.toNat_of_nonneg h0] at q
theorem atI_ints {xs : List Int} {i : Int} {v : Int} (h0 : 0 ≤ i) (h : xs[i.toNat]? = some v) : atI (xs.map V.int) i = some (.int v) := atI_of h0 (by rw [List.getElem?_map, h]; rfl)
def Nxt (P : Nat → List V → St → Hp → Prop) (n i : Nat) (ys : List V) (σ : St) (H : Hp) : Prop := ∃ m', m' < n - i ∧ m' = n - (i + 1) ∧ i + 1 ≤ n ∧ P (i + 1) ys σ H
theorem Nxt.of {P : Nat → List V → St → Hp → Prop} {n i : Nat} {ys : List V} {σ : St} {H : Hp} (h : i < n) (p : P (i + 1) ys σ H) : Nxt P n i ys σ H := ⟨n - (i + 1), by omega, rfl, h, p⟩
/-- over a list: P i ys σ H says what holds when i items are taken -/
theorem comp_list {K : PySem.W.Frag} {a : Addr} {xs : List V} {g : TG} {tt : TT} {te : TE} {Q : VK} {σ0 : St} {H : Hp} (P : Nat → List V → St → Hp → Prop) (h0 : P 0 [] σ0 H) (hl : ∀ i ys σ H, i ≤ xs.length → P i ys σ H → SqL K H a xs ∧ ys.length ≤ i) (hz : xs.length ≤ sizeLine)
    (hs : ∀ i ys x σ H, i < xs.length → xs[i]? = some x → P i ys σ H → g x σ H fun σ2 H2 => tt σ2 H2 fun b H3 => if b = true then te σ2 H3 fun y H4 => Nxt P xs.length i (ys ++ [y]) σ2 H4 else Nxt P xs.length i ys σ2 H3)
    (hd : ∀ ys σ H, P xs.length ys σ H → ∀ p, H p = none → Q (.ref p) (upd H p (.lst ys))) :
    ∃ W : Nat → Nat → List V → St → Hp → Prop, (∃ m, W 0 m [] σ0 H) ∧ ∀ i m ys σ H, W i m ys σ H →
      ((Itl K a).stop i H ∧ ys.length ≤ sizeLine ∧ ∀ p, H p = none → Q (.ref p) (upd H p (.lst ys))) ∨
      ((Itl K a).go i H ∧ ys.length < sizeLine ∧ ∀ x H', (Itl K a).yld i H x H' → g x σ H' fun σ2 H2 => tt σ2 H2 fun b H3 => if b = true then te σ2 H3 fun y H4 => ∃ m', m' < m ∧ W (i + 1) m' (ys ++ [y]) σ2 H4 else ∃ m', m' < m ∧ W (i + 1) m' ys σ2 H3) := by
  refine ⟨fun i m ys σ H => m = xs.length - i ∧ i ≤ xs.length ∧ P i ys σ H, ⟨xs.length, by simp, Nat.zero_le _, h0⟩, ?_⟩
  rintro i m ys σ H ⟨rfl, hi, p⟩
  obtain ⟨q, ly⟩ := hl i ys σ H hi p
  by_cases hlt : i < xs.length
  · refine .inr ⟨⟨xs, xs[i], q, by simp [hlt]⟩, by omega, fun x H' y => ?_⟩
    obtain ⟨e, y⟩ := y
    subst e
    exact hs i ys x σ _ hlt (y xs q) p
  · have e : i = xs.length := by omega
    subst e
    exact .inl ⟨⟨xs, q, Nat.le_refl _⟩, by omega, hd ys σ H p⟩
/-- over a range -/
theorem comp_range {lo : Int} {n : Nat} {g : TG} {tt : TT} {te : TE} {Q : VK} {σ0 : St} {H : Hp} (P : Nat → List V → St → Hp → Prop) (h0 : P 0 [] σ0 H) (hl : ∀ i ys σ H, P i ys σ H → ys.length ≤ i) (hz : n ≤ sizeLine)
    (hs : ∀ i ys σ H, i < n → P i ys σ H → g (.int (lo + i)) σ H fun σ2 H2 => tt σ2 H2 fun b H3 => if b = true then te σ2 H3 fun y H4 => Nxt P n i (ys ++ [y]) σ2 H4 else Nxt P n i ys σ2 H3)
    (hd : ∀ ys σ H, P n ys σ H → ∀ p, H p = none → Q (.ref p) (upd H p (.lst ys))) :
    ∃ W : Nat → Nat → List V → St → Hp → Prop, (∃ m, W 0 m [] σ0 H) ∧ ∀ i m ys σ H, W i m ys σ H →
      ((Itr lo n).stop i H ∧ ys.length ≤ sizeLine ∧ ∀ p, H p = none → Q (.ref p) (upd H p (.lst ys))) ∨
      ((Itr lo n).go i H ∧ ys.length < sizeLine ∧ ∀ x H', (Itr lo n).yld i H x H' → g x σ H' fun σ2 H2 => tt σ2 H2 fun b H3 => if b = true then te σ2 H3 fun y H4 => ∃ m', m' < m ∧ W (i + 1) m' (ys ++ [y]) σ2 H4 else ∃ m', m' < m ∧ W (i + 1) m' ys σ2 H3) := by
  refine ⟨fun i m ys σ H => m = n - i ∧ i ≤ n ∧ P i ys σ H, ⟨n, by simp, Nat.zero_le _, h0⟩, ?_⟩
  rintro i m ys σ H ⟨rfl, hi, p⟩
  have ly := hl i ys σ H p
  by_cases hlt : i < n
  · refine .inr ⟨hlt, by omega, fun x H' y => ?_⟩
    obtain ⟨e, y⟩ := y
    subst e y
    exact hs i ys σ _ hlt p
  · have e : i = n := by omega
    subst e
    exact .inl ⟨Nat.le_refl _, by omega, hd ys σ H p⟩
theorem Same.upd {H H' : Hp} {p : Addr} {o : HO} (e : Same H H') (h : H p = none) : Same H (upd H' p o) := fun b u q => by rw [upd_ne (ne_of_none q h)]; exact e b u q
theorem Same.new {H H' : Hp} {p : Addr} {o : HO} (e : Same H H') (h : H' p = none) : Same H (L2.upd H' p o) := e.upd (e.free h)
theorem kit_same {K : PySem.W.Frag} {t : Value} (h : (t == t) = true) : PySem.W.kitOne K t t = some true := by unfold PySem.W.kitOne; rw [if_pos h]
theorem cutV_ints (ns : List Int) (lo hi : Option Int) : cutV (ns.map V.int) lo hi = (((ns.drop (HT.sIx ns.length 0 lo)).take (HT.sIx ns.length ns.length hi - HT.sIx ns.length 0 lo)).map V.int) := by
  unfold cutV
  rw [List.length_map, List.map_take, List.map_drop]
theorem get_ints {ns : List Int} {i : Nat} {x : V} (h : (ns.map V.int)[i]? = some x) : ∃ n, ns[i]? = some n ∧ x = .int n := by
  rw [List.getElem?_map] at h
  cases e : ns[i]? with
  | none => rw [e] at h; cases h
  | some n => rw [e] at h; exact ⟨n, rfl, (Option.some.inj h).symm⟩
theorem ixN_of {n : Nat} {i : Int} (h0 : 0 ≤ i) (h : i < n) : ixN n i = some i.toNat := by unfold ixN; rw [if_pos h0, if_pos h]
theorem slL_of {K : PySem.W.Frag} {a : Addr} {xs : List V} {lo hi : Option Int} {H : Hp} {Q : VK} (h : SqL K H a xs) (q : ∀ p, H p = none → Q (.ref p) (upd H p (.lst (cutV xs lo hi)))) : rSlL K (.ref a) lo hi H Q := ⟨a, xs, rfl, h, q⟩
def forL (K : PySem.W.Frag) (g : TG) (tb : TS) (D : Ends) (σ : St) (x : V) (H1 : Hp) : Prop := ∃ a, x = .ref a ∧ (∃ xs, SqL K H1 a xs) ∧ ∃ W : Nat → Nat → St → Hp → Prop, (∃ m, W 0 m σ H1) ∧ ∀ i m σ H, W i m σ H →
  ((Itl K a).stop i H ∧ D.nx σ H) ∨ ((Itl K a).go i H ∧ ∃ N : St → Hp → Prop, (∀ σ' H', N σ' H' → ∃ m', m' < m ∧ W (i + 1) m' σ' H') ∧ ∀ x H', (Itl K a).yld i H x H' → g x σ H' fun σ2 H2 => tb { D with nx := N, ct := N, bk := D.nx } σ2 H2)
theorem tForL_eq {K : PySem.W.Frag} {tl : TE} {g : TG} {tb : TS} {D : Ends} {σ : St} {H : Hp} : tFor (iList K tl) g tb D σ H = tl σ H (fun x H1 => forL K g tb D σ x H1) := rfl
theorem forL_of {K : PySem.W.Frag} {g : TG} {tb : TS} {D : Ends} {σ : St} {H : Hp} {a : Addr} {xs : List V} (h : SqL K H a xs) (Pv : Nat → St → Hp → Prop) (h0 : Pv 0 σ H) (hl : ∀ i σ H, i ≤ xs.length → Pv i σ H → SqL K H a xs)
    (hs : ∀ i x σ H, xs[i]? = some x → Pv i σ H → g x σ H fun σ2 H2 => tb { D with nx := Pv (i + 1), ct := Pv (i + 1), bk := D.nx } σ2 H2) (hd : ∀ σ H, Pv xs.length σ H → D.nx σ H) : forL K g tb D σ (.ref a) H :=
  ⟨a, rfl, ⟨xs, h⟩, for_list Pv h0 hl hs hd⟩
def forR (lo : Int) (g : TG) (tb : TS) (D : Ends) (σ : St) (n : Nat) (H1 : Hp) : Prop := ∃ W : Nat → Nat → St → Hp → Prop, (∃ m, W 0 m σ H1) ∧ ∀ i m σ H, W i m σ H →
  ((Itr lo n).stop i H ∧ D.nx σ H) ∨ ((Itr lo n).go i H ∧ ∃ N : St → Hp → Prop, (∀ σ' H', N σ' H' → ∃ m', m' < m ∧ W (i + 1) m' σ' H') ∧ ∀ x H', (Itr lo n).yld i H x H' → g x σ H' fun σ2 H2 => tb { D with nx := N, ct := N, bk := D.nx } σ2 H2)
def forR1 (g : TG) (tb : TS) (D : Ends) (σ : St) (x : V) (H1 : Hp) : Prop := ∃ j : Int, [x] = [.int j] ∧ -(2 ^ 62) ≤ j ∧ j < 2 ^ 62 ∧ forR 0 g tb D σ j.toNat H1
def forR2 (g : TG) (tb : TS) (D : Ends) (σ : St) (x y : V) (H1 : Hp) : Prop := ∃ i j : Int, [x, y] = [.int i, .int j] ∧ (-(2 ^ 62) ≤ i ∧ i < 2 ^ 62 ∧ -(2 ^ 62) ≤ j ∧ j < 2 ^ 62) ∧ forR i g tb D σ (j - i).toNat H1
theorem tForR1_eq {t : TE} {g : TG} {tb : TS} {D : Ends} {σ : St} {H : Hp} : tFor (iRng1 (tCons t tNil)) g tb D σ H = t σ H (fun x H1 => forR1 g tb D σ x H1) := rfl
theorem tForR2_eq {t u : TE} {g : TG} {tb : TS} {D : Ends} {σ : St} {H : Hp} : tFor (iRng2 (tCons t (tCons u tNil))) g tb D σ H = t σ H (fun x H1 => u σ H1 fun y H2 => forR2 g tb D σ x y H2) := rfl
theorem forR_of {lo : Int} {n : Nat} {g : TG} {tb : TS} {D : Ends} {σ : St} {H : Hp} (Pv : Nat → St → Hp → Prop) (h0 : Pv 0 σ H)
    (hs : ∀ i σ H, i < n → Pv i σ H → g (.int (lo + i)) σ H fun σ2 H2 => tb { D with nx := Pv (i + 1), ct := Pv (i + 1), bk := D.nx } σ2 H2) (hd : ∀ σ H, Pv n σ H → D.nx σ H) : forR lo g tb D σ n H := for_range Pv h0 hs hd
theorem forR1_of {j : Int} {g : TG} {tb : TS} {D : Ends} {σ : St} {H : Hp} (h : -1000 ≤ j ∧ j ≤ 1000) (q : forR 0 g tb D σ j.toNat H) : forR1 g tb D σ (.int j) H := ⟨j, rfl, by omega, by omega, q⟩
def compL (K : PySem.W.Frag) (g : TG) (tt : TT) (te : TE) (σ0 : St) (Q : VK) (x : V) (H1 : Hp) : Prop := ∃ a, x = .ref a ∧ (∃ xs, SqL K H1 a xs) ∧ ∃ W : Nat → Nat → List V → St → Hp → Prop, (∃ m, W 0 m [] σ0 H1) ∧ ∀ i m ys σ H, W i m ys σ H →
  ((Itl K a).stop i H ∧ ys.length ≤ sizeLine ∧ ∀ p, H p = none → Q (.ref p) (upd H p (.lst ys))) ∨
  ((Itl K a).go i H ∧ ys.length < sizeLine ∧ ∀ x H', (Itl K a).yld i H x H' → g x σ H' fun σ2 H2 => tt σ2 H2 fun b H3 => if b = true then te σ2 H3 fun y H4 => ∃ m', m' < m ∧ W (i + 1) m' (ys ++ [y]) σ2 H4 else ∃ m', m' < m ∧ W (i + 1) m' ys σ2 H3)
theorem tCompL_eq {k : Nat} {js : List Nat} {K : PySem.W.Frag} {tl : TE} {g : TG} {tt : TT} {te : TE} {σ : St} {H : Hp} {Q : VK} : tComp k js (iList K tl) g tt te σ H Q = tl σ H (fun x H1 => compL K g tt te (up k js σ) Q x H1) := rfl
theorem compL_of {K : PySem.W.Frag} {a : Addr} {xs : List V} {g : TG} {tt : TT} {te : TE} {Q : VK} {σ0 : St} {H : Hp} (h : SqL K H a xs) (hz : xs.length ≤ 1000) (P : Nat → List V → St → Hp → Prop) (h0 : P 0 [] σ0 H) (hl : ∀ i ys σ H, i ≤ xs.length → P i ys σ H → SqL K H a xs ∧ ys.length ≤ i)
    (hs : ∀ i ys x σ H, i < xs.length → xs[i]? = some x → P i ys σ H → g x σ H fun σ2 H2 => tt σ2 H2 fun b H3 => if b = true then te σ2 H3 fun y H4 => Nxt P xs.length i (ys ++ [y]) σ2 H4 else Nxt P xs.length i ys σ2 H3)
    (hd : ∀ ys σ H, P xs.length ys σ H → ∀ p, H p = none → Q (.ref p) (upd H p (.lst ys))) : compL K g tt te σ0 Q (.ref a) H := ⟨a, rfl, ⟨xs, h⟩, comp_list P h0 hl (le_line hz) hs hd⟩
def compR (lo : Int) (g : TG) (tt : TT) (te : TE) (σ0 : St) (Q : VK) (n : Nat) (H1 : Hp) : Prop := ∃ W : Nat → Nat → List V → St → Hp → Prop, (∃ m, W 0 m [] σ0 H1) ∧ ∀ i m ys σ H, W i m ys σ H →
  ((Itr lo n).stop i H ∧ ys.length ≤ sizeLine ∧ ∀ p, H p = none → Q (.ref p) (upd H p (.lst ys))) ∨
  ((Itr lo n).go i H ∧ ys.length < sizeLine ∧ ∀ x H', (Itr lo n).yld i H x H' → g x σ H' fun σ2 H2 => tt σ2 H2 fun b H3 => if b = true then te σ2 H3 fun y H4 => ∃ m', m' < m ∧ W (i + 1) m' (ys ++ [y]) σ2 H4 else ∃ m', m' < m ∧ W (i + 1) m' ys σ2 H3)
def compR1 (g : TG) (tt : TT) (te : TE) (σ0 : St) (Q : VK) (x : V) (H1 : Hp) : Prop := ∃ j : Int, [x] = [.int j] ∧ -(2 ^ 62) ≤ j ∧ j < 2 ^ 62 ∧ compR 0 g tt te σ0 Q j.toNat H1
theorem tCompR1_eq {k : Nat} {js : List Nat} {t : TE} {g : TG} {tt : TT} {te : TE} {σ : St} {H : Hp} {Q : VK} : tComp k js (iRng1 (tCons t tNil)) g tt te σ H Q = t σ H (fun x H1 => compR1 g tt te (up k js σ) Q x H1) := rfl
theorem compR1_of {j : Int} {g : TG} {tt : TT} {te : TE} {Q : VK} {σ0 : St} {H : Hp} (h : -1000 ≤ j ∧ j ≤ 1000) (P : Nat → List V → St → Hp → Prop) (h0 : P 0 [] σ0 H) (hl : ∀ i ys σ H, P i ys σ H → ys.length ≤ i)
    (hs : ∀ i ys σ H, i < j.toNat → P i ys σ H → g (.int (0 + i)) σ H fun σ2 H2 => tt σ2 H2 fun b H3 => if b = true then te σ2 H3 fun y H4 => Nxt P j.toNat i (ys ++ [y]) σ2 H4 else Nxt P j.toNat i ys σ2 H3)
    (hd : ∀ ys σ H, P j.toNat ys σ H → ∀ p, H p = none → Q (.ref p) (upd H p (.lst ys))) : compR1 g tt te σ0 Q (.int j) H := ⟨j, rfl, by omega, by omega, comp_range P h0 hl (le_line (by omega)) hs hd⟩
def CDivB (i j : Int) : Prop := 0 < j ∧ j < 2 ^ 250
section
variable {X : Cx}
theorem op_fdivB : OpR X (binaryOp .FloorDiv) (rI CDivB fun i j => .int (i / j)) := opI fun i j _ _ _ _ _ hc q => by
  have h1 : (0 : Int) < j := hc.1
  have h2 : j < 2 ^ 250 := hc.2
  have h3 : j.natAbs < 2 ^ 250 := by
    have e : (j.natAbs : Int) = j := Int.natAbs_of_nonneg (by omega)
    have e2 : ((2 ^ 250 : Nat) : Int) = 2 ^ 250 := by rfl
    omega
  have h4 : j.natAbs.log2 < 250 := (Nat.log2_lt (by omega)).mpr h3
  exact floordiv_int (by omega) (by rw [Int.fdiv_eq_ediv_of_nonneg i (by omega)]; exact q) (.inl (PyProof.noPylong_of_log2 (by omega)))
end
theorem gCons_eq {t : TG} {u : TGs} {v : V} {r : List V} {σ : St} {H : Hp} {Q : St → Hp → Prop} : gCons t u (v :: r) σ H Q = t v σ H (fun σ' H' => u r σ' H' Q) := by
  apply propext; unfold gCons; constructor
  · rintro ⟨v', r', e, q⟩; cases e; exact q
  · exact fun q => ⟨v, r, rfl, q⟩
theorem gNil_eq {σ : St} {H : Hp} {Q : St → Hp → Prop} : gNil [] σ H Q = Q σ H := by
  apply propext; unfold gNil; simp
theorem gTup_of {K : PySem.W.Frag} {n : Nat} {t : TGs} {a : Addr} {xs : List V} {σ : St} {H : Hp} {Q : St → Hp → Prop} (h : SqT K H a xs) (l : xs.length = n) (q : t xs σ H Q) : gTup K n t (.ref a) σ H Q := ⟨a, xs, rfl, h, l, q⟩
section
variable {X : Cx} {tg l e o : Expr} {es : List Expr} {tl te to : TE} {t : TA} {pos apos cpos : Pos} {f : Str}
theorem ix_listK (K : PySem.W.Frag) (h : X.K = K := by rfl) : IxR X (rIxL K) := h ▸ ix_list
theorem ix_tupK (K : PySem.W.Frag) (h : X.K = K := by rfl) : IxR X (rIxT K) := h ▸ ix_tup
theorem pi_listK (K : PySem.W.Frag) (hl : PE X l tl) (h : X.K = K := by rfl) : PI X tg l (iList K tl) := h ▸ pi_list hl
theorem call_len_seqK (K : PySem.W.Frag) (h : X.K = K := by rfl) : CallR X (.builtin "len") (fun xs H Q => ∃ p ys, xs = [.ref p] ∧ (SqL K H p ys ∨ SqT K H p ys) ∧ Q (.int ys.length) H) := h ▸ call_len_seq
theorem pg_tupK (K : PySem.W.Frag) {k : Nat} {tgs : TGs} {n : Nat} (hc : X.calm = true) (hg : PGs X es tgs)
    (hn : (assignEach es X.env).length = n := by rfl) (hst : (assignEach es X.env).findIdx? (·.1) = none := by rfl) (h : X.K = K := by rfl) : PG X (.Tuple es k pos) (gTup K n tgs) := h ▸ pg_tup hc hg hn hst
end
end L2

set_option linter.all false
set_option maxRecDepth 100000
set_option maxHeartbeats 4000000
namespace L2
open PySem PySem.Spec PyProof.Rows
section
variable {X : Cx}
theorem tAug_eq {i : Nat} {te : TE} {ti : TIp} {D : Ends} {σ : St} {H : Hp} : tAug i te ti D σ H = tVar i σ H (fun x H0 => te σ H0 fun y H1 => ti x y H1 fun z H2 => D.nx (σ.set i (some z)) H2) := rfl
theorem ipI_int {f : Int → Int → Int} {i j : Int} {H : Hp} {Q : VK} : ipI f (.int i) (.int j) H Q = Q (.int (f i j)) H := by
  refine propext ⟨?_, fun q => ⟨i, j, rfl, rfl, q⟩⟩
  rintro ⟨a, b, e1, e2, q⟩
  cases e1; cases e2; exact q
theorem cx_K {CX : CXT} {P : Program} {w : World} {K : PySem.W.Frag} {mg : Str → Option Value} {base : Heap} {N : List Str} {qual : Str} {scope : Scope} {f : Addr} {cd : Value} {A : Around} {outer : List Env} {s : Shared} {H : Hp} {E : XK} : (cxOf CX P w K mg base N qual scope f cd A outer s H E).K = K := rfl
def insV (xs : List V) (i : Int) (y : V) : List V := let k := if i < 0 then (i + (xs.length : Int)).toNat else min i.toNat xs.length; xs.take k ++ y :: xs.drop k
def rInsert : V → List V → Hp → VK → Prop := fun x vs H Q => ∃ l xs i y, x = .ref l ∧ vs = [.int i, y] ∧ H l = some (.lst xs) ∧ xs.length < sizeLine ∧ (-(2 ^ 62) ≤ i ∧ i < 2 ^ 62) ∧ Q .non (upd H l (.lst (insV xs i y)))
theorem ins_arr (its : List Value) (k : Nat) (u : Value) (hk : k ≤ its.length) : (its.toArray.extract 0 k).push u ++ its.toArray.extract k = (its.take k ++ u :: its.drop k).toArray := by
  apply Array.ext'
  simp
  exact List.take_of_length_le (by rw [List.length_drop]; exact Nat.le_refl _)
theorem insV_length (xs : List V) (i : Int) (y : V) : (insV xs i y).length = xs.length + 1 := by
  unfold insV
  dsimp only
  rw [List.length_append, List.length_cons, List.length_take, List.length_drop]
  omega
theorem Vals.ins {xs : List V} {us : List Value} {y : V} {u : Value} (r : Vals xs us) (q : RelV y u) (k : Nat) : Vals (xs.take k ++ y :: xs.drop k) (us.take k ++ u :: us.drop k) := (r.take k).append (.cons q (r.drop k))
theorem mt_insert : MtM X "list.insert" rInsert := by
  intro pins s σ H x vs v us Q I rx rv h
  obtain ⟨l, xs, i, y, rfl, rfl, hH, hz, hi, q⟩ := h
  cases rx
  obtain ⟨u, u2, rfl, ru, ru2⟩ := rv.two
  obtain ⟨t, rfl⟩ := ru
  obtain ⟨z, its, n, r, hl, e⟩ := I.lstM hH
  have hc0 : ¬(!Builtin.List.listFitsIndex i) = true := by
    unfold Builtin.List.listFitsIndex
    have : (decide (-(2 ^ 63 : Int) ≤ i) && decide (i < 2 ^ 63)) = true := by
      rw [Bool.and_eq_true]; exact ⟨decide_eq_true (by omega), decide_eq_true (by omega)⟩
    simpa using this
  refine call_meets F.slot_list_insert ⟨_, e, rfl⟩ F.entry_list_insert (F.args_list_insert_3 _ _ _) (PySem.AutoListH.list_insert_list_int_val_1 l its.toArray n i t u2 hc0 (by rw [List.size_toArray]; omega)) ⟨e, ?_⟩
  have hk : (if i < 0 then (i + (its.length : Int)).toNat else min i.toNat its.length) ≤ its.length := by split <;> omega
  refine ⟨.non, _, I.lset (its' := its.take (if i < 0 then (i + (its.length : Int)).toNat else min i.toNat its.length) ++ u2 :: its.drop (if i < 0 then (i + (its.length : Int)).toNat else min i.toNat its.length)) hH e ?_ (ys := insV xs i y) ?_ ?_, rfl, q⟩
  · show (its.toArray.extract 0 _).push u2 ++ its.toArray.extract _ = _
    rw [List.size_toArray]
    exact ins_arr its _ u2 hk
  · unfold insV
    rw [hl]
    exact r.ins ru2 _
  · rw [insV_length]; omega
end
end L2

set_option linter.all false
set_option maxRecDepth 100000
set_option maxHeartbeats 4000000
namespace L2
open PySem PySem.Spec PyProof.Rows
structure Enc {α : Type} [DecidableEq α] (e : α → PyData) (n : Nat) : Prop where
  eq : ∀ a b, PyData.eqv (e a) (e b) = decide (a = b)
  lay : ∀ a, (e a).canLay0 = true
  dep : ∀ a, (e a).depth ≤ n
theorem Enc.int : Enc PyData.int 0 := ⟨fun a b => by unfold PyData.eqv; rw [Bool.eq_iff_iff]; simp, fun a => by unfold PyData.canLay0; rfl, fun a => by unfold PyData.depth; exact Nat.le_refl _⟩
section
variable {α β γ : Type} [DecidableEq α] [DecidableEq β] [DecidableEq γ] {e : α → PyData} {f : β → PyData} {g : γ → PyData} {n m k : Nat}
theorem Enc.all (h : Enc e n) : ∀ xs ys : List α, PyData.eqvAll (xs.map e) (ys.map e) = decide (xs = ys)
  | [], [] => by simp [PyData.eqvAll]
  | x :: xs, [] => by simp [PyData.eqvAll]
  | [], y :: ys => by simp [PyData.eqvAll]
  | x :: xs, y :: ys => by
    rw [List.map_cons, List.map_cons]
    unfold PyData.eqvAll
    rw [h.eq, h.all xs ys, ← Bool.decide_and]
    exact decide_eq_decide.mpr (by rw [List.cons.injEq])
theorem Enc.layAll (h : Enc e n) : ∀ xs : List α, PyData.canLayAll0 (xs.map e) = true
  | [] => by simp [PyData.canLayAll0]
  | x :: xs => by rw [List.map_cons]; unfold PyData.canLayAll0; rw [h.lay, h.layAll xs]; rfl
theorem Enc.depAll (h : Enc e n) : ∀ xs : List α, PyData.depthAll (xs.map e) ≤ n
  | [] => by simp [PyData.depthAll]
  | x :: xs => by
    rw [List.map_cons]; unfold PyData.depthAll
    have a := h.dep x
    have b := h.depAll xs
    omega
theorem Enc.list (h : Enc e n) : Enc (fun xs : List α => PyData.list (xs.map e)) (n + 1) :=
  ⟨fun a b => by unfold PyData.eqv; exact h.all a b, fun a => by unfold PyData.canLay0; exact h.layAll a, fun a => by unfold PyData.depth; have := h.depAll a; omega⟩
theorem Enc.two (h : Enc e n) (h2 : Enc f m) : Enc (fun p : α × β => PyData.tuple [e p.1, f p.2]) (max n m + 1) where
  eq := fun a b => by
    unfold PyData.eqv PyData.eqvAll PyData.eqvAll PyData.eqvAll
    rw [h.eq, h2.eq, Bool.and_true, ← Bool.decide_and]
    exact decide_eq_decide.mpr (by rw [Prod.ext_iff])
  lay := fun a => by unfold PyData.canLay0 PyData.canLayAll0 PyData.canLayAll0 PyData.canLayAll0; rw [h.lay, h2.lay]; rfl
  dep := fun a => by
    unfold PyData.depth PyData.depthAll PyData.depthAll PyData.depthAll
    have := h.dep a.1
    have := h2.dep a.2
    omega
theorem eqD_of {K : PySem.W.Frag} {H : Hp} {x y : V} {a b : α} {Q : VK} (h : Enc e n) (hn : n ≤ 64) (dx : Dp K H (e a) x) (dy : Dp K H (e b) y) (q : Q (.bl (decide (a = b))) H) : rEqD K x y H Q :=
  ⟨_, _, dx, dy, h.lay a, h.lay b, Nat.le_trans (h.dep a) hn, by rw [h.eq]; exact q⟩
end
theorem dp_ints {K : PySem.W.Frag} {H : Hp} {a : Addr} {xs : List Int} (h : SqL K H a (xs.map V.int)) : Dp K H (.list (xs.map PyData.int)) (.ref a) := dp_lst h (DpAll.ints xs)
section
variable {K : PySem.W.Frag} {H : Hp} {R : Bool → Prop}
theorem inst_of {x c : V} {ty : Value} {b : Bool} (hc : isCls c = true) (t : TyOf K H x ty) (k : PySem.W.kitOne K ty (cval c) = some b) (q : R b) : ∃ x' c' ty b, [x, c] = [x', c'] ∧ isCls c' = true ∧ TyOf K H x' ty ∧ PySem.W.kitOne K ty (cval c') = some b ∧ R b := ⟨x, c, ty, b, rfl, hc, t, k, q⟩
theorem inst_int {i : Int} (q : R true) : ∃ x' c' ty b, [V.int i, V.ty "int"] = [x', c'] ∧ isCls c' = true ∧ TyOf K H x' ty ∧ PySem.W.kitOne K ty (cval c') = some b ∧ R b := inst_of rfl (.int i) (kit_same rfl) q
theorem inst_bl {i : Bool} (q : R true) : ∃ x' c' ty b, [V.bl i, V.ty "bool"] = [x', c'] ∧ isCls c' = true ∧ TyOf K H x' ty ∧ PySem.W.kitOne K ty (cval c') = some b ∧ R b := inst_of rfl (.bl i) (kit_same rfl) q
theorem inst_int_bl {i : Int} (k : PySem.W.kitOne K (.type "int") (.type "bool") = some false) (q : R false) : ∃ x' c' ty b, [V.int i, V.ty "bool"] = [x', c'] ∧ isCls c' = true ∧ TyOf K H x' ty ∧ PySem.W.kitOne K ty (cval c') = some b ∧ R b := inst_of rfl (.int i) k q
theorem inst_lst {a : Addr} {xs : List V} (h : H a = some (.lst xs)) (q : R true) : ∃ x' c' ty b, [V.ref a, V.ty "list"] = [x', c'] ∧ isCls c' = true ∧ TyOf K H x' ty ∧ PySem.W.kitOne K ty (cval c') = some b ∧ R b := inst_of rfl (.lst h) (kit_same rfl) q
theorem inst_tup {a : Addr} {xs : List V} (h : H a = some (.tup xs)) (q : R true) : ∃ x' c' ty b, [V.ref a, V.ty "tuple"] = [x', c'] ∧ isCls c' = true ∧ TyOf K H x' ty ∧ PySem.W.kitOne K ty (cval c') = some b ∧ R b := inst_of rfl (.tup h) (kit_same rfl) q
end
end L2

set_option linter.all false
set_option maxRecDepth 100000
set_option maxHeartbeats 4000000
namespace L2
open PySem PySem.Spec PyProof.Rows
structure FunD (K : PySem.W.Frag) (x qual : Str) (st : Stmt) (f : Addr) (fd : FuncData) (dv : List Value) : Prop where
  ex : ∃ (oc : Value) (od : Option Addr) (T : Addr) (kV doc pm : Value) (an : Option Addr) (cdv ct : Value) (osl : Array (Option Value)),
    fd = PySem.W.fnOf x qual (defArgs st) (defBody st) (defScope st) (.ref T) kV doc pm an cdv ct ∧ K.lookup f = some ⟨oc, od, .func fd, osl⟩ ∧ PySem.W.codeIn K cdv qual = true ∧ ∃ o n, K.lookup T = some o ∧ o.data = .seq dv.toArray n
  kp : PySem.W.keepIn K (.ref f) = true
section
variable {P : Program} {w : World} {K : PySem.W.Frag} {mg : Str → Option Value} {base : Heap}
theorem FunD.ok {x qual : Str} {st : Stmt} {f : Addr} {fd : FuncData} {dv : List Value} {N ps : List Str} {k : Nat} {sp : Sp} (F : FunD K x qual st f fd dv) (S : FnScope N ps (defScope st)) (len : ∀ vs H Q E, sp vs H Q E → vs.length = ps.length)
    (hbody : ∀ (cdv : Value) (A : Around) (outer : List Env) (s : Shared) (H : Hp) (vs : List V) (Q : VK) (E : XK), Room k (A.deeper (envOfC qual (defScope st) s.heap.objs.size f cdv)) → sp vs H Q E →
      ∃ t, PSs (cxOf CX0 P w K mg base N qual (defScope st) f cdv A outer s H E).nox (defBody st) t ∧ t { nx := fun _ H' => Q .non H', rt := Q } (start N vs) H) : FnOk P w K mg base CX0 (k + 1) f fd ps sp := by
  obtain ⟨oc, od, T, kV, doc, pm, an, cdv, ct, osl, rfl, lk, hcd, _⟩ := F.ex
  refine fn_of lk hcd S len fun A outer s H vs Q E hr hsp => ?_
  obtain ⟨t, h, q⟩ := hbody cdv A outer s H vs Q E hr hsp
  exact ⟨t, h.nox, q⟩
theorem FunD.binds {x qual : Str} {st : Stmt} {f : Addr} {fd : FuncData} {dv ds : List Value} {ps : List Str} (F : FunD K x qual st f fd dv)
    (h : ∀ (T : Addr) (kV doc pm : Value) (an : Option Addr) (cdv ct : Value) (us : List Value), (us ++ ds).length = ps.length → ∃ k, bindArgs (PySem.W.fnOf x qual (defArgs st) (defBody st) (defScope st) (.ref T) kV doc pm an cdv ct) ⟨us, []⟩ = seqItems? (.ref T) >>= k ∧ k (some dv.toArray) = pure (ps.zip (us ++ ds))) : Binds K fd ps ds := by
  obtain ⟨oc, od, T, kV, doc, pm, an, cdv, ct, osl, rfl, lk, hcd, o, n, hT, ho⟩ := F.ex
  intro s us KX hl
  obtain ⟨k, h1, h2⟩ := h T kV doc pm an cdv ct us hl
  exact PySem.W.binds_K KX rfl hT ho h1 h2
theorem funD_mk {x qual : Str} {st : Stmt} {f T : Addr} {oc : Value} {od an : Option Addr} {osl : Array (Option Value)} {kV doc pm cdv ct : Value} {dv : List Value} {ocT : Value} {odT : Option Addr} {nT : Nat} {slT : Array (Option Value)} (l : K.lookup f = some ⟨oc, od, .func (PySem.W.fnOf x qual (defArgs st) (defBody st) (defScope st) (.ref T) kV doc pm an cdv ct), osl⟩)
    (c : PySem.W.codeIn K cdv qual = true) (k : PySem.W.keepIn K (.ref f) = true) (t : K.lookup T = some ⟨ocT, odT, .seq dv.toArray nT, slT⟩) : FunD K x qual st f (PySem.W.fnOf x qual (defArgs st) (defBody st) (defScope st) (.ref T) kV doc pm an cdv ct) dv := ⟨⟨oc, od, T, kV, doc, pm, an, cdv, ct, osl, rfl, l, c, _, nT, t, rfl⟩, k⟩
end
structure KlD (P : Program) (w : World) (K : PySem.W.Frag) (mg : Str → Option Value) (base : Heap) (CX : CXT) (x : Str) (C : Addr) (k : Nat) (ps : List Str) (sp : Sp) (dvs : List V) : Prop where
  mgC : mg x = some (.ref C)
  ex : ∃ f fd ds, FnOk P w K mg base CX k f fd ps sp ∧ Binds K fd ps ds ∧ Vals dvs ds ∧ Mk K C f
section
variable {X : Cx} {CX : CXT} {k : Nat} {ps : List Str} {sp : Sp} {dvs : List V} {E : XK} {x m : Str} {C : Addr} {p pos apos : Pos} {e o : Expr} {es : List Expr} {ta : TE} {t : TA}
theorem pe_mkD (F : KlD X.prog X.w X.K X.mg X.base CX x C k ps sp dvs) (hr : Room (k + 1) X.A) (hg : Gl X x) (hx : Passes CX X E) (ha : PA X (e :: es) t) (hdb : (x == ("__debug__" : Str)) = false := by decide) (he : starEach (e :: es) X.env = (false, eval e X.env) :: starEach es X.env := by rfl) (hpl : (backTo pos (starEach es X.env)).any (·.1) = false := by rfl) :
    PE X (.Call (.Name x p) (e :: es) [] pos) (tMake C sp dvs E t) := by
  obtain ⟨f, fd, ds, h1, h2, hv, h3⟩ := F.ex
  exact pe_make h3 h1 hr hg F.mgC h2 hv hx ha hdb he hpl
end
end L2

set_option linter.all false
set_option maxRecDepth 100000
set_option maxHeartbeats 4000000
namespace L2
open PySem PySem.Spec PyProof.Rows
section
variable {X : Cx}
theorem all_range {bs : List Bool} : (List.range bs.length).all (fun i => bs.getD i true) = bs.all id := by
  induction bs with
  | nil => rfl
  | cons b r ih =>
    rw [List.length_cons, List.range_succ_eq_map, List.all_cons, List.all_map, List.all_cons]
    show (b && (List.range r.length).all fun i => r.getD i true) = _
    rw [ih]
    rfl
theorem call_all (hc : X.calm = true) : CallR X (.builtin "all") (fun xs H Q => ∃ (p : Addr) (bs : List Bool), xs = [.ref p] ∧ SqL X.K H p (bs.map V.bl) ∧ Q (.bl (bs.all id)) H) := by
  intro pins s σ H xs us Q I r h
  obtain ⟨p, bs, rfl, hq, q⟩ := h
  obtain ⟨u, rfl, rx⟩ := vals1 r
  cases rx
  obtain ⟨its, r', pl, hz⟩ := I.list hq
  have hlen := r'.length
  rw [List.length_map] at hlen
  have hh : X.A.handled = none := I.ok.hd hc
  have hl := pl.isList
  have hlt : p < s.heap.objs.size := by obtain ⟨_, e, _⟩ := hl; exact Heap.lt_size e
  refine call_all_walk (wpAny_pyIter_list hl ⟨s.heap.objs.size, _, _, _, _, _, fun i => bs.getD i true, rfl, Walks.list (A := X.A.in1) hh s.heap.objs.size p (Nat.ne_of_lt hlt) its.toArray, ⟨⟨_, Heap.get?_push_size _ rfl, rfl, rfl⟩, hl.push _⟩, ?_, fun h' tk hk => ?_⟩)
  · intro i v s' Q' E' hP hQ
    have hP' : its[i]? = some v := by simpa using hP
    have hi : i < its.length := (List.getElem?_eq_some_iff.mp hP').1
    obtain ⟨b, hb⟩ : ∃ b, bs[i]? = some b := ⟨_, List.getElem?_eq_getElem (by omega)⟩
    obtain ⟨u, hu, ru⟩ := r'.get (i := i) (x := .bl b) (by rw [List.getElem?_map, hb]; rfl)
    rw [hP'] at hu
    cases hu
    cases ru
    have hQ' : Q' b s' := by
      have e : bs.getD i true = b := by rw [List.getD_eq_getElem?_getD, hb]; rfl
      rw [← e]; exact hQ
    exact wpAny_truthy_bool hQ'
  · refine ⟨.bl (bs.all id), H, I.kept (t' := tk) (fun b o e => hk b o ?_ (Heap.get?_push_of_some _ e)), ?_, q⟩
    · intro z
      have : b = s.heap.objs.size := by simpa using z
      exact absurd (Heap.lt_size e) (by rw [this]; exact Nat.lt_irrefl _)
    · have : its.toArray.size = bs.length := by simp [hlen]
      rw [this, all_range]
      rfl
theorem rng_ok {P : Program} {w : World} {H : Hp} {h : Heap} {a : Addr} {lo hi : Int} {t u v : Tok} (e : h.get? a = some { cls := .type "range", data := .fields #[.int lo t, .int hi u, .int 1 v] }) : ObjOk P w H h a (.rng lo hi) := ⟨t, u, v, e⟩
theorem call_rng1 : CallR X (.type "range") (fun xs H Q => ∃ n : Int, xs = [.int n] ∧ ∀ p, H p = none → Q (.ref p) (upd H p (.rng 0 n))) := by
  intro pins s σ H xs us Q I r h
  obtain ⟨n, rfl, q⟩ := h
  obtain ⟨u, rfl, rx⟩ := vals1 r
  obtain ⟨t, rfl⟩ := rx
  exact call_range_1 ⟨.ref s.heap.objs.size, _, I.laid (fun b o e => Heap.get?_push_of_some _ e) (Nat.le_refl _) (rng_ok (Heap.get?_push_size _ rfl)), rfl, q _ (I.hok.fresh (Nat.le_refl _))⟩
def rints (lo hi : Int) : List Int := (List.range (hi - lo).toNat).map fun i : Nat => lo + (i : Int)
theorem rints_length (lo hi : Int) : (rints lo hi).length = (hi - lo).toNat := by unfold rints; rw [List.length_map, List.length_range]
theorem rints_get {lo hi : Int} {i : Nat} (h : i < (hi - lo).toNat) : (rints lo hi)[i]? = some (lo + i) := by unfold rints; rw [List.getElem?_map, List.getElem?_range h]; rfl
theorem call_list_rng (hc : X.calm = true) : CallR X (.type "list") (fun xs H Q => ∃ (p : Addr) (lo hi : Int), xs = [.ref p] ∧ H p = some (.rng lo hi) ∧ (-1000 ≤ lo ∧ lo ≤ 1000 ∧ -1000 ≤ hi ∧ hi ≤ 1000) ∧ ∀ l, H l = none → Q (.ref l) (upd H l (.lst ((rints lo hi).map V.int)))) := by
  intro pins s σ H xs us Q I r h
  obtain ⟨p, lo, hi, rfl, hp, hb, q⟩ := h
  obtain ⟨u, rfl, rx⟩ := vals1 r
  cases rx
  obtain ⟨t, u, v, e⟩ := I.hok p _ hp
  have hh : X.A.handled = none := I.ok.hd hc
  refine call_list_range (n := (hi - lo).toNat) hh e (small_one (by omega) (by omega) (by omega) (by omega)) (by rw [rangeSize_one]; split <;> omega) (by omega) fun h' tk acc' c' hk hS hacc => ?_
  have hz : (rints lo hi).length ≤ 1000 * 2 := by rw [rints_length]; omega
  refine ⟨.ref s.heap.objs.size, _, I.laid (t' := tk) hk (Nat.le_refl _) (o := .lst ((rints lo hi).map V.int)) ⟨?_, acc'.toList, c', ?_, by simpa using hS⟩, rfl, q _ (I.hok.fresh (Nat.le_refl _))⟩
  · rw [List.length_map]
    exact Nat.le_trans hz (by decide)
  · have hsz : acc'.size = (hi - lo).toNat := hacc.1
    have gen : ∀ (vs : List Value) (k : Nat) (zs : List Int), vs.length = zs.length → (∀ (j : Nat) v z, vs[j]? = some v → zs[j]? = some z → ∃ t, v = Value.int z t) → Vals (zs.map V.int) vs := by
      intro vs
      induction vs with
      | nil => intro k zs h1 _; cases zs with
        | nil => exact .nil
        | cons _ _ => cases h1
      | cons v r ih => intro k zs h1 h2; cases zs with
        | nil => cases h1
        | cons z zr => exact .cons (h2 0 v z rfl rfl) (ih 0 zr (by simpa using h1) fun j v' z' a b => h2 (j + 1) v' z' (by simpa using a) (by simpa using b))
    refine gen acc'.toList 0 (rints lo hi) (by rw [rints_length, Array.length_toList, hsz]) fun j v z a b => ?_
    have a' : acc'[j]? = some v := by simpa using a
    obtain ⟨t, rfl⟩ := hacc.2 j v a'
    have hj : j < (hi - lo).toNat := by have := (Array.getElem?_eq_some_iff.mp a').1; omega
    rw [rints_get hj] at b
    cases b
    exact ⟨t, by rw [Int.mul_one]⟩
end
end L2

set_option linter.all false
set_option maxRecDepth 100000
set_option maxHeartbeats 4000000
namespace L2
open PySem PySem.Spec PyProof.Rows
theorem Same.get {H H' : Hp} {b : Addr} {o : HO} (s : Same H H') (h : H b = some o) : H' b = some o := s b o h
theorem newH {H : Hp} {p : Addr} (h : H p = none) (o : HO) : ∃ H', upd H p o = H' ∧ Same H H' ∧ H' p = some o := ⟨_, rfl, same_new h o, upd_same⟩
section
variable {K : PySem.W.Frag} {a : Addr} {xs : List V} {te : TE} {Q : VK} {σ0 rest : St} {H : Hp}
theorem compL_gen (h : SqL K H a xs) (hz : xs.length ≤ 1000) (e0 : σ0 = none :: rest) (R : V → V → Hp → Prop) (mono : ∀ x y H1 H2, Same H1 H2 → R x y H1 → R x y H2)
    (hs : ∀ (i : Nat) x H', xs[i]? = some x → Same H H' → ∀ Q' : VK, (∀ y H4, Same H' H4 → R x y H4 → Q' y H4) → te (some x :: rest) H' Q')
    (hd : ∀ ys H' p, ys.length = xs.length → (∀ (j : Nat) x y, xs[j]? = some x → ys[j]? = some y → R x y H') → Same H H' → H' p = none → Q (.ref p) (upd H' p (.lst ys))) : compL K (gName 0) tYes te σ0 Q (.ref a) H := by
  subst e0
  refine compL_of h hz (fun i ys σ H' => ∃ v, σ = v :: rest ∧ Same H H' ∧ ys.length = i ∧ ∀ (j : Nat) x y, xs[j]? = some x → ys[j]? = some y → R x y H') ⟨_, rfl, .refl _, rfl, fun j x y _ q => by cases q⟩ ?_ ?_ ?_
  · rintro i ys σ H' _ ⟨v, rfl, e, hl, _⟩
    exact ⟨e.seq h, Nat.le_of_eq hl⟩
  · rintro i ys x σ H' hi hx ⟨v, rfl, e, hl, hR⟩
    show te (some x :: rest) H' _
    refine hs i x H' hx e _ fun y H4 q1 q2 => ?_
    refine Nxt.of hi ⟨_, rfl, e.trans q1, by rw [List.length_append, hl]; rfl, fun j x' y' hx' hy' => ?_⟩
    by_cases hj : j < ys.length
    · rw [List.getElem?_append_left hj] at hy'
      exact mono _ _ _ _ q1 (hR j x' y' hx' hy')
    · rw [List.getElem?_append_right (by omega)] at hy'
      have : j - ys.length = 0 := by
        rcases Nat.eq_zero_or_pos (j - ys.length) with z | z
        · exact z
        · rw [List.getElem?_eq_none (show [y].length ≤ j - ys.length from z)] at hy'
          cases hy'
      rw [this] at hy'
      cases hy'
      rw [show j = i by omega, hx] at hx'
      cases hx'
      exact q2
  · rintro ys σ H' ⟨v, rfl, e, hl, hR⟩ p hp
    exact hd ys H' p hl hR e hp
end
end L2

set_option linter.all false
set_option maxRecDepth 100000
set_option maxHeartbeats 4000000
namespace L2
open PySem PySem.Spec PyProof.Rows
section
variable {X : Cx} {pins : List (Addr × Obj)} {σ : St} {H : Hp} {s : Shared}
theorem Inv.turn2 (I : Inv X pins σ H s) {ch : List Addr} {h' : Heap} {p : Addr} {o : HO} {t' : Nat} (hf : ∀ b ∈ ch, FpOk X pins H b) (k : ∀ b ob, b ∉ ch → s.heap.get? b = some ob → h'.get? b = some ob)
    (hp : s.heap.objs.size ≤ p) (new : ObjOk X.prog X.w (upd H p o) h' p o) : Inv X pins σ (upd H p o) { s with heap := h', toks := t' } := by
  have hn : H p = none := I.hok.fresh hp
  have tr : ∀ b u, H b = some u → b ∉ ch := fun b u e z => by rw [(hf b z).1] at e; cases e
  refine I.call (g' := s.gens) (t' := t') (d' := s.drawn) (ch := ch) ⟨fun b ob e n _ hx => k b ob hx e, fun b ob e n _ hx => ⟨ob.slots, k b ob hx e⟩, fun b ob e n _ => ?_, fun b ob e hx => ⟨ob, k b ob hx e⟩, fun b xs e => ?_, fun b ob u e => ?_, fun b qs e => ⟨#[], ?_⟩⟩ (fun b u e => ?_) I.bare fun b hb => ?_
  · rw [upd_ne (Nat.ne_of_lt (Nat.lt_of_lt_of_le (Heap.lt_size e) hp))]; exact n
  · rw [upd_ne (ne_of_none e hn)]; exact e
  · rw [upd_ne (ne_of_none e hn)]; exact e
  · rw [upd_ne (ne_of_none e hn), e]; simp
  · by_cases hb : b = p
    · subst hb; rw [upd_same] at e; cases e; exact new
    · rw [upd_ne hb] at e
      refine (I.hok b u e).stay (fun c v hc q => k c v ?_ q) (fun c q => by rw [upd_ne (ne_of_none q hn)]; exact q) fun c xs q => by rw [upd_ne (ne_of_none q hn)]; exact q
      rcases hc with z | z
      · rw [z]; exact tr b u e
      · exact tr c _ z
  · obtain ⟨a1, a2, a3, a4, a5, a6⟩ := hf b hb
    exact ⟨a4, a2, a5, a6⟩
end
/-- the pairs of enumerate over the list at a -/
def Ite (K : PySem.W.Frag) (a : Addr) : It :=
  ⟨fun i H => ∃ xs x, SqL K H a xs ∧ xs[i]? = some x, fun i H v H' => ∃ p x, H p = none ∧ (∀ xs, SqL K H a xs → xs[i]? = some x) ∧ H' = upd H p (.tup [.int i, x]) ∧ v = .ref p, fun i H => ∃ xs, SqL K H a xs ∧ xs.length ≤ i⟩
theorem turn_enum {P : Program} {w : World} {K : PySem.W.Frag} {elts : List Expr} {x1} {tpos : Pos} (a e it : Addr) (hne : e ≠ it) : Turn P w K (.Tuple elts x1 tpos) (Ite K a) [e, it] e (fun i h => (∃ old, IsEnum h e it ((i : Nat) : Int) old) ∧ h.IsListIter it a i) where
  mem := by simp
  obj := fun i h st b hb => by
    obtain ⟨⟨old, he⟩, o, e2, c, d⟩ := st
    have hb' : b = e ∨ b = it := by simpa using hb
    rcases hb' with rfl | rfl
    · exact ⟨_, he, fun v z => by cases z⟩
    · exact ⟨o, e2, fun v z => by rw [d] at z; cases z⟩
  keep := fun i h h' st k => ⟨let ⟨old, he⟩ := st.1; ⟨old, k e (by simp) _ he⟩, st.2.at fun o q => k it (by simp) o q⟩
  item := by
    intro X hP hw hK hc i pins s σ H E I hf st hg
    subst hP hw hK
    obtain ⟨xs, x, hq, hx⟩ := hg
    obtain ⟨its, rv, p, hz⟩ := I.list hq
    obtain ⟨u, hu, ru⟩ := rv.get hx
    obtain ⟨⟨old, he⟩, hit⟩ := st
    refine wpAny_pyNext_enum_item he hit p.isList (x := u) (by simpa using hu) hne fun h1 heo hit1 ht1 hz1 hk1 => ⟨_, rfl, ?_⟩
    refine wpAny_letOwnedTupleGo_enum heo fun h2 he2 hs2 => ?_
    replace hs2 : Heap.SameBut e h1 h2 := hs2
    have hel : e < s.heap.objs.size := Heap.lt_size he
    have ht2 : h2.get? s.heap.objs.size = some { cls := .type "tuple", data := .seq #[.int i s.toks, u] } := (hs2.2 _ (Nat.ne_of_gt hel)).trans ht1
    have hnew : H s.heap.objs.size = none := I.hok.fresh (Nat.le_refl _)
    refine ⟨.ref s.heap.objs.size, upd H s.heap.objs.size (.tup [.int i, x]), I.turn2 (ch := [e, it]) (t' := s.toks + 1) hf (fun b ob hb q => ?_) (Nat.le_refl _) ?_, rfl, ⟨_, x, hnew, fun ys hy => by rw [I.list_inj hy hq]; exact hx, rfl, rfl⟩, ⟨⟨u, ?_⟩, ?_⟩, fun b hb => ?_⟩
    · have hbe : b ≠ e := fun z => hb (by simp [z])
      have hbi : b ≠ it := fun z => hb (by simp [z])
      exact (hs2.2 b hbe).trans (hk1 b ob hbe hbi q)
    · exact ⟨le_line (show 2 ≤ 1000 by decide), [.int i s.toks, u], .cons ⟨_, rfl⟩ (.cons ru .nil), _, ht2, rfl, 0, rfl⟩
    · have : ((i + 1 : Nat) : Int) = (i : Int) + 1 := by push_cast; rfl
      rw [this]; exact he2
    · exact hit1.at fun o q => (hs2.2 it (Ne.symm hne)).trans q
    · have hn := (hf b hb).1
      have hb' : b = e ∨ b = it := by simpa using hb
      obtain ⟨oi, hoi, _⟩ := hit
      have hlt : b < s.heap.objs.size := by
        rcases hb' with rfl | rfl
        · exact hel
        · exact Heap.lt_size hoi
      rw [upd_ne (Nat.ne_of_lt hlt)]; exact hn
  done := by
    intro X hP hw hK hc i pins s σ H E I hf st hg
    subst hP hw hK
    obtain ⟨xs, hq, hx⟩ := hg
    obtain ⟨its, rv, p, hz⟩ := I.list hq
    obtain ⟨⟨old, he⟩, hit⟩ := st
    obtain ⟨f0, f1, f2, f3, f4, f5⟩ := hf it (by simp)
    have hl := rv.length
    exact wpAny_pyNext_enum_end (I.ok.hd hc) he hit p.isList (by rw [List.getElem?_toArray]; exact List.getElem?_eq_none (by omega)) fun h' eb => ⟨rfl, I.turned (t' := s.toks) (fun b o hb e => eb b o hb e) f0 f1 f3 f4 f5⟩
  self := fun _ _ _ _ _ st h => let ⟨_, he⟩ := st.1; wpAny_pyIter_enum he h
section
variable {X : Cx}
def iEnum (K : PySem.W.Frag) (ta : TA) : TI := fun σ H R => ta σ H fun vs H1 => ∃ a, vs = [.ref a] ∧ (∃ xs, SqL K H1 a xs) ∧ R (Ite K a) H1
theorem pi_enum {elts : List Expr} {x1} {tpos : Pos} {l : Expr} {ta : TA} {p pos : Pos} (hg : Gl X "enumerate") (hm : X.mg "enumerate" = none) (ha : PA X [l] ta) (hs : starEach [l] X.env = [(false, eval l X.env)] := by rfl) :
    PI X (.Tuple elts x1 tpos) (.Call (.Name "enumerate" p) [l] [] pos) (iEnum X.K ta) := by
  intro pins s σ H R I h
  refine Call_ (ld_blt I hg hm boot_enumerate (PyProof.Rows.callWith_type1 (thn (ha pos pins s σ H _ I h) fun us s1 ⟨vs, H1, I1, r1, q1⟩ => ?_) hs rfl))
  obtain ⟨a, e, ⟨xs, hq⟩, q⟩ := q1
  subst e
  obtain ⟨u, rfl, ru⟩ := vals1 r1
  cases ru
  obtain ⟨its, rv, pl, hz⟩ := I1.list hq
  refine call_enumerate_list pl.isList fun h' he hit hsz hk => wpAny_pyIter_enum he ?_
  have I2 : Inv X pins σ H1 { s1 with heap := h' } := I1.kept (t' := s1.toks) hk
  refine ⟨s1.heap.objs.size + 1, [s1.heap.objs.size + 1, s1.heap.objs.size], _, Ite X.K a, H1, rfl, I2, turn_enum a _ _ (Nat.succ_ne_self _), ⟨⟨_, he⟩, hit⟩, fun b hb => ?_, q⟩
  have hb' : b = s1.heap.objs.size + 1 ∨ b = s1.heap.objs.size := by simpa using hb
  have hle : s1.heap.objs.size ≤ b := by
    rcases hb' with rfl | rfl
    · exact Nat.le_succ _
    · exact Nat.le_refl _
  exact I1.fpOk hle (I1.hok.fresh hle)
end
section
variable {K : PySem.W.Frag} {a : Addr} {xs : List V} {g : TG} {tb : TS} {D : Ends} {σ : St} {H : Hp}
def forE (K : PySem.W.Frag) (g : TG) (tb : TS) (D : Ends) (σ : St) (x : V) (H1 : Hp) : Prop := ∃ a, [x] = [.ref a] ∧ (∃ xs, SqL K H1 a xs) ∧ ∃ W : Nat → Nat → St → Hp → Prop, (∃ m, W 0 m σ H1) ∧ ∀ i m σ H, W i m σ H →
  ((Ite K a).stop i H ∧ D.nx σ H) ∨ ((Ite K a).go i H ∧ ∃ N : St → Hp → Prop, (∀ σ' H', N σ' H' → ∃ m', m' < m ∧ W (i + 1) m' σ' H') ∧ ∀ x H', (Ite K a).yld i H x H' → g x σ H' fun σ2 H2 => tb { D with nx := N, ct := N, bk := D.nx } σ2 H2)
theorem tForE_eq {t : TE} : tFor (iEnum K (tCons t tNil)) g tb D σ H = t σ H (fun x H1 => forE K g tb D σ x H1) := rfl
theorem forE_of (h : SqL K H a xs) (Pv : Nat → St → Hp → Prop) (h0 : Pv 0 σ H) (hl : ∀ i σ H, i ≤ xs.length → Pv i σ H → SqL K H a xs)
    (hs : ∀ (i : Nat) x σ H p, xs[i]? = some x → Pv i σ H → H p = none → g (.ref p) σ (upd H p (.tup [.int i, x])) fun σ2 H2 => tb { D with nx := Pv (i + 1), ct := Pv (i + 1), bk := D.nx } σ2 H2) (hd : ∀ σ H, Pv xs.length σ H → D.nx σ H) : forE K g tb D σ (.ref a) H := by
  refine ⟨a, rfl, ⟨xs, h⟩, fun i m σ H => m = xs.length - i ∧ i ≤ xs.length ∧ Pv i σ H, ⟨xs.length, by simp, Nat.zero_le _, h0⟩, ?_⟩
  rintro i m σ H ⟨rfl, hi, p⟩
  have q := hl i σ H hi p
  by_cases hlt : i < xs.length
  · refine .inr ⟨⟨xs, xs[i], q, by simp [hlt]⟩, Pv (i + 1), fun σ' H' p' => ⟨xs.length - (i + 1), by omega, rfl, hlt, p'⟩, fun x H' y => ?_⟩
    obtain ⟨pp, x', hn, y, rfl, rfl⟩ := y
    exact hs i x' σ _ pp (y xs q) p hn
  · have e : i = xs.length := by omega
    subst e
    exact .inl ⟨⟨xs, q, Nat.le_refl _⟩, hd σ H p⟩
variable {tt : TT} {te : TE} {Q : VK} {σ0 : St}
def compE (K : PySem.W.Frag) (g : TG) (tt : TT) (te : TE) (σ0 : St) (Q : VK) (x : V) (H1 : Hp) : Prop := ∃ a, [x] = [.ref a] ∧ (∃ xs, SqL K H1 a xs) ∧ ∃ W : Nat → Nat → List V → St → Hp → Prop, (∃ m, W 0 m [] σ0 H1) ∧ ∀ i m ys σ H, W i m ys σ H →
  ((Ite K a).stop i H ∧ ys.length ≤ sizeLine ∧ ∀ p, H p = none → Q (.ref p) (upd H p (.lst ys))) ∨
  ((Ite K a).go i H ∧ ys.length < sizeLine ∧ ∀ x H', (Ite K a).yld i H x H' → g x σ H' fun σ2 H2 => tt σ2 H2 fun b H3 => if b = true then te σ2 H3 fun y H4 => ∃ m', m' < m ∧ W (i + 1) m' (ys ++ [y]) σ2 H4 else ∃ m', m' < m ∧ W (i + 1) m' ys σ2 H3)
theorem tCompE_eq {k : Nat} {js : List Nat} {t : TE} : tComp k js (iEnum K (tCons t tNil)) g tt te σ H Q = t σ H (fun x H1 => compE K g tt te (up k js σ) Q x H1) := rfl
end
end L2

set_option linter.all false
set_option maxRecDepth 100000
set_option maxHeartbeats 4000000
namespace L2
open PySem PySem.Spec PyProof.Rows

abbrev FZ (o : Obj) : HO := .frz o (.ext fun _ => True)
open Classical in
noncomputable def hid (cl : List (Str × Addr)) (H : Hp) : Hp := fun b => if ∃ x, cl.lookup x = some b then none else H b
open Classical in
noncomputable def back (cl : List (Str × Addr)) (H H1 : Hp) : Hp := fun b => if ∃ x, cl.lookup x = some b then H b else H1 b
def startC (N : List Str) (vs cs : List V) : St := vs.map some ++ (List.replicate (N.length - vs.length - cs.length) none ++ cs.map some)
def cxClo (P : Program) (w : World) (K : PySem.W.Frag) (mg : Str → Option Value) (base : Heap) (N : List Str) (qual : Str) (scope : Scope) (f : Addr) (cd : Value) (cl : List (Str × Addr)) (A : Around) (outer : List Env) (s : Shared) (H : Hp) : Cx where
  prog := P
  w := w
  K := K
  mg := mg
  base := base
  A := A.deeper (PySem.W.envX qual scope s.heap.objs.size f cd cl)
  N := N
  s₀ := s
  H₀ := H
  env := PySem.W.envX qual scope s.heap.objs.size f cd cl
  outer := outer
  stack := PySem.W.envX qual scope s.heap.objs.size f cd cl :: outer
  ex := []
  calm := true
  fn := fun _ => false
  pn := []
  xe := fun _ _ => False
section
variable {P : Program} {w : World} {K : PySem.W.Frag} {mg : Str → Option Value} {base : Heap} {A : Around} {outer : List Env} {s : Shared} {H : Hp} {g : Addr} {iname iq : Str} {ip : Arguments} {ib : List Stmt} {isc : Scope} {N ps fr : List Str} {cs vs : List V} {us : List Value} {cl : List (Str × Addr)} {k : Nat}
end

def tCallV (r : V → List V → Hp → VK → Prop) (ta : TE) (t : TA) : TE := fun σ H Q => ta σ H fun f H1 => (∃ g o, f = .ref g ∧ H1 g = some (FZ o) ∧ ∃ fd, o.data = .func fd) ∧ t σ H1 fun vs H2 => r f vs H2 Q
end L2

set_option linter.all false
set_option maxRecDepth 100000
set_option maxHeartbeats 4000000
namespace L2
open PySem PySem.Spec PyProof.Rows
section
variable {X : Cx} {pins : List (Addr × Obj)} {σ : St} {H : Hp} {s : Shared}
end
end L2

set_option linter.all false
set_option maxRecDepth 100000
set_option maxHeartbeats 4000000
namespace L2
open PySem PySem.Spec PyProof.Rows
theorem cx_cloK {P : Program} {w : World} {K : PySem.W.Frag} {mg : Str → Option Value} {base : Heap} {N : List Str} {qual : Str} {scope : Scope} {f : Addr} {cd : Value} {cl : List (Str × Addr)} {A : Around} {outer : List Env} {s : Shared} {H : Hp} : (cxClo P w K mg base N qual scope f cd cl A outer s H).K = K := rfl
end L2

set_option Elab.async false
set_option linter.all false
set_option maxRecDepth 100000
set_option maxHeartbeats 4000000

namespace L2
open PySem PySem.Spec PyProof.Rows
section
variable {prog : Program} {w : World} {A : Around} {R : Result → Shared → Prop} {I : Addr} {fp wr : List Addr} {n : Nat} {P : Nat → Value → Prop} {St : Nat → Heap → Prop}
end
section
variable {prog : Program} {w : World} {A : Around} {E : Value → Shared → Prop} {s : Shared} {l : Addr}
end
/-- the greatest of a list, d for none -/
def maxD (d : Int) : List Int → Int
  | [] => d
  | x :: r => r.foldl (fun m y => if m < y then y else m) x
section
variable {X : Cx} {e d : Expr} {te td : TE} {p pos : Pos} {kpos : Pos}
/-- max(e, default=d), e a list of ints -/
def tMaxD (K : PySem.W.Frag) (te td : TE) : TE := fun σ H Q => te σ H fun x H1 => td σ H1 fun y H2 => ∃ a ns dd, x = .ref a ∧ y = .int dd ∧ SqL K H2 a (ns.map V.int) ∧ Q (.int (maxD dd ns)) H2
end
end L2

set_option linter.all false
set_option maxRecDepth 100000
set_option maxHeartbeats 4000000
namespace L2
open PySem PySem.Spec PyProof.Rows
theorem lkc {k k' : Str} {v : V} {r : List (Str × V)} : List.lookup k ((k', v) :: r) = if k = k' then some v else List.lookup k r := by
  rw [List.lookup_cons]
  by_cases h : k = k'
  · subst h; simp
  · have : (k == k') = false := by simpa using h
    rw [this, if_neg h]
theorem length_putF_of {f : Str} {v u : V} : ∀ {fs : List (Str × V)}, fs.lookup f = some u → (putF f v fs).length = fs.length
  | [], h => by cases h
  | (g, w) :: r, h => by
    unfold putF
    by_cases e : g = f
    · rw [if_pos e]; rfl
    · rw [if_neg e, List.length_cons, List.length_cons]
      rw [lkc, if_neg (fun z => e z.symm)] at h
      rw [length_putF_of h]
structure Ins (H : Hp) (a C : Addr) (fl : List (Str × V)) : Prop where
  ex : ∃ dx fs, H a = some (.ins C dx fs) ∧ fs.length ≤ 50 ∧ ∀ f, fs.lookup f = fl.lookup f
theorem Ins.of {H : Hp} {a C dx : Addr} {fl : List (Str × V)} (h : H a = some (.ins C dx fl)) (hl : fl.length ≤ 50) : Ins H a C fl := ⟨dx, fl, h, hl, fun _ => rfl⟩
theorem Ins.congr {H : Hp} {a C : Addr} {fl fl' : List (Str × V)} (h : Ins H a C fl) (e : ∀ f, fl.lookup f = fl'.lookup f) : Ins H a C fl' := let ⟨dx, fs, h1, h2, h3⟩ := h.ex; ⟨dx, fs, h1, h2, fun f => (h3 f).trans (e f)⟩
theorem Ins.mono {H H' : Hp} {a C : Addr} {fl : List (Str × V)} (h : Ins H a C fl) (s : Same H H') : Ins H' a C fl := let ⟨dx, fs, h1, h2, h3⟩ := h.ex; ⟨dx, fs, s _ _ h1, h2, h3⟩
theorem Ins.keep {H H' : Hp} {a C : Addr} {fl : List (Str × V)} (h : Ins H a C fl) (s : H' a = H a) : Ins H' a C fl := let ⟨dx, fs, h1, h2, h3⟩ := h.ex; ⟨dx, fs, s.trans h1, h2, h3⟩
theorem Ins.ne {H : Hp} {a b C : Addr} {fl : List (Str × V)} {o : HO} (h : Ins H a C fl) (hb : H b = some o) (n : ∀ C dx fs, o ≠ .ins C dx fs) : b ≠ a := fun z => by
  obtain ⟨dx, fs, h1, _⟩ := h.ex
  rw [z, h1] at hb
  exact n _ _ _ (Option.some.inj hb).symm
theorem Ins.neN {H : Hp} {a b C : Addr} {fl : List (Str × V)} (h : Ins H a C fl) (hb : H b = none) : b ≠ a := fun z => by
  obtain ⟨dx, fs, h1, _⟩ := h.ex
  rw [z, h1] at hb; cases hb
section
variable {K : PySem.W.Frag} {f : Str} {a C : Addr} {fl : List (Str × V)} {v : V} {H : Hp}
theorem Ins.get {Q : VK} (h : Ins H a C fl) (cl : Cls K C) (n : NoAttr K C f) (l : fl.lookup f = some v) (q : Q v H) : getF K f (.ref a) H Q := by
  obtain ⟨dx, fs, h1, h2, h3⟩ := h.ex
  exact getF_of h1 cl n ((h3 f).trans l) q
theorem Ins.meth {m : Str} {R : Prop} (h : Ins H a C fl) (l : fl.lookup m = none) (q : R) : ∃ b dx fs, V.ref a = .ref b ∧ H b = some (.ins C dx fs) ∧ fs.lookup m = none ∧ R := by
  obtain ⟨dx, fs, h1, h2, h3⟩ := h.ex
  exact ⟨a, dx, fs, rfl, h1, (h3 m).trans l, q⟩
end
def augA (K : PySem.W.Frag) (tv : TE) (rd : V → V → Hp → VK → Prop) (f : Str) (D : Ends) (σ : St) (x : V) (H1 : Hp) : Prop := ∃ a C dx fs v, x = .ref a ∧ H1 a = some (.ins C dx fs) ∧ Cls K C ∧ NoAttr K C f ∧ fs.lookup f = some v ∧
  tv σ H1 fun y H2 => rd v y H2 fun z H3 => ∃ dx' fs', H3 a = some (.ins C dx' fs') ∧ fs'.length < 1000 ∧ D.nx σ (upd H3 a (.ins C dx' (putF f z fs')))
theorem sFldAug_eq {K : PySem.W.Frag} {ta tv : TE} {rd : V → V → Hp → VK → Prop} {f : Str} {D : Ends} {σ : St} {H : Hp} : sFldAug K ta tv rd f D σ H = ta σ H (fun x H1 => augA K tv rd f D σ x H1) := rfl
theorem Ins.aug {K : PySem.W.Frag} {f : Str} {a C : Addr} {fl : List (Str × V)} {i j : Int} {H : Hp} {D : Ends} {σ : St} (h : Ins H a C fl) (cl : Cls K C) (n : NoAttr K C f) (l : fl.lookup f = some (.int i))
    (q : ∀ H', Ins H' a C (putF f (.int (i + j)) fl) → (∀ b, b ≠ a → H' b = H b) → D.nx σ H') : augA K (tC (.int j)) rAdd f D σ (.ref a) H := by
  obtain ⟨dx, fs, h1, h2, h3⟩ := h.ex
  refine ⟨a, C, dx, fs, _, rfl, h1, cl, n, (h3 f).trans l, i, j, rfl, rfl, dx, fs, h1, by omega, q _ ⟨dx, _, upd_same, ?_, fun g => ?_⟩ fun b hb => upd_ne hb⟩
  · rw [length_putF_of ((h3 f).trans l)]; exact h2
  · rw [lookup_putF, lookup_putF, h3]
/-- while it is made: one field more -/
theorem setX {K : PySem.W.Frag} {f : Str} {a C dx : Addr} {fs : List (Str × V)} {v : V} {H : Hp} {Q : Hp → Prop} (h : H a = some (.ins C dx fs)) (cl : Cls K C) (n : NoAttr K C f) (hl : fs.length ≤ 20) (q : ∀ H', H' a = some (.ins C dx (putF f v fs)) → (∀ b, b ≠ a → H' b = H b) → Q H') : setF K f (.ref a) v H Q :=
  setF_of h cl n (by omega) (q _ upd_same fun b hb => upd_ne hb)
theorem putF_len {f : Str} {v : V} {fs : List (Str × V)} {n : Nat} (h : fs.length ≤ n) : (putF f v fs).length ≤ n + 1 := Nat.le_trans (length_putF f v fs) (Nat.succ_le_succ h)
theorem putL1 {f0 : Str} {v0 : V} : (putF f0 v0 []).length ≤ 20 := Nat.le_trans (putF_len (Nat.le_refl 0)) (by decide)
theorem putL2 {f0 f1 : Str} {v0 v1 : V} : (putF f1 v1 (putF f0 v0 [])).length ≤ 20 := Nat.le_trans (putF_len (putF_len (Nat.le_refl 0))) (by decide)
theorem putL3 {f0 f1 f2 : Str} {v0 v1 v2 : V} : (putF f2 v2 (putF f1 v1 (putF f0 v0 []))).length ≤ 20 := Nat.le_trans (putF_len (putF_len (putF_len (Nat.le_refl 0)))) (by decide)
theorem putL4 {f0 f1 f2 f3 : Str} {v0 v1 v2 v3 : V} : (putF f3 v3 (putF f2 v2 (putF f1 v1 (putF f0 v0 [])))).length ≤ 20 := Nat.le_trans (putF_len (putF_len (putF_len (putF_len (Nat.le_refl 0))))) (by decide)
theorem putL5 {f0 f1 f2 f3 f4 : Str} {v0 v1 v2 v3 v4 : V} : (putF f4 v4 (putF f3 v3 (putF f2 v2 (putF f1 v1 (putF f0 v0 []))))).length ≤ 20 := Nat.le_trans (putF_len (putF_len (putF_len (putF_len (putF_len (Nat.le_refl 0)))))) (by decide)
theorem mx_eq (p q : Int) : (if q > p then q else p) = max p q := by split <;> omega
theorem mn_eq (p q : Int) : (if q < p then q else p) = min p q := by split <;> omega
end L2


set_option linter.all false
set_option maxRecDepth 100000
set_option maxHeartbeats 4000000
namespace L2
open PySem PySem.Spec PyProof.Rows
section
variable {X : Cx}
end
theorem us_len {us ds : List Value} {ps : List Str} {n : Nat} (h : (us ++ ds).length = ps.length) (e : n + ds.length = ps.length) : us.length = n := by
  rw [List.length_append] at h; omega
/-- the same but for what stands in S -/
def Fr (S : List Addr) (H H' : Hp) : Prop := ∀ b o, b ∉ S → H b = some o → H' b = some o
theorem Same.fr {S : List Addr} {H H' : Hp} (e : Same H H') : Fr S H H' := fun b o _ h => e b o h
end L2

set_option linter.all false
set_option maxRecDepth 100000
set_option maxHeartbeats 4000000
namespace PySem
namespace F
end F
section
variable {prog : Program} {w : World} {A : Around} {s : Shared} {R : Result → Shared → Prop}
variable {I : Addr} {fp wr : List Addr} {G : Array GenState → Array GenState → Prop} {n : Nat} {P : Nat → Value → Prop} {St : Nat → Shared → Prop}
end
section
variable {prog : Program} {w : World} {A : Around} {E : Value → Shared → Prop} {s : Shared}
variable {I : Addr} {fp wr : List Addr} {G : Array GenState → Array GenState → Prop} {n : Nat} {P : Nat → Value → Prop} {St : Nat → Shared → Prop}
end
end PySem
namespace L2
open PySem PySem.Spec PyProof.Rows
/-- list(reversed(l)) -/
def tRevL (K : PySem.W.Frag) (t : TA) : TE := fun σ H Q => t σ H fun vs H1 => ∃ (l : Addr) (ys : List V), vs = [.ref l] ∧ SqL K H1 l ys ∧ ∀ r, H1 r = none → Q (.ref r) (upd H1 r (.lst ys.reverse))
section
variable {X : Cx} {e : Expr} {ta : TA} {p p2 pos pos2 : Pos}
end
theorem neD_refl {K : PySem.W.Frag} {H : Hp} {x y : V} {d : PyData} {Q : VK} (hx : Dp K H d x) (hy : Dp K H d y) (hc : d.canLay0 = true) (hd : d.depth ≤ 64) (q : Q (.bl false) H) : rNeD K x y H Q :=
  ⟨d, d, hx, hy, hc, hc, hd, by rw [PySem.SeqAt.eqv_refl d hc]; exact q⟩
def compR2 (g : TG) (tt : TT) (te : TE) (σ0 : St) (Q : VK) (x y : V) (H1 : Hp) : Prop := ∃ i j : Int, [x, y] = [.int i, .int j] ∧ (-(2 ^ 62) ≤ i ∧ i < 2 ^ 62 ∧ -(2 ^ 62) ≤ j ∧ j < 2 ^ 62) ∧ compR i g tt te σ0 Q (j - i).toNat H1
theorem tCompR2_eq {k : Nat} {js : List Nat} {t u : TE} {g : TG} {tt : TT} {te : TE} {σ : St} {H : Hp} {Q : VK} : tComp k js (iRng2 (tCons t (tCons u tNil))) g tt te σ H Q = t σ H (fun x H1 => u σ H1 fun y H2 => compR2 g tt te (up k js σ) Q x y H2) := rfl
section
variable {X : Cx}
end
end L2

set_option linter.all false
set_option maxRecDepth 100000
set_option maxHeartbeats 4000000
namespace L2
open PySem PySem.Spec PyProof.Rows
def Itz (K : PySem.W.Frag) (a b : Addr) : It :=
  ⟨fun i H => ∃ xs x ys y, SqL K H a xs ∧ xs[i]? = some x ∧ SqL K H b ys ∧ ys[i]? = some y, fun i H v H' => ∃ p x y, H p = none ∧ (∀ xs, SqL K H a xs → xs[i]? = some x) ∧ (∀ ys, SqL K H b ys → ys[i]? = some y) ∧ H' = upd H p (.tup [x, y]) ∧ v = .ref p, fun i H => ∃ xs ys, SqL K H a xs ∧ SqL K H b ys ∧ (xs.length ≤ i ∨ ys.length ≤ i)⟩
section
variable {X : Cx}
def iZip (K : PySem.W.Frag) (ta : TA) : TI := fun σ H R => ta σ H fun vs H1 => ∃ a b, vs = [.ref a, .ref b] ∧ (∃ xs, SqL K H1 a xs) ∧ (∃ xs, SqL K H1 b xs) ∧ R (Itz K a b) H1
theorem zneN {a b : Nat} (h : a ≠ b) : (a : Addr) ≠ b := h
end
section
variable {K : PySem.W.Frag} {a b : Addr} {xs ys : List V} {g : TG} {tb : TS} {D : Ends} {σ : St} {H : Hp}
def forZ (K : PySem.W.Frag) (g : TG) (tb : TS) (D : Ends) (σ : St) (x y : V) (H1 : Hp) : Prop := ∃ a b, [x, y] = [.ref a, .ref b] ∧ (∃ xs, SqL K H1 a xs) ∧ (∃ xs, SqL K H1 b xs) ∧ ∃ W : Nat → Nat → St → Hp → Prop, (∃ m, W 0 m σ H1) ∧ ∀ i m σ H, W i m σ H →
  ((Itz K a b).stop i H ∧ D.nx σ H) ∨ ((Itz K a b).go i H ∧ ∃ N : St → Hp → Prop, (∀ σ' H', N σ' H' → ∃ m', m' < m ∧ W (i + 1) m' σ' H') ∧ ∀ x H', (Itz K a b).yld i H x H' → g x σ H' fun σ2 H2 => tb { D with nx := N, ct := N, bk := D.nx } σ2 H2)
theorem tForZ_eq {t u : TE} : tFor (iZip K (tCons t (tCons u tNil))) g tb D σ H = t σ H (fun x H1 => u σ H1 fun y H2 => forZ K g tb D σ x y H2) := rfl
end
section
open PySem.SeqAt
open PySem.AutoSeq1 (wpAny_loadPart')
open PySem.MeetsSeq PySem.MeetsSeq2 PySem.MeetsSeq3 HT
end
section
variable {prog : Program} {w : World} {A : Around} {E : Value → Shared → Prop} {s : Shared}
end
section
variable {X : Cx}
end
end L2

set_option linter.all false
set_option maxRecDepth 100000
set_option maxHeartbeats 4000000
namespace L2
open PySem PySem.Spec PyProof.Rows
section
variable {κ : Type} [DecidableEq κ]
def valV (kvs : List (κ × V)) (k : κ) : Option V := (kvs.find? fun kv => decide (kv.1 = k)).map (·.2)
/-- in its place, or at the end -/
def putK (kvs : List (κ × V)) (k : κ) (v : V) : List (κ × V) :=
  if (kvs.any fun kv => decide (kv.1 = k)) = true then kvs.map (fun kv => if kv.1 = k then (kv.1, v) else kv) else kvs ++ [(k, v)]
theorem valV_nil {k : κ} : valV ([] : List (κ × V)) k = none := rfl
theorem valV_pos {p : κ × V} {r : List (κ × V)} {k : κ} (e : p.1 = k) : valV (p :: r) k = some p.2 := by simp [valV, List.find?_cons, e]
theorem valV_neg {p : κ × V} {r : List (κ × V)} {k : κ} (e : ¬ p.1 = k) : valV (p :: r) k = valV r k := by simp [valV, List.find?_cons, e]
theorem valV_any (k : κ) : ∀ kvs : List (κ × V), (kvs.any fun kv => decide (kv.1 = k)) = (valV kvs k).isSome
  | [] => rfl
  | p :: r => by
    rw [List.any_cons]
    by_cases e : p.1 = k
    · simp only [valV_pos e, decide_eq_true e, Bool.true_or, Option.isSome_some]
    · rw [valV_neg e, decide_eq_false e, Bool.false_or]; exact valV_any k r
theorem valV_map (k j : κ) (y : V) : ∀ kvs : List (κ × V), valV (kvs.map fun kv => if kv.1 = k then (kv.1, y) else kv) j = (valV kvs j).map fun x => if j = k then y else x
  | [] => rfl
  | p :: r => by
    have ih := valV_map k j y r
    rw [List.map_cons]
    by_cases h : p.1 = k
    · rw [if_pos h]
      by_cases e : p.1 = j
      · rw [valV_pos (p := (p.1, y)) e, valV_pos e, Option.map_some, if_pos (e.symm.trans h)]
      · rw [valV_neg (p := (p.1, y)) e, valV_neg e, ih]
    · rw [if_neg h]
      by_cases e : p.1 = j
      · rw [valV_pos (p := p) e, valV_pos e, Option.map_some, if_neg (fun z => h (e.trans z))]
      · rw [valV_neg (p := p) e, valV_neg e, ih]
theorem valV_snoc (k j : κ) (y : V) : ∀ kvs : List (κ × V), valV kvs k = none → valV (kvs ++ [(k, y)]) j = if j = k then some y else valV kvs j
  | [], _ => by
    by_cases e : k = j
    · rw [if_pos e.symm]; exact valV_pos (p := (k, y)) e
    · rw [if_neg (fun z => e z.symm)]; exact valV_neg (p := (k, y)) e
  | p :: r, hn => by
    rw [List.cons_append]
    have hk : ¬ p.1 = k := fun z => by rw [valV_pos z] at hn; cases hn
    rw [valV_neg hk] at hn
    have ih := valV_snoc k j y r hn
    by_cases e : p.1 = j
    · rw [valV_pos e, valV_pos e, if_neg (fun z => hk (e.trans z))]
    · rw [valV_neg e, valV_neg e, ih]
theorem valV_put (kvs : List (κ × V)) (k j : κ) (y : V) : valV (putK kvs k y) j = if j = k then some y else valV kvs j := by
  unfold putK
  by_cases a : (kvs.any fun kv => decide (kv.1 = k)) = true
  · rw [if_pos a, valV_map]
    rw [valV_any] at a
    by_cases e : j = k
    · obtain ⟨x, hx⟩ := Option.isSome_iff_exists.mp a
      rw [if_pos e, e, hx, Option.map_some, if_pos rfl]
    · rw [if_neg e]
      cases valV kvs j with
      | none => rfl
      | some x => rw [Option.map_some, if_neg e]
  · rw [if_neg a]
    refine valV_snoc k j y kvs ?_
    rw [valV_any] at a
    cases q : valV kvs k with
    | none => rfl
    | some x => rw [q] at a; exact (a rfl).elim
theorem length_putK (kvs : List (κ × V)) (k : κ) (v : V) : (putK kvs k v).length ≤ kvs.length + 1 := by
  unfold putK
  split
  · rw [List.length_map]; omega
  · rw [List.length_append, List.length_cons, List.length_nil]; omega
theorem RelO.isSome_eq {o : Option V} {u : Option Value} (r : RelO o u) : o.isSome = u.isSome := by
  cases o with
  | none => cases u with
    | none => rfl
    | some _ => exact (show False from r).elim
  | some _ => cases u with
    | none => exact (show False from r).elim
    | some _ => rfl
/-- raw tables of the same keys -/
theorem KV.val {kvs : List (κ × V)} {vs : List (κ × Value)} (r : KV kvs vs) (k : κ) : RelO (valV kvs k) (valueAt vs k) := by
  unfold KV at r
  induction r with
  | nil => exact True.intro
  | @cons p q ps qs h t ih =>
    obtain ⟨h1, h2⟩ := h
    by_cases e : p.1 = k
    · have e' : q.1 = k := h1.symm.trans e
      have b : valueAt (q :: qs) k = some q.2 := by simp [valueAt, List.find?_cons, e']
      rw [valV_pos e, b]; exact h2
    · have e' : ¬ q.1 = k := fun z => e (h1.trans z)
      have b : valueAt (q :: qs) k = valueAt qs k := by simp [valueAt, List.find?_cons, e']
      rw [valV_neg e, b]; exact ih
end


theorem kV_is {P : Program} {w : World} {k : Key} {u : Value} (r : RelV (kV k) u) : (mixKind P w).is k u = true := by
  cases k with
  | inl i => obtain ⟨t, e⟩ := (show ∃ t, u = Value.int i t from r); subst e; exact mixKind_int P w i t
  | inr x => obtain ⟨t, e⟩ := (show ∃ t, u = Value.str x t from r); subst e; exact mixKind_str P w x t
theorem items_are {P : Program} {w : World} : ∀ {ks : List Key} {us : List Value}, Vals (ks.map kV) us → ItemsAre (mixKind P w) ks us
  | [], _, r => by rw [List.map_nil] at r; cases r; exact .nil
  | k :: ks, _, r => by
    rw [List.map_cons] at r
    cases r with
    | cons h t => exact .cons (kV_is h) (items_are t)

/-- raw entries of a dict with tuple keys -/
abbrev KT (H : Hp) : List (List Key × V) → List (List Key × Addr × Value) → Prop := Paired fun p q => p.1 = q.1 ∧ H q.2.1 = some (.tup (p.1.map kV)) ∧ RelV p.2 q.2.2
theorem KT.val {H : Hp} {kvs : List (List Key × V)} {xs : List (List Key × Addr × Value)} (r : KT H kvs xs) (k : List Key) : RelO (valV kvs k) ((atKey xs k).map (·.2)) := by
  induction r with
  | nil => exact True.intro
  | @cons p q ps qs h t ih =>
    obtain ⟨h1, _, h2⟩ := h
    by_cases e : p.1 = k
    · have e' : q.1 = k := h1.symm.trans e
      have b : atKey (q :: qs) k = some q.2 := by simp [atKey, List.find?_cons, e']
      rw [valV_pos e, b]; exact h2
    · have e' : ¬ q.1 = k := fun z => e (h1.trans z)
      have b : atKey (q :: qs) k = atKey qs k := by simp [atKey, List.find?_cons, e']
      rw [valV_neg e, b]; exact ih
theorem KT.repl {H : Hp} {kvs : List (List Key × V)} {xs : List (List Key × Addr × Value)} (r : KT H kvs xs) (k : List Key) {y : V} {u : Value} (ry : RelV y u) :
    KT H (kvs.map fun kv => if kv.1 = k then (kv.1, y) else kv) (xs.map (putAt k u)) := by
  induction r with
  | nil => exact .nil
  | @cons p q ps qs h t ih =>
    rw [List.map_cons, List.map_cons]
    refine .cons ?_ ih
    obtain ⟨h1, h2, h3⟩ := h
    unfold putAt
    by_cases e : p.1 = k
    · rw [if_pos e, if_pos (h1.symm.trans e)]; exact ⟨h1, h2, ry⟩
    · rw [if_neg e, if_neg (fun z => e (h1.trans z))]; exact ⟨h1, h2, h3⟩
theorem KT.put {H : Hp} {kvs : List (List Key × V)} {xs : List (List Key × Addr × Value)} (r : KT H kvs xs) (k : List Key) {b : Addr} {y : V} {u : Value} (hb : H b = some (.tup (k.map kV))) (ry : RelV y u) :
    KT H (putK kvs k y) (storedH xs k b u) := by
  have e : (kvs.any fun kv => decide (kv.1 = k)) = (atKey xs k).isSome := by
    rw [valV_any, (r.val k).isSome_eq, Option.isSome_map]
  unfold putK storedH
  rw [e]
  by_cases q : (atKey xs k).isSome = true
  · rw [if_pos q, if_pos q]; exact r.repl k ry
  · rw [if_neg q, if_neg q]; exact Paired.snoc r ⟨rfl, hb, ry⟩
theorem KT.keeps {H H' : Hp} {kvs : List (List Key × V)} {xs : List (List Key × Addr × Value)} (r : KT H kvs xs) (ht : ∀ b ys, H b = some (.tup ys) → H' b = some (.tup ys)) : KT H' kvs xs :=
  Paired.mapP r fun _ _ z => ⟨z.1, ht _ _ z.2.1, z.2.2⟩

section
variable {P : Program} {w : World} {H : Hp} {h : Heap} {a : Addr}
theorem rd_of {u : HO} (ok : HOk P w H h) (e : Rd H a u) : ObjOk P w H h a u := e.ok ok
theorem dk_rd {kvs : List (Key × V)} (ok : HOk P w H h) (e : Rd H a (.dK kvs)) : kvs.length ≤ sizeLine ∧ (a == sysModules) = false ∧ ∃ vs, KV kvs vs ∧ h.DictOf (mixKind P w) a vs :=
  show ObjOk P w H h a (.dK kvs) from rd_of ok e
/-- a tracked tuple of ints and texts is a key -/
theorem key_of {ks : List Key} (ok : HOk P w H h) (e : H a = some (.tup (ks.map kV))) : (tupleKind (mixKind P w)).is h ks a := by
  obtain ⟨_, its, r, o, h1, h2, n, h3⟩ := (show ObjOk P w H h a (.tup (ks.map kV)) from ok a _ e)
  exact ⟨o, its.toArray, n, h1, h2, h3, by simpa using items_are r⟩
theorem dt_rd {kvs : List (List Key × V)} (ok : HOk P w H h) (e : Rd H a (.dT kvs)) : kvs.length ≤ sizeLine ∧ (a == sysModules) = false ∧
    ∃ xs, KT H kvs xs ∧ h.DictOfH (tupleKind (mixKind P w)) a xs := by
  obtain ⟨z, y, xs, r, o, es, ep, h1, h2, h3, h4, h5⟩ := (show ObjOk P w H h a (.dT kvs) from rd_of ok e)
  refine ⟨z, y, xs, r, o, es, ep, h1, h2, h3, h4, fun x hx => ?_, h5⟩
  have all : ∀ {l : List (List Key × V)} {m : List (List Key × Addr × Value)}, KT H l m → ∀ x ∈ m, (tupleKind (mixKind P w)).is h x.1 x.2.1 := by
    intro l m q
    induction q with
    | nil => intro x hx; exact nomatch hx
    | @cons p q ps qs hq t ih =>
      intro x hx
      rcases List.mem_cons.mp hx with e | hx
      · subst e
        exact key_of ok (by rw [← hq.1]; exact hq.2.1)
      · exact ih x hx
  exact all r x hx
end

/-- what the dict at a holds at the key y -/
def DGet (H : Hp) (a : Addr) (y : V) (r : Option V) : Prop :=
  (∃ kvs k, Rd H a (.dK kvs) ∧ y = kV k ∧ r = valV kvs k) ∨ ∃ kvs k b, Rd H a (.dT kvs) ∧ y = .ref b ∧ H b = some (.tup (k.map kV)) ∧ r = valV kvs k
/-- the heap behind a[y] = v -/
def DPut (H : Hp) (a : Addr) (y v : V) (H' : Hp) : Prop :=
  (∃ kvs k, H a = some (.dK kvs) ∧ y = kV k ∧ kvs.length < sizeLine ∧ H' = upd H a (.dK (putK kvs k v))) ∨
  ∃ kvs k b, H a = some (.dT kvs) ∧ y = .ref b ∧ H b = some (.tup (k.map kV)) ∧ kvs.length < sizeLine ∧ H' = upd H a (.dT (putK kvs k v))
theorem DGet.t {H : Hp} {a b : Addr} {kvs : List (List Key × V)} {k : List Key} (e : H a = some (.dT kvs)) (eb : H b = some (.tup (k.map kV))) : DGet H a (.ref b) (valV kvs k) := .inr ⟨kvs, k, b, .inl e, rfl, eb, rfl⟩
section
variable {X : Cx} {pins : List (Addr × Obj)} {σ : St} {H : Hp} {s : Shared} {a : Addr} {y v : V} {u r : Value} {o : Option V} {A : Around} {E : Value → Shared → Prop}

theorem Inv.big (I : Inv X pins σ H s) : sysModules < s.heap.objs.size := by
  have h : mainGlobals < s.heap.objs.size := (I.mod.glob.keeps I.bk).lt
  exact Nat.lt_trans (by decide) h

/-- y in d -/
theorem d_in {Q : Value → Shared → Prop} (hu : A.units + 1 < cLine) (I : Inv X pins σ H s) (g : DGet H a y o) (ry : RelV y u) (h : ∀ s', Inv X pins σ H s' → Q (.bool o.isSome) s') :
    wpAny (model X.prog X.w) A (compareOp .In u (.ref a)) Q E s := by
  rcases g with ⟨kvs, k, e, ey, l⟩ | ⟨kvs, k, b, e, ey, eb, l⟩
  · subst ey
    obtain ⟨z, hd, vs, rel, dd⟩ := dk_rd I.hok e
    refine wpAny_in_of (kV_is ry) hd dd.mapOf ?_
    rw [← (rel.val k).isSome_eq, ← l]
    exact h _ (I.tok _)
  · subst ey
    cases (show u = Value.ref b from ry)
    obtain ⟨z, hd, xs, rel, dd⟩ := dt_rd I.hok e
    refine wpAny_in_heap (tupleKind_room_in1 hu) (key_of I.hok eb) hd dd ?_
    have q := (rel.val k).isSome_eq
    rw [Option.isSome_map] at q
    rw [← q, ← l]
    exact h _ (I.tok _)
end

section
variable {X : Cx} {pins : List (Addr × Obj)} {σ : St} {H : Hp} {s : Shared} {a : Addr} {kvs : List (Key × V)} {k : Key} {u : Value} {A : Around} {E : Value → Shared → Prop}
end


/-- d[y] -/
def tDGet (td ty : TE) : TE := fun σ H Q => td σ H fun x H1 => ty σ H1 fun y H2 => ∃ a v, x = .ref a ∧ DGet H2 a y (some v) ∧ Q v H2
/-- y in d, y not in d -/
def tDIn (ty td : TE) : TE := fun σ H Q => ty σ H fun y H1 => td σ H1 fun x H2 => ∃ a o, x = .ref a ∧ DGet H2 a y o ∧ Q (.bl o.isSome) H2
def tDNotIn (ty td : TE) : TE := fun σ H Q => ty σ H fun y H1 => td σ H1 fun x H2 => ∃ a o, x = .ref a ∧ DGet H2 a y o ∧ Q (.bl (!o.isSome)) H2
/-- d[y] = v -/
def sDPut (td ty tv : TE) : TS := fun D σ H => tv σ H fun v H1 => td σ H1 fun x H2 => ty σ H2 fun y H3 => ∃ a H4, x = .ref a ∧ DPut H3 a y v H4 ∧ D.nx σ H4
section
variable {X : Cx} {o i e value : Expr} {pos pos' tpos : Pos} {td ty tv : TE}
theorem pc_din (hu : X.A.units + 1 < cLine) (hi : PE X i ty) (ho : PE X o td) : PC X .In i o (tDIn ty td) := by
  intro pins s σ H Q I h
  refine thn (hi pins s σ H _ I h) fun iv s1 ⟨y, H1, I1, ry, q1⟩ => thn (ho pins s1 σ H1 _ I1 q1) fun u s2 ⟨x, H2, I2, rx, a, ov, ex, g, q2⟩ => ?_
  subst ex
  obtain rfl : u = Value.ref a := rx
  exact d_in hu I2 g ry fun s3 I3 => ⟨.bl ov.isSome, H2, I3, rfl, q2⟩
end


def tDNewT : TE := fun _ H Q => ∀ p, H p = none → Q (.ref p) (upd H p (.dT []))
section
variable {X : Cx} {pos : Pos}
end
end L2

set_option linter.all false
set_option maxRecDepth 100000
set_option maxHeartbeats 4000000
namespace L2
open PySem PySem.Spec PyProof.Rows
end L2
namespace L2
open PySem PySem.Spec PyProof.Rows
end L2

set_option linter.all false
set_option maxRecDepth 100000
set_option maxHeartbeats 4000000
namespace PySem
open Sem (wp)
namespace F
theorem lk_list_keys : typeLookup (.type "list") "keys" = pure none := by rw [typeLookup_type, builtinLookup_eq_fast]; kernel_rfl
theorem lk_list_getattr : typeLookup (.type "list") "__getattr__" = pure none := by rw [typeLookup_type, builtinLookup_eq_fast]; kernel_rfl
theorem sub_ae : isSubtype (.type "AttributeError") (.type "AttributeError") = pure true := by rw [isSubtype_type]; kernel_rfl
end F
section
variable {α : Type} {prog : Program} {w : World} {A : Around} {E : Value → Shared → Prop} {s : Shared}
/-- an exception of this class is new -/
def NewX (h h' : Heap) (e : Addr) : Prop := (∀ b u, h.get? b = some u → h'.get? b = some u) ∧ ∃ ob, h'.get? e = some ob ∧ ob.cls = .type "AttributeError"
theorem note_any {h : Heap} {g : Array GenState} {d : Drawn} {t : Nat} {os : OsState} {e : Addr} {v nm t0 : Value} {Q : Unit → Shared → Prop} (he : h.get? e = some { cls := .type "AttributeError", data := .fields #[t0, .none, .none, .none, .bool false, .none, unsetMember, unsetMember] })
    (hq : Q () ⟨h.update e (Obj.mapFields fun vs => vs.extract 0 6 ++ #[nm, v]), g, d, t, os⟩) : wpAny (model prog w) A (noteAttr (.ref e) v nm) Q E ⟨h, g, d, t, os⟩ := by
  have f1 := F.sub_ae
  have hT : (⟨h, g, d, t, os⟩ : Shared).TypeIs (.ref e) "AttributeError" := ⟨_, he, rfl⟩
  unfold noteAttr lacksNameAndObj
  refine wpAny_bind (wpAny_bind (wpAny_isInstance (b := true) hT f1 ?_))
  refine wpAny_bind (wpAny_load he ?_)
  refine wpAny_of_eq (a := true) (by kernel_rfl) ?_
  rw [if_pos rfl]
  refine wpAny_bind (wpAny_rule ?_)
  refine wpAny_bind (wpAny_typeOf hT ?_)
  show wpAny _ _ (layMembers e 6 #[nm, v]) _ _ _
  unfold layMembers
  refine wpAny_bind (wpAny_load he ?_)
  show wpAny _ _ (update e (Obj.mapFields fun vs => vs.extract 0 6 ++ #[nm, v])) _ _ _
  exact wpAny_update he hq
theorem raiseAttr_any {v : Value} {x msg : Str} {h : Heap} {g : Array GenState} {d : Drawn} {t : Nat} {os : OsState} {Q : α → Shared → Prop} (hh : A.handled = none) (hm : msg.length ≤ sizeLine)
    (hq : ∀ h' t' e, NewX h h' e → E (.ref e) ⟨h', g, d, t', os⟩) : wpAny (model prog w) A (raiseAttrError v x msg : Sem α) Q E ⟨h, g, d, t, os⟩ := by
  unfold raiseAttrError
  refine wpAny_bind (wpAny_mkStr (wpAny_bind ?_) hm)
  unfold newExc newTuple
  refine wpAny_bind (wpAny_newObj_type ?_)
  refine wpAny_bind (m := firstArgMember _ _) (wpAny_of_eq (a := Value.none) (by kernel_rfl) ?_)
  refine wpAny_newObj_type ?_
  have hk : ∀ b u, h.get? b = some u → (h.push { cls := .type "tuple", data := .seq [Value.str msg t].toArray }).get? b = some u := fun b u e => Heap.get?_push_of_some _ e
  show wpAny (model prog w) A (do noteAttr (.ref (h.push { cls := .type "tuple", data := .seq [Value.str msg t].toArray }).objs.size) v (← mkText x); raiseNew (.ref (h.push { cls := .type "tuple", data := .seq [Value.str msg t].toArray }).objs.size)) Q E ⟨(h.push { cls := .type "tuple", data := .seq [Value.str msg t].toArray }).push { cls := .type "AttributeError", data := .fields #[.ref h.objs.size, .none, .none, .none, .bool false, .none, unsetMember, unsetMember] }, g, d, t + 1, os⟩
  generalize (h.push { cls := .type "tuple", data := .seq [Value.str msg t].toArray }) = h1 at hk ⊢
  have hk2 : ∀ b u, h.get? b = some u → (h1.push { cls := .type "AttributeError", data := .fields #[.ref h.objs.size, .none, .none, .none, .bool false, .none, unsetMember, unsetMember] }).get? b = some u := fun b u e => Heap.get?_push_of_some _ (hk b u e)
  have hlt : ∀ b u, h.get? b = some u → b ≠ h1.objs.size := fun b u e => Nat.ne_of_lt (Heap.lt_size (hk b u e))
  have he : (h1.push { cls := .type "AttributeError", data := .fields #[.ref h.objs.size, .none, .none, .none, .bool false, .none, unsetMember, unsetMember] }).get? h1.objs.size = some { cls := .type "AttributeError", data := .fields #[.ref h.objs.size, .none, .none, .none, .bool false, .none, unsetMember, unsetMember] } := Heap.get?_push_size _ rfl
  generalize h1.push { cls := .type "AttributeError", data := .fields #[.ref h.objs.size, .none, .none, .none, .bool false, .none, unsetMember, unsetMember] } = h2 at hk2 he ⊢
  generalize h1.objs.size = ea at hlt he ⊢
  refine wpAny_bind (wpAny_mkText ?_)
  refine wpAny_bind (note_any he ?_)
  unfold raiseNew
  refine wpAny_bind (wpAny_handled ?_)
  rw [hh]
  first
    | refine wpAny_throw ?_
    | refine wpAny_bind (wpAny_pure (wpAny_throw ?_))
  exact hq _ _ _ ⟨fun b u e => (Heap.get?_update_other _ _ (Ne.symm (hlt b u e))).trans (hk2 b u e), _, Heap.get?_update_self _ he rfl, rfl⟩
end
section
variable {prog : Program} {w : World} {A : Around} {E : Value → Shared → Prop} {h : Heap} {g : Array GenState} {d : Drawn} {t : Nat} {os : OsState} {a : Addr} {its : Array Value} {n : Nat}
theorem nokeys_entry {tk : Tok} {Q : Fin → Shared → Prop} (hh : A.handled = none) (hx : h.get? a = some { cls := .type "list", data := .seq its n })
    (hq : ∀ h' t' e, NewX h h' e → E (.ref e) ⟨h', g, d, t', os⟩) :
    wpAny (model prog w) A (Builtin.«object.__getattribute__» ⟨[.ref a, .str "keys" tk], []⟩) Q E ⟨h, g, d, t, os⟩ := by
  have hT : (⟨h, g, d, t, os⟩ : Shared).TypeIs (.ref a) "list" := ⟨_, hx, rfl⟩
  have f4 := F.lk_list_keys
  repeat (any_goals (first | assumption | wp_step))
  exact raiseAttr_any hh (by decide +kernel) hq
theorem nokeys_call {tk : Tok} {R : Result → Shared → Prop} (hh : A.handled = none) (hx : h.get? a = some { cls := .type "list", data := .seq its n })
    (hq : ∀ h' t' e, NewX h h' e → R (.error (.ref e)) ⟨h', g, d, t', os⟩) :
    codeAny (model prog w) A (.call (.builtin "list.__getattribute__") ⟨[.ref a, .str "keys" tk], []⟩) R ⟨h, g, d, t, os⟩ :=
  codeAny_call_builtin F.slot_list_getattribute.plain F.entry_list_ga (F.slot_list_getattribute.check _ _ _ _ _ _ _ _ (show (⟨h, g, d, t, os⟩ : Shared).TypeIs (.ref a) "list" from ⟨_, hx, rfl⟩) (F.args_list_getattribute_2 _ _) (nokeys_entry hh hx hq))
theorem nokeys_by {tk : Tok} {Q : Value → Shared → Prop} (hh : A.handled = none) (hx : h.get? a = some { cls := .type "list", data := .seq its n })
    (hq : ∀ h' t' e, NewX h h' e → E (.ref e) ⟨h', g, d, t', os⟩) : wpAny (model prog w) A (getAttrBy (.ref a) (.str "keys" tk) false) Q E ⟨h, g, d, t, os⟩ := by
  have hT : (⟨h, g, d, t, os⟩ : Shared).TypeIs (.ref a) "list" := ⟨_, hx, rfl⟩
  have f2 := F.slot_list_getattribute.lookup
  have f3 := F.slot_list_getattribute.bind (.ref a)
  have f5 := F.lk_list_getattr
  have f6 := F.sub_ae
  repeat (any_goals (first | assumption | wp_step))
  refine nokeys_call hh hx fun h' t' e hn => ?_
  obtain ⟨k, ob, he, hc⟩ := id hn
  show wpAny _ _ (getattributeRaised (Value.ref a) (Value.str (Str.ofString "keys") tk) (Value.type "list") (.ref e) none false false) _ _ _
  unfold getattributeRaised
  refine wpAny_bind (wpAny_isInstance (b := true) (show (⟨h', g, d, t', os⟩ : Shared).TypeIs (.ref e) "AttributeError" from ⟨_, he, hc⟩) f6 ?_)
  rw [if_pos rfl]
  refine wpAny_bind (m := hookBehind _ _) (wpAny_of_eq (a := none) f5 ?_)
  show wpAny _ _ (attributeErrorLeaves _ _ _ false false) _ _ _
  unfold attributeErrorLeaves
  dsimp only
  rw [if_pos (by decide)]
  exact wpAny_bind (wpAny_throw (hq _ _ _ hn))
theorem nokeys_attr {Q : Option Value → Shared → Prop} (hh : A.handled = none) (hx : h.get? a = some { cls := .type "list", data := .seq its n })
    (hq : ∀ h' t', (∀ b u, h.get? b = some u → h'.get? b = some u) → Q none ⟨h', g, d, t', os⟩) : wpAny (model prog w) A (getAttr? (.ref a) "keys") Q E ⟨h, g, d, t, os⟩ := by
  have f6 := F.sub_ae
  unfold getAttr? getAttrBy?
  refine wpAny_bind (wpAny_mkText ?_)
  refine wpAny_bind (wpAny_attempt ?_)
  refine nokeys_by hh hx fun h' t' e hn => ?_
  obtain ⟨k, ob, he, hc⟩ := id hn
  show wpAny _ _ (do if ← isInstance (.ref e) (.type "AttributeError") then pure none else throw (.ref e)) _ _ _
  refine wpAny_bind (wpAny_isInstance (b := true) (show (⟨h', g, d, t', os⟩ : Shared).TypeIs (.ref e) "AttributeError" from ⟨_, he, hc⟩) f6 ?_)
  rw [if_pos rfl]
  exact wpAny_pure (hq _ _ k)
end
end PySem
namespace PySem
namespace F
theorem entry_upd_loop : entryFor table "dict.update.loop" = some Builtin.«dict.update.loop» := entryFor_of_tree (by kernel_rfl)
theorem plain_upd_loop : plainId "dict.update.loop" = true := by decide +kernel
end F
end PySem
namespace L2
open PySem PySem.Spec PyProof.Rows
theorem key_mono {P : Program} {w : World} {h h' : Heap} {ks : List Key} {a : Addr} (m : ∀ b o, h.get? b = some o → h'.get? b = some o) (k : (tupleKind (mixKind P w)).is h ks a) : (tupleKind (mixKind P w)).is h' ks a := by
  obtain ⟨o, its, n, h1, r⟩ := k
  exact ⟨o, its, n, m _ _ h1, r⟩
theorem KT.is {P : Program} {w : World} {H : Hp} {h : Heap} (ok : HOk P w H h) : ∀ {l : List (List Key × V)} {m : List (List Key × Addr × Value)}, KT H l m → ∀ x ∈ m, (tupleKind (mixKind P w)).is h x.1 x.2.1 := by
  intro l m q
  induction q with
  | nil => intro x hx; exact nomatch hx
  | @cons p q ps qs hq t ih =>
    intro x hx
    rcases List.mem_cons.mp hx with e | hx
    · subst e
      exact key_of ok (by rw [← hq.1]; exact hq.2.1)
    · exact ih x hx
/-- the pairs that dict(l) takes: the pair's place, the key's place, the key, the value -/
abbrev PQ := Addr × Addr × List Key × V
def putAll (m : List (List Key × V)) (ps : List PQ) : List (List Key × V) := ps.foldl (fun m q => putK m q.2.2.1 q.2.2.2) m
theorem putAll_len : ∀ (ps : List PQ) (m : List (List Key × V)), (putAll m ps).length ≤ m.length + ps.length
  | [], m => Nat.le_refl _
  | q :: r, m => by
    have := putAll_len r (putK m q.2.2.1 q.2.2.2)
    have h2 := length_putK m q.2.2.1 q.2.2.2
    show (putAll (putK m q.2.2.1 q.2.2.2) r).length ≤ _
    rw [List.length_cons]; omega
section
variable {X : Cx} {pins : List (Addr × Obj)} {σ : St} {H : Hp} {s1 : Shared} {A : Around}
def Lp (X : Cx) (H : Hp) (s1 s : Shared) (d : Addr) (kvs : List (List Key × V)) : Prop :=
  (∀ b o, s1.heap.get? b = some o → s.heap.get? b = some o) ∧ s = { s1 with heap := s.heap, toks := s.toks } ∧ ∃ xs, KT H kvs xs ∧ s.heap.DictOfH (tupleKind (mixKind X.prog X.w)) d xs
theorem dict_loop {R : Result → Shared → Prop} (I1 : Inv X pins σ H s1) (hh : A.handled = none) (hu : A.units + 1 < cLine) {I l d : Addr} {its : List Value} {ps : List PQ} (hps : Vals (ps.map fun q => V.ref q.1) its)
    (hp : ∀ q ∈ ps, H q.1 = some (.tup [.ref q.2.1, q.2.2.2]) ∧ H q.2.1 = some (.tup (q.2.2.1.map kV))) (hz : ps.length ≤ sizeLine) (hlI : l ≠ I) (hdI : d ≠ I) (hld : l ≠ d) (nI : s1.heap.get? I = none) (nd : s1.heap.get? d = none) :
    ∀ (k i : Nat) (s : Shared) (kvs : List (List Key × V)), ps.length - i = k → i ≤ ps.length → kvs.length ≤ i → (s.heap.IsListIter I l i ∧ s.heap.IsList l its.toArray) → Lp X H s1 s d kvs →
    (∀ s', Lp X H s1 s' d (putAll kvs (ps.drop i)) → R (.ok (.ret .none)) s') →
    codeAny (model X.prog X.w) A (.builtin "dict.update.loop" ⟨[.ref d, .ref I, rawInt i, .none], []⟩) R s := by
  have W := Walks.list (prog := X.prog) (w := X.w) (A := A.in1) hh I l hlI its.toArray
  have hn : its.toArray.size = ps.length := by rw [List.size_toArray, ← hps.length, List.length_map]
  rw [hn] at W
  have mv : ∀ {s : Shared} {h' : Heap} {tk : Nat} {kvs : List (List Key × V)}, Lp X H s1 s d kvs → (∀ b o, b ∉ [I] → s.heap.get? b = some o → h'.get? b = some o) → Lp X H s1 { s with heap := h', toks := tk } d kvs := by
    rintro s h' tk kvs ⟨p, e, xs, kt, o, es, ep, h1, h2, h3, h4, h5, h6⟩ m
    have p' : ∀ b o, s1.heap.get? b = some o → h'.get? b = some o := fun b o hb => m b o (fun z => by rw [List.mem_singleton.mp z, nI] at hb; cases hb) (p b o hb)
    exact ⟨p', by rw [e], xs, kt, o, es, ep, m d o (fun z => hdI (List.mem_singleton.mp z)) h1, h2, h3, h4, fun x hx => key_mono p' (KT.is I1.hok kt x hx), h6⟩
  intro k
  induction k with
  | zero =>
    intro i s kvs hk hi hkv hst hL hR
    have hin : i = ps.length := by omega
    subst hin
    refine codeAny_builtin F.entry_upd_loop ?_
    rw [Around.under_plainId F.plain_upd_loop _]
    show wpAny _ A.in1 (pyNext (.ref I) >>= _) _ _ s
    refine wpAny_bind (W.done s _ _ hst fun h' tk m => ?_)
    show wpAny _ A.in1 (Builtin.Dict.addKeywords d [] >>= fun _ => ret .none) _ _ _
    refine wpAny_bind (wpAny_pure (wpAny_pure ?_))
    refine hR _ ?_
    rw [List.drop_of_length_le (Nat.le_refl _)]
    exact mv hL m
  | succ k ih =>
    intro i s kvs hk hi hkv hst hL hR
    have hlt : i < ps.length := by omega
    refine codeAny_builtin F.entry_upd_loop ?_
    rw [Around.under_plainId F.plain_upd_loop _]
    show wpAny _ A.in1 (pyNext (.ref I) >>= _) _ _ s
    refine wpAny_bind (W.item i s _ _ hlt hst fun v h' tk hP hst' m => ?_)
    have hL' := mv (tk := tk) hL m
    obtain ⟨q, hq⟩ : ∃ q, ps[i]? = some q := ⟨_, List.getElem?_eq_getElem hlt⟩
    obtain ⟨u, hu1, ru⟩ := hps.get (show (ps.map fun q => V.ref q.1)[i]? = some (V.ref q.1) by rw [List.getElem?_map, hq]; rfl)
    have hv : v = u := by
      rw [← Array.getElem?_toList] at hP
      rw [hu1] at hP
      exact (Option.some.inj hP).symm
    subst hv
    cases (show v = Value.ref q.1 from ru)
    obtain ⟨ht, hkq⟩ := hp q (List.mem_of_getElem? hq)
    obtain ⟨pz, pe, xs, kt, hdd⟩ := hL'
    obtain ⟨_, its2, r2, o2, g1, g2, n2, g3⟩ := (show ObjOk X.prog X.w H s1.heap q.1 (.tup [.ref q.2.1, q.2.2.2]) from I1.hok q.1 _ ht)
    obtain ⟨u1, u2, rfl, rb, rv⟩ : ∃ u1 u2, its2 = [u1, u2] ∧ RelV (.ref q.2.1) u1 ∧ RelV q.2.2.2 u2 := by
      cases r2 with
      | cons p q =>
        cases q with
        | cons p' q' =>
          cases q'
          exact ⟨_, _, rfl, p, p'⟩
    cases (show u1 = Value.ref q.2.1 from rb)
    dsimp only
    refine wpAny_bind (wpAny_holding (wpAny_bind (wpAny_tryCatch ?_)))
    unfold Builtin.Dict.pairItems
    refine wpAny_bind (wpAny_typeOf (show Shared.TypeIs _ _ "tuple" from ⟨o2, pz _ _ g1, g2⟩) ?_)
    rw [if_pos (by decide)]
    refine wpAny_bind (wpAny_seqItems (pz _ _ g1) g3 (wpAny_pure ?_))
    show wpAny _ A.in1 (holding [.ref q.2.1, u2] (dictSet d (.ref q.2.1) u2)) _ _ _
    have hxl : xs.length = kvs.length := (Paired.length kt).symm
    refine wpAny_holding (wpAny_dictSet_heap (knd := tupleKind (mixKind X.prog X.w)) (tupleKind_room_in1 hu) (key_mono pz (key_of I1.hok hkq)) hdd (fun h2 dd2 sb => ?_) (by omega))
    refine wpAny_pure ⟨plainId_quiet F.plain_upd_loop _, ?_⟩
    have nb : ∀ {b : Addr} {o : Obj}, s1.heap.get? b = some o → b ≠ d := fun hb z => by rw [z, nd] at hb; cases hb
    refine ih (i + 1) _ (putK kvs q.2.2.1 q.2.2.2) (by omega) hlt (Nat.le_trans (length_putK _ _ _) (by omega)) (W.frame (i + 1) h' h2 hst' fun b hb o e => ?_) ⟨fun b o hb => (sb.2 b (nb hb)).trans (pz b o hb), by rw [hL.2.1], storedH xs q.2.2.1 q.2.1 u2, kt.put _ hkq rv, dd2⟩ fun s' hs' => hR s' ?_
    · refine (sb.2 b fun z => ?_).trans e
      rcases List.mem_cons.mp hb with y | y
      · exact hdI (z.symm.trans y)
      · exact hld ((List.mem_singleton.mp y).symm.trans z)
    · have e : ps.drop i = q :: ps.drop (i + 1) := by
        obtain ⟨h1, h2⟩ := List.getElem?_eq_some_iff.mp hq
        rw [List.drop_eq_getElem_cons h1, h2]
      rw [e]
      exact hs'
theorem call_dictP (hc : X.calm = true) (hu : X.A.units + 64 < cLine) : CallR X (.type "dict") (fun xs H Q => ∃ (p : Addr) (ps : List PQ), xs = [.ref p] ∧ H p = some (.lst (ps.map fun q => V.ref q.1)) ∧ (∀ q ∈ ps, H q.1 = some (.tup [.ref q.2.1, q.2.2.2]) ∧ H q.2.1 = some (.tup (q.2.2.1.map kV))) ∧
    ∀ d, H d = none → Q (.ref d) (upd H d (.dT (putAll [] ps)))) := by
  intro pins s σ H xs us Q I r h
  obtain ⟨p, ps, rfl, hpl, hps, q⟩ := h
  obtain ⟨u, rfl, rx⟩ := vals1 r
  cases rx
  obtain ⟨z, its, n, r', hl, e⟩ := I.lstM hpl
  rw [List.length_map] at z
  have hh : X.A.handled = none := I.ok.hd hc
  refine callType_codes (Q₁ := fun obj s₁ => obj = .ref s.heap.objs.size ∧ s₁ = { s with heap := s.heap.push { cls := .type "dict", data := .dict #[] } }) F.kt_called_dict (F.kt_typeCall_dict_1 _) F.entry_dict_init (kt_code_dict_new _ ⟨rfl, rfl⟩) ?_
  rintro obj s₁ ⟨rfl, rfl⟩
  have hdn : (s.heap.push { cls := .type "dict", data := .dict #[] }).get? s.heap.objs.size = some { cls := .type "dict", data := .dict #[] } := Heap.get?_push_size _ rfl
  have hk1 : ∀ b o, s.heap.get? b = some o → (s.heap.push { cls := .type "dict", data := .dict #[] }).get? b = some o := fun b o hb => Heap.get?_push_of_some _ hb
  have hT : Shared.TypeIs { s with heap := s.heap.push { cls := .type "dict", data := .dict #[] } } (.ref s.heap.objs.size) "dict" := ⟨_, hdn, rfl⟩
  refine ⟨hT, F.args_dict_init_2 _ _, ?_⟩
  unfold Builtin.«dict.__init__»
  refine wpAny_bind ?_
  unfold Builtin.Dict.selfAndRest
  refine wpAny_bind (wpAny_notOrdered_dict hT ?_)
  show wpAny _ _ (pure (s.heap.objs.size, [Value.ref p])) _ _ _
  refine wpAny_pure ?_
  show wpAny _ _ (Builtin.Dict.updateFrom "dict.__init__" s.heap.objs.size (.ref p) [] .none) _ _ _
  unfold Builtin.Dict.updateFrom
  refine wpAny_bind (wpAny_typeOf (show Shared.TypeIs _ (.ref p) "list" from ⟨_, hk1 _ _ e, rfl⟩) ?_)
  rw [if_pos (by decide)]
  refine wpAny_bind (nokeys_attr hh (hk1 _ _ e) fun h' t' k => ?_)
  rw [if_pos (by rfl)]
  refine wpAny_bind (wpAny_rule ?_)
  refine wpAny_bind (wpAny_pyIter_list (s := ⟨h', s.gens, s.drawn, t', s.os⟩) (items := its.toArray) ⟨_, k _ _ (hk1 _ _ e), rfl, n, rfl⟩ ?_)
  have hkd := k _ _ hdn
  have hlt : ∀ b o, s.heap.get? b = some o → b ≠ s.heap.objs.size := fun b o hb => Nat.ne_of_lt (Heap.lt_size hb)
  have hlt2 : ∀ b o, h'.get? b = some o → b ≠ h'.objs.size := fun b o hb => Nat.ne_of_lt (Heap.lt_size hb)
  have nn : ∀ {b : Addr}, (∀ o, s.heap.get? b = some o → False) → s.heap.get? b = none := fun {b} g => by
    cases eb : s.heap.get? b with
    | none => rfl
    | some o => exact (g o eb).elim
  refine wpAny_pure ⟨plainId_quiet F.plain_upd_loop _, dict_loop (A := X.A.in1) I hh (by show X.A.units + 1 + 1 < cLine; omega) (l := p) r' hps z (hlt2 _ _ (k _ _ (hk1 _ _ e))) (hlt2 _ _ hkd) (hlt _ _ e) (nn fun o ho => hlt2 _ _ (k _ _ (hk1 _ _ ho)) rfl) (nn fun o ho => hlt _ _ ho rfl) ps.length 0 _ [] rfl (Nat.zero_le _) (Nat.le_refl _) ⟨⟨_, Heap.get?_push_size _ rfl, rfl, rfl⟩, ⟨_, Heap.get?_push_of_some _ (k _ _ (hk1 _ _ e)), rfl, n, rfl⟩⟩ ⟨fun b o hb => Heap.get?_push_of_some _ (k _ _ (hk1 _ _ hb)), rfl, [], .nil, _, #[], 0, Heap.get?_push_of_some _ hkd, ⟨rfl, rfl, rfl⟩, rfl, rfl, ⟨(fun x hx => absurd hx List.not_mem_nil), List.nodup_nil⟩⟩ fun s' hs' => ⟨rfl, ?_⟩⟩
  obtain ⟨pz, pe, xs, kt, o, es, ep, h1, h2, h3, h4, _, h6⟩ := hs'
  have hlen : (putAll [] ps).length ≤ sizeLine := Nat.le_trans (putAll_len ps []) (by simpa using z)
  rw [pe]
  refine ⟨.ref s.heap.objs.size, _, I.laid (h' := s'.heap) (t' := s'.toks) (o := .dT (putAll [] ps)) pz (Nat.le_refl _) ⟨hlen, ?_, xs, kt.keeps fun c ys ec => ?_, o, es, ep, h1, h2, h3, h4, h6⟩, rfl, q _ (I.hok.fresh (Nat.le_refl _))⟩
  · have := I.big
    exact beq_eq_false_iff_ne.mpr (Nat.ne_of_gt this)
  · rw [upd_ne (ne_of_none ec (I.hok.fresh (Nat.le_refl _)))]
    exact ec
end
end L2

set_option linter.all false
set_option maxRecDepth 100000
set_option maxHeartbeats 4000000
namespace PySem
/-- a zip object of two iterators, whatever it holds of its own pair -/
abbrev IsZ (hp : Heap) (zo ti to : Addr) (f0 f1 : Value) : Prop :=
  hp.get? zo = some { cls := .type "zip", dict := none, data := .fields #[f0, f1, .bool false, .ref ti, .ref to], slots := #[] }
def F0 (f : Value) : Prop := f = .none ∨ ∃ a t, f = .int a t
section
variable {prog : Program} {w : World} {A : Around} {E : Value → Shared → Prop} {s : Shared} {zo ti to : Addr} {f0 f1 : Value}
theorem alive_any {a : Addr} {Q : Option Obj → Shared → Prop} (q : Q (s.heap.get? a) s) : wpAny (model prog w) A (loadIfAlive a) Q E s := fun Γ p hΓ => by
  unfold loadIfAlive
  rw [Sem.wp_loadIfAlive]
  exact wpAny_pure (M := model prog w) (A := A) (E := E) q Γ p hΓ
theorem zfree {Q : Bool → Shared → Prop} (hz : IsZ s.heap zo ti to f0 f1) (hf : F0 f0) (h1 : Q true s) (h2 : ∀ hp g1, IsZ hp zo ti to f0 g1 → Heap.SameBut zo s.heap hp → Q false { s with heap := hp }) :
    wpAny (model prog w) A (Builtin.SmallTypes.ownedTupleIsFree (.ref zo)) Q E s := by
  unfold Builtin.SmallTypes.ownedTupleIsFree
  refine wpAny_bind (wpAny_field hz rfl (x := f0) rfl ?_)
  rcases hf with rfl | ⟨a, t, rfl⟩
  · exact wpAny_pure h1
  · dsimp only
    refine wpAny_bind (alive_any ?_)
    by_cases ha : (s.heap.get? a.toNat).isNone = true
    · rw [if_pos ha]
      exact wpAny_pure h1
    · rw [if_neg ha]
      refine wpAny_bind (wpAny_field hz rfl (x := f1) rfl ?_)
      by_cases hb : (f1 != Value.bool true) = true
      · rw [if_pos hb]
        exact wpAny_bind (wpAny_setField_rec hz (by simp) fun hp hz2 hs2 => wpAny_pure (h2 hp _ hz2 hs2))
      · rw [if_neg hb]
        exact wpAny_pure (h2 s.heap f1 hz (Heap.SameBut.refl _ _))
/-- a turn of zip, whether its own pair is free or not: a new pair -/
theorem zipG_item {i1 i2 l1 l2 : Addr} {k : Nat} {xs ys : Array Value} {x y c0 c1 : Value} {Q : Value → Shared → Prop} (D : ZipApart zo ti to i1 i2 l1 l2)
    (qz : IsZ s.heap zo ti to f0 f1) (hf : F0 f0) (qT : IsPair s.heap ti (.ref i1) (.ref i2)) (qO : IsPair s.heap to c0 c1)
    (h1 : s.heap.IsListIter i1 l1 k) (h2 : s.heap.IsListIter i2 l2 k) (hl1 : s.heap.IsList l1 xs) (hl2 : s.heap.IsList l2 ys) (hx : xs[k]? = some x) (hy : ys[k]? = some y)
    (q : ∀ (hp : Heap) (p : Addr) (g0 g1 d0 d1 : Value), IsZ hp zo ti to g0 g1 → F0 g0 → IsPair hp to d0 d1 → hp.IsListIter i1 l1 (k + 1) → hp.IsListIter i2 l2 (k + 1) → IsPair hp p x y → p = s.heap.objs.size → (∀ c o, c ≠ zo → c ≠ to → c ≠ i1 → c ≠ i2 → s.heap.get? c = some o → hp.get? c = some o) → Q (.ref p) { s with heap := hp }) :
    wpAny (model prog w) A (Builtin.«zip.__next__» ⟨[.ref zo], []⟩) (fun fin s' => ∃ v, fin = .done (.ret v) ∧ Q v s') E s := by
  show wpAny _ _ (field (.ref zo) 2 >>= _) _ _ _
  refine wpAny_bind (wpAny_field qz rfl (x := .bool false) rfl ?_)
  show wpAny _ _ (field (.ref zo) 3 >>= _) _ _ _
  refine wpAny_bind (wpAny_field qz rfl (x := .ref ti) rfl ?_)
  refine wpAny_bind (wpAny_seqItems qT rfl ?_)
  show wpAny _ _ (Builtin.SmallTypes.ownedTupleIsFree (.ref zo) >>= _) _ _ _
  refine wpAny_bind (zfree qz hf ?_ ?_)
  · simp only [if_true]
    refine wpAny_bind (wpAny_rule (wpAny_bind (wpAny_field qz rfl (x := .ref to) rfl (wpAny_bind (wpAny_setField_rec qz (by simp) fun e1 z1 b1 => ?_)))))
    replace z1 : IsZ e1 zo ti to .ellipsis f1 := z1
    simp only [List.zipIdx_cons, List.zipIdx_nil, List.forIn_cons, List.forIn_nil]
    refine wpAny_bind (wpAny_bind (wpAny_bind (wpAny_onRaise ?_)))
    show wpAny _ _ (Builtin.SmallTypes.nextOf (.ref i1) >>= fun v => pure (some v)) _ _ _
    refine wpAny_bind (wpAny_nextOf_list_item (h1.extBut b1.extBut D.i1z) (hl1.extBut b1.extBut D.l1z) hx fun e2 t2 b2 => wpAny_pure ?_)
    have o2 : IsPair e2 to c0 c1 := b2.extBut _ _ D.TOi1 (b1.extBut _ _ D.TOz qO)
    refine wpAny_bind (wpAny_seqItems o2 rfl (wpAny_bind (wpAny_updateSeq_pair o2 fun e3 o3 b3 => wpAny_bind (wpAny_letGo (wpAny_pure ?_)))))
    replace o3 : IsPair e3 to x c1 := o3
    refine wpAny_bind (wpAny_bind (wpAny_onRaise ?_))
    show wpAny _ _ (Builtin.SmallTypes.nextOf (.ref i2) >>= fun v => pure (some v)) _ _ _
    refine wpAny_bind (wpAny_nextOf_list_item (((h2.extBut b1.extBut D.i2z).extBut b2.extBut D.i12.symm).extBut b3.extBut D.TOi2.symm) (((hl2.extBut b1.extBut D.l2z).extBut b2.extBut D.l2i1).extBut b3.extBut D.l2TO) hy fun e4 t4 b4 => wpAny_pure ?_)
    have o4 : IsPair e4 to x c1 := b4.extBut _ _ D.TOi2 o3
    refine wpAny_bind (wpAny_seqItems o4 rfl (wpAny_bind (wpAny_updateSeq_pair o4 fun e5 o5 b5 => wpAny_bind (wpAny_letGo (wpAny_pure (wpAny_pure ?_))))))
    replace o5 : IsPair e5 to x y := o5
    refine wpAny_bind (wpAny_seqItems o5 rfl (wpAny_bind (wpAny_newTuple ?_)))
    replace b2 : Heap.SameBut i1 e1 e2 := b2
    replace b3 : Heap.SameBut to e2 e3 := b3
    replace b4 : Heap.SameBut i2 e3 e4 := b4
    replace b5 : Heap.SameBut to e4 e5 := b5
    have sz : e5.objs.size = s.heap.objs.size := by rw [b5.1, b4.1, b3.1, b2.1, b1.1]
    have z5 : IsZ e5 zo ti to .ellipsis f1 := b5.extBut _ _ D.TOz.symm (b4.extBut _ _ D.i2z.symm (b3.extBut _ _ D.TOz.symm (b2.extBut _ _ D.i1z.symm z1)))
    have k5 : ∀ c o, c ≠ zo → c ≠ to → c ≠ i1 → c ≠ i2 → s.heap.get? c = some o → e5.get? c = some o := fun c o n1 n2 n3 n4 e => b5.extBut _ _ n2 (b4.extBut _ _ n4 (b3.extBut _ _ n2 (b2.extBut _ _ n3 (b1.extBut _ _ n1 e))))
    have t5 : e5.IsListIter i1 l1 (k + 1) := ((t2.extBut b3.extBut D.TOi1.symm).extBut b4.extBut D.i12).extBut b5.extBut D.TOi1.symm
    have u5 : e5.IsListIter i2 l2 (k + 1) := t4.extBut b5.extBut D.TOi2.symm
    have lz : zo < e5.objs.size := Heap.lt_size z5
    show wpAny _ _ (Builtin.SmallTypes.ownedTupleHandOut (.ref zo) (.ref e5.objs.size) >>= _) _ _ _
    refine wpAny_bind ?_
    unfold Builtin.SmallTypes.ownedTupleHandOut
    have z6 : IsZ (e5.push { cls := .type "tuple", data := .seq #[x, y] }) zo ti to .ellipsis f1 := Heap.get?_push_of_some _ z5
    refine wpAny_bind (wpAny_setField_rec z6 (by simp) fun e7 z7 b7 => wpAny_setField_rec z7 (by simp) fun e8 z8 b8 => wpAny_pure ⟨_, rfl, ?_⟩)
    replace z8 : IsZ e8 zo ti to (rawInt e5.objs.size) (.bool false) := z8
    replace b7 : Heap.SameBut zo (e5.push { cls := .type "tuple", data := .seq #[x, y] }) e7 := b7
    replace b8 : Heap.SameBut zo e7 e8 := b8
    have up : ∀ c o, c ≠ zo → e5.get? c = some o → e8.get? c = some o := fun c o n e => b8.extBut _ _ n (b7.extBut _ _ n (Heap.get?_push_of_some _ e))
    exact q e8 e5.objs.size _ _ x y z8 (.inr ⟨_, _, rfl⟩) (up _ _ D.TOz o5) (t5.at fun o e => up _ o D.i1z e) (u5.at fun o e => up _ o D.i2z e) (b8.extBut _ _ (Nat.ne_of_gt lz) (b7.extBut _ _ (Nat.ne_of_gt lz) (Heap.get?_push_size _ rfl))) sz fun c o n1 n2 n3 n4 e => up c o n1 (k5 c o n1 n2 n3 n4 e)
  · intro hp g1 hz2 sb
    simp only [Bool.false_eq_true, if_false]
    simp only [← Array.forIn_toList, List.forIn_cons, List.forIn_nil]
    refine wpAny_bind (wpAny_bind (wpAny_bind (wpAny_holding ?_)))
    show wpAny _ _ (Builtin.SmallTypes.nextOf (.ref i1) >>= fun v => pure (some v)) _ _ _
    refine wpAny_bind (wpAny_nextOf_list_item (h1.extBut sb.extBut D.i1z) (hl1.extBut sb.extBut D.l1z) hx fun e2 t2 b2 => wpAny_pure (wpAny_pure ?_))
    replace b2 : Heap.SameBut i1 hp e2 := b2
    refine wpAny_bind (wpAny_bind (wpAny_holding ?_))
    show wpAny _ _ (Builtin.SmallTypes.nextOf (.ref i2) >>= fun v => pure (some v)) _ _ _
    refine wpAny_bind (wpAny_nextOf_list_item ((h2.extBut sb.extBut D.i2z).extBut b2.extBut D.i12.symm) ((hl2.extBut sb.extBut D.l2z).extBut b2.extBut D.l2i1) hy fun e4 t4 b4 => wpAny_pure (wpAny_pure (wpAny_pure ?_)))
    replace b4 : Heap.SameBut i2 e2 e4 := b4
    show wpAny _ _ (newTuple [x, y] >>= fun r => ret r) _ _ { s with heap := e4 }
    refine wpAny_bind (wpAny_newTuple (wpAny_pure ⟨_, rfl, ?_⟩))
    have pu : ∀ c o, e4.get? c = some o → (e4.push { cls := .type "tuple", data := .seq #[x, y] }).get? c = some o := fun c o e => Heap.get?_push_of_some _ e
    have z4 : IsZ e4 zo ti to f0 g1 := b4.extBut _ _ D.i2z.symm (b2.extBut _ _ D.i1z.symm hz2)
    have o4 : IsPair e4 to c0 c1 := b4.extBut _ _ D.TOi2 (b2.extBut _ _ D.TOi1 (sb.extBut _ _ D.TOz qO))
    have sz : e4.objs.size = s.heap.objs.size := by rw [b4.1, b2.1, sb.1]
    exact q (e4.push { cls := .type "tuple", data := .seq #[x, y] }) e4.objs.size f0 g1 c0 c1 (pu _ _ z4) hf (pu _ _ o4) ((t2.extBut b4.extBut D.i12).at fun o e => pu _ o e) (t4.at fun o e => pu _ o e) (Heap.get?_push_size _ rfl) sz fun c o n1 n2 n3 n4 e => pu _ _ (b4.extBut _ _ n4 (b2.extBut _ _ n3 (sb.extBut _ _ n1 e)))
/-- the end of zip -/
theorem zipG_end {i1 i2 l1 l2 : Addr} {k : Nat} {xs ys : Array Value} {c0 c1 : Value} {Q : Fin → Shared → Prop} (hh : A.handled = none) (D : ZipApart zo ti to i1 i2 l1 l2)
    (qz : IsZ s.heap zo ti to f0 f1) (hf : F0 f0) (qT : IsPair s.heap ti (.ref i1) (.ref i2)) (qO : IsPair s.heap to c0 c1)
    (h1 : s.heap.IsListIter i1 l1 k) (h2 : s.heap.IsListIter i2 l2 k) (hl1 : s.heap.IsList l1 xs) (hl2 : s.heap.IsList l2 ys) (he : xs[k]? = none ∨ ys[k]? = none)
    (q : ∀ (hp : Heap) (e : Addr), (∀ c o, c ≠ zo → c ≠ to → c ≠ i1 → c ≠ i2 → s.heap.get? c = some o → hp.get? c = some o) → (∃ o, hp.get? e = some o ∧ o.cls = .type "StopIteration") → E (.ref e) { s with heap := hp }) :
    wpAny (model prog w) A (Builtin.«zip.__next__» ⟨[.ref zo], []⟩) Q E s := by
  show wpAny _ _ (field (.ref zo) 2 >>= _) _ _ _
  refine wpAny_bind (wpAny_field qz rfl (x := .bool false) rfl ?_)
  show wpAny _ _ (field (.ref zo) 3 >>= _) _ _ _
  refine wpAny_bind (wpAny_field qz rfl (x := .ref ti) rfl ?_)
  refine wpAny_bind (wpAny_seqItems qT rfl ?_)
  show wpAny _ _ (Builtin.SmallTypes.ownedTupleIsFree (.ref zo) >>= _) _ _ _
  refine wpAny_bind (zfree qz hf ?_ ?_)
  · simp only [if_true]
    refine wpAny_bind (wpAny_rule (wpAny_bind (wpAny_field qz rfl (x := .ref to) rfl (wpAny_bind (wpAny_setField_rec qz (by simp) fun e1 z1 b1 => ?_)))))
    replace z1 : IsZ e1 zo ti to .ellipsis f1 := z1
    simp only [List.zipIdx_cons, List.zipIdx_nil, List.forIn_cons, List.forIn_nil]
    refine wpAny_bind (wpAny_bind (wpAny_bind (wpAny_onRaise ?_)))
    show wpAny _ _ (Builtin.SmallTypes.nextOf (.ref i1) >>= fun v => pure (some v)) _ _ _
    cases hx : xs[k]? with
    | none =>
      refine wpAny_bind (wpAny_nextOf_list_end hh (h1.extBut b1.extBut D.i1z) (hl1.extBut b1.extBut D.l1z) hx fun e2 e b2 ⟨oe, ho, hc⟩ => ?_)
      have z2 : IsZ e2 zo ti to .ellipsis f1 := b2 _ _ D.i1z.symm z1
      have ne : e ≠ zo := fun z => by subst z; rw [z2] at ho; cases ho; simp at hc
      exact wpAny_setField_rec z2 (by simp) fun e3 _ b3 => q e3 e (fun c o n1 _ n3 _ x => b3.extBut _ _ n1 (b2 _ _ n3 (b1.extBut _ _ n1 x))) ⟨oe, b3.extBut _ _ ne ho, hc⟩
    | some x =>
      have hy : ys[k]? = none := he.resolve_left (by rw [hx]; simp)
      refine wpAny_bind (wpAny_nextOf_list_item (h1.extBut b1.extBut D.i1z) (hl1.extBut b1.extBut D.l1z) hx fun e2 t2 b2 => wpAny_pure ?_)
      have o2 : IsPair e2 to c0 c1 := b2.extBut _ _ D.TOi1 (b1.extBut _ _ D.TOz qO)
      refine wpAny_bind (wpAny_seqItems o2 rfl (wpAny_bind (wpAny_updateSeq_pair o2 fun e3 o3 b3 => wpAny_bind (wpAny_letGo (wpAny_pure ?_)))))
      refine wpAny_bind (wpAny_bind (wpAny_onRaise ?_))
      show wpAny _ _ (Builtin.SmallTypes.nextOf (.ref i2) >>= fun v => pure (some v)) _ _ _
      refine wpAny_bind (wpAny_nextOf_list_end hh (((h2.extBut b1.extBut D.i2z).extBut b2.extBut D.i12.symm).extBut b3.extBut D.TOi2.symm) (((hl2.extBut b1.extBut D.l2z).extBut b2.extBut D.l2i1).extBut b3.extBut D.l2TO) hy fun e4 e b4 ⟨oe, ho, hc⟩ => ?_)
      have z4 : IsZ e4 zo ti to .ellipsis f1 := b4 _ _ D.i2z.symm (b3.extBut _ _ D.TOz.symm (b2.extBut _ _ D.i1z.symm z1))
      have ne : e ≠ zo := fun z => by subst z; rw [z4] at ho; cases ho; simp at hc
      exact wpAny_setField_rec z4 (by simp) fun e5 _ b5 => q e5 e (fun c o n1 n2 n3 n4 x => b5.extBut _ _ n1 (b4 _ _ n4 (b3.extBut _ _ n2 (b2.extBut _ _ n3 (b1.extBut _ _ n1 x))))) ⟨oe, b5.extBut _ _ ne ho, hc⟩
  · intro hp g1 hz2 sb
    simp only [Bool.false_eq_true, if_false]
    simp only [← Array.forIn_toList, List.forIn_cons, List.forIn_nil]
    refine wpAny_bind (wpAny_bind (wpAny_bind (wpAny_holding ?_)))
    show wpAny _ _ (Builtin.SmallTypes.nextOf (.ref i1) >>= fun v => pure (some v)) _ _ _
    cases hx : xs[k]? with
    | none =>
      exact wpAny_bind (wpAny_nextOf_list_end hh (h1.extBut sb.extBut D.i1z) (hl1.extBut sb.extBut D.l1z) hx fun e2 e b2 hoe => q e2 e (fun c o n1 _ n3 _ x => b2 _ _ n3 (sb.extBut _ _ n1 x)) hoe)
    | some x =>
      have hy : ys[k]? = none := he.resolve_left (by rw [hx]; simp)
      refine wpAny_bind (wpAny_nextOf_list_item (h1.extBut sb.extBut D.i1z) (hl1.extBut sb.extBut D.l1z) hx fun e2 t2 b2 => wpAny_pure (wpAny_pure ?_))
      replace b2 : Heap.SameBut i1 hp e2 := b2
      refine wpAny_bind (wpAny_bind (wpAny_holding ?_))
      show wpAny _ _ (Builtin.SmallTypes.nextOf (.ref i2) >>= fun v => pure (some v)) _ _ _
      exact wpAny_bind (wpAny_nextOf_list_end hh ((h2.extBut sb.extBut D.i2z).extBut b2.extBut D.i12.symm) ((hl2.extBut sb.extBut D.l2z).extBut b2.extBut D.l2i1) hy fun e4 e b4 hoe => q e4 e (fun c o n1 _ n3 n4 x => b4 _ _ n4 (b2.extBut _ _ n3 (sb.extBut _ _ n1 x))) hoe)
theorem zipG_next {i1 i2 l1 l2 : Addr} {k : Nat} {xs ys : Array Value} {x y c0 c1 : Value} {Q : Option Value → Shared → Prop} (D : ZipApart zo ti to i1 i2 l1 l2)
    (qz : IsZ s.heap zo ti to f0 f1) (hf : F0 f0) (qT : IsPair s.heap ti (.ref i1) (.ref i2)) (qO : IsPair s.heap to c0 c1)
    (h1 : s.heap.IsListIter i1 l1 k) (h2 : s.heap.IsListIter i2 l2 k) (hl1 : s.heap.IsList l1 xs) (hl2 : s.heap.IsList l2 ys) (hx : xs[k]? = some x) (hy : ys[k]? = some y)
    (q : ∀ (hp : Heap) (p : Addr) (g0 g1 d0 d1 : Value), IsZ hp zo ti to g0 g1 → F0 g0 → IsPair hp to d0 d1 → hp.IsListIter i1 l1 (k + 1) → hp.IsListIter i2 l2 (k + 1) → IsPair hp p x y → p = s.heap.objs.size → (∀ c o, c ≠ zo → c ≠ to → c ≠ i1 → c ≠ i2 → s.heap.get? c = some o → hp.get? c = some o) → Q (some (.ref p)) { s with heap := hp }) :
    wpAny (model prog w) A (pyNext (.ref zo)) Q E s := by
  have tz : s.TypeIs (.ref zo) "zip" := ⟨_, qz, rfl⟩
  unfold pyNext
  exact wpAny_bind (wpAny_attempt (wpAny_callSpecial?_slot (name := Str.ofString "__next__") tz F.slot_zip_next (wpAny_call_entry F.slot_zip_next tz F.entry_zip_next (zipG_item D qz hf qT qO h1 h2 hl1 hl2 hx hy fun hp p g0 g1 d0 d1 a1 a2 a3 a4 a5 a6 a7 a8 => wpAny_pure (q hp p g0 g1 d0 d1 a1 a2 a3 a4 a5 a6 a7 a8)) (F.args_zip_next_1 _))))
theorem zipG_stop {i1 i2 l1 l2 : Addr} {k : Nat} {xs ys : Array Value} {c0 c1 : Value} {Q : Option Value → Shared → Prop} (hh : A.handled = none) (D : ZipApart zo ti to i1 i2 l1 l2)
    (qz : IsZ s.heap zo ti to f0 f1) (hf : F0 f0) (qT : IsPair s.heap ti (.ref i1) (.ref i2)) (qO : IsPair s.heap to c0 c1)
    (h1 : s.heap.IsListIter i1 l1 k) (h2 : s.heap.IsListIter i2 l2 k) (hl1 : s.heap.IsList l1 xs) (hl2 : s.heap.IsList l2 ys) (he : xs[k]? = none ∨ ys[k]? = none)
    (q : ∀ hp : Heap, (∀ c o, c ≠ zo → c ≠ to → c ≠ i1 → c ≠ i2 → s.heap.get? c = some o → hp.get? c = some o) → Q none { s with heap := hp }) : wpAny (model prog w) A (pyNext (.ref zo)) Q E s := by
  have tz : s.TypeIs (.ref zo) "zip" := ⟨_, qz, rfl⟩
  unfold pyNext
  refine wpAny_bind (wpAny_attempt (wpAny_callSpecial?_slot (name := Str.ofString "__next__") tz F.slot_zip_next (wpAny_call_entry F.slot_zip_next tz F.entry_zip_next (zipG_end hh D qz hf qT qO h1 h2 hl1 hl2 he fun hp e hk ⟨o, ho, hc⟩ => ?_) (F.args_zip_next_1 _))))
  exact wpAny_bind (wpAny_isInstance (T := "StopIteration") (b := true) ⟨o, ho, hc⟩ isSubtype_stop (wpAny_pure (q _ hk)))
theorem zipG_iter {Q : Value → Shared → Prop} (qz : IsZ s.heap zo ti to f0 f1) (h : Q (.ref zo) s) : wpAny (model prog w) A (pyIter (.ref zo)) Q E s := by
  have tz : s.TypeIs (.ref zo) "zip" := ⟨_, qz, rfl⟩
  refine wpAny_pyIter_slot tz F.slot_zip_iter (wpAny_call_entry F.slot_zip_iter tz F.entry_zip_iter ?_ (F.args_zip_iter_1 _))
  show wpAny _ _ (ret (.ref zo)) _ _ s
  exact wpAny_pure ⟨_, rfl, "zip", _, tz, F.slot_zip_next.lookup, h⟩
end
end PySem
namespace L2
open PySem PySem.Spec PyProof.Rows
/-- zip of two lists, its pairs by one name -/
theorem turn_zipN {P : Program} {w : World} {K : PySem.W.Frag} {x : Str} {tpos : Pos} (a b z TI TO i1 i2 : Addr) (D : ZipApart z TI TO i1 i2 a b) : Turn P w K (.Name x tpos) (Itz K a b) [z, TI, TO, i1, i2] z (fun i h => (∃ f0 f1, IsZ h z TI TO f0 f1 ∧ F0 f0) ∧ IsPair h TI (.ref i1) (.ref i2) ∧ (∃ u v, IsPair h TO u v) ∧ h.IsListIter i1 a i ∧ h.IsListIter i2 b i) where
  mem := by simp
  obj := fun i h st c hc => by
    obtain ⟨⟨f0, f1, hz, _⟩, hTI, ⟨u, v, hTO⟩, ⟨o1, e1, c1, d1⟩, ⟨o2, e2, c2, d2⟩⟩ := st
    have hc' : c = z ∨ c = TI ∨ c = TO ∨ c = i1 ∨ c = i2 := by simpa using hc
    rcases hc' with rfl | rfl | rfl | rfl | rfl
    · exact ⟨_, hz, fun v z => by cases z⟩
    · exact ⟨_, hTI, fun v z => by cases z⟩
    · exact ⟨_, hTO, fun v z => by cases z⟩
    · exact ⟨o1, e1, fun v z => by rw [d1] at z; cases z⟩
    · exact ⟨o2, e2, fun v z => by rw [d2] at z; cases z⟩
  keep := fun i h h' st k => by
    obtain ⟨⟨f0, f1, hz, hf⟩, hTI, ⟨u, v, hTO⟩, h1, h2⟩ := st
    exact ⟨⟨f0, f1, k z (by simp) _ hz, hf⟩, k TI (by simp) _ hTI, ⟨u, v, k TO (by simp) _ hTO⟩, h1.at fun o q => k i1 (by simp) o q, h2.at fun o q => k i2 (by simp) o q⟩
  item := by
    intro X hP hw hK hc i pins s σ H E I hf st hg
    subst hP hw hK
    obtain ⟨xs, x, ys, y, hq, hx, hq', hy⟩ := hg
    obtain ⟨its, rv, p, hzz⟩ := I.list hq
    obtain ⟨u, hu, ru⟩ := rv.get hx
    obtain ⟨its', rv', p', hzz'⟩ := I.list hq'
    obtain ⟨u', hu', ru'⟩ := rv'.get hy
    obtain ⟨⟨f0, f1, hz, hF⟩, hTI, ⟨ua, ub, hTO⟩, h1, h2⟩ := st
    refine zipG_next D hz hF hTI hTO h1 h2 p.isList p'.isList (x := u) (y := u') (by simpa using hu) (by simpa using hu') fun hp pa g0 g1 d0 d1 a1 a2 a3 a4 a5 a6 a7 hk => ⟨_, rfl, ?_⟩
    subst a7
    show wpAny _ _ (pure ()) _ _ _
    refine wpAny_pure ?_
    have hnew : H s.heap.objs.size = none := I.hok.fresh (Nat.le_refl _)
    refine ⟨.ref s.heap.objs.size, upd H s.heap.objs.size (.tup [x, y]), I.turn2 (ch := [z, TI, TO, i1, i2]) (t' := s.toks) hf (fun c ob hc q => ?_) (Nat.le_refl _) ?_, rfl, ⟨_, x, y, hnew, fun zs hz => by rw [I.list_inj hz hq]; exact hx, fun zs hz => by rw [I.list_inj hz hq']; exact hy, rfl, rfl⟩, ⟨⟨g0, g1, a1, a2⟩, hk _ _ D.TIz D.TITO D.TIi1 D.TIi2 hTI, ⟨_, _, a3⟩, a4, a5⟩, fun c hc => ?_⟩
    · exact hk c ob (fun e => hc (by simp [e])) (fun e => hc (by simp [e])) (fun e => hc (by simp [e])) (fun e => hc (by simp [e])) q
    · exact ⟨le_line (show 2 ≤ 1000 by decide), [u, u'], .cons ru (.cons ru' .nil), _, a6, rfl, 0, rfl⟩
    · have hn := (hf c hc).1
      have hc' : c = z ∨ c = TI ∨ c = TO ∨ c = i1 ∨ c = i2 := by simpa using hc
      obtain ⟨o1, g1, _⟩ := h1
      obtain ⟨o2, g2, _⟩ := h2
      have hlt : c < s.heap.objs.size := by
        rcases hc' with rfl | rfl | rfl | rfl | rfl
        · exact Heap.lt_size hz
        · exact Heap.lt_size hTI
        · exact Heap.lt_size hTO
        · exact Heap.lt_size g1
        · exact Heap.lt_size g2
      rw [upd_ne (Nat.ne_of_lt hlt)]; exact hn
  done := by
    intro X hP hw hK hc i pins s σ H E I hf st hg
    subst hP hw hK
    obtain ⟨xs, ys, hq, hq', hx⟩ := hg
    obtain ⟨its, rv, p, hzz⟩ := I.list hq
    obtain ⟨its', rv', p', hzz'⟩ := I.list hq'
    obtain ⟨⟨f0, f1, hz, hF⟩, hTI, ⟨ua, ub, hTO⟩, h1, h2⟩ := st
    have hl := rv.length
    have hl' := rv'.length
    refine zipG_stop (I.ok.hd hc) D hz hF hTI hTO h1 h2 p.isList p'.isList (hx.imp (fun z => by rw [List.getElem?_toArray]; exact List.getElem?_eq_none (by omega)) (fun z => by rw [List.getElem?_toArray]; exact List.getElem?_eq_none (by omega))) fun h' eb => ⟨rfl, ?_⟩
    have tr : ∀ c u, H c = some u → c ∉ [z, TI, TO, i1, i2] := fun c u e q => by rw [(hf c q).1] at e; cases e
    have k : ∀ c ob, c ∉ [z, TI, TO, i1, i2] → s.heap.get? c = some ob → h'.get? c = some ob := fun c ob n q => eb c ob (fun e => n (by simp [e])) (fun e => n (by simp [e])) (fun e => n (by simp [e])) (fun e => n (by simp [e])) q
    refine I.call (g' := s.gens) (t' := s.toks) (d' := s.drawn) (ch := [z, TI, TO, i1, i2]) ⟨fun b ob e n _ hx => k b ob hx e, fun b ob e n _ hx => ⟨ob.slots, k b ob hx e⟩, fun b ob e n _ => n, fun b ob e hx => ⟨ob, k b ob hx e⟩, fun b xs e => e, fun b ob u e => e, fun b qs e => ⟨#[], by rw [e]; simp⟩⟩ (fun b u e => ?_) I.bare fun b hb => ?_
    · refine (I.hok b u e).stay (fun c v hc q => k c v ?_ q) (fun c q => q) fun c xs q => q
      rcases hc with z | z
      · rw [z]; exact tr b u e
      · exact tr c _ z
    · obtain ⟨a1, a2, a3, a4, a5, a6⟩ := hf b hb
      exact ⟨a4, a2, a5, a6⟩
  self := fun _ _ _ _ _ st h => let ⟨⟨_, _, hz, _⟩, _⟩ := st; zipG_iter hz h
section
variable {X : Cx}
theorem pi_zipN {x : Str} {tpos : Pos} {l m : Expr} {ta : TA} {p pos : Pos} (hg : Gl X "zip") (hm : X.mg "zip" = none) (ha : PA X [l, m] ta)
    (he : starEach [l, m] X.env = (false, eval l X.env) :: starEach [m] X.env := by rfl) (hpl : (backTo pos (starEach [m] X.env)).any (·.1) = false := by rfl) :
    PI X (.Name x tpos) (.Call (.Name "zip" p) [l, m] [] pos) (iZip X.K ta) := by
  intro pins s σ H R I h
  refine Call_ (ld_blt I hg hm PyProof.Rows.boot_zip (PyProof.Rows.callWith_type1 (thn (ha pos pins s σ H _ I h) fun us s1 ⟨vs, H1, I1, r1, q1⟩ => ?_) he hpl))
  obtain ⟨a, b, e, ⟨xs, hq⟩, ⟨ys, hq'⟩, q⟩ := q1
  subst e
  obtain ⟨u, u', rfl, ru, ru'⟩ := vals2 r1
  cases ru
  cases ru'
  obtain ⟨its, rv, pl, hz⟩ := I1.list hq
  obtain ⟨its', rv', pl', hz'⟩ := I1.list hq'
  have hla : a < s1.heap.objs.size := by obtain ⟨o, ho, _⟩ := pl.isList; exact Heap.lt_size ho
  have hlb : b < s1.heap.objs.size := by obtain ⟨o, ho, _⟩ := pl'.isList; exact Heap.lt_size ho
  have D : ZipApart (s1.heap.objs.size + 4) (s1.heap.objs.size + 2) (s1.heap.objs.size + 3) s1.heap.objs.size (s1.heap.objs.size + 1) a b := by
    generalize s1.heap.objs.size = n at hla hlb ⊢
    have h1 : LT.lt (α := Nat) a n := hla
    have h2 : LT.lt (α := Nat) b n := hlb
    constructor <;> (refine zneN ?_; omega)
  refine call_zip_2 pl.isList pl'.isList fun h' z1 z2 z3 z4 z5 z6 hk => wpAny_pyIter_zip z1 ?_
  have I2 : Inv X pins σ H1 { s1 with heap := h' } := I1.kept (t' := s1.toks) hk
  refine ⟨s1.heap.objs.size + 4, _, _, Itz X.K a b, H1, rfl, I2, turn_zipN a b _ _ _ _ _ D, ⟨⟨_, _, z1, .inl rfl⟩, z2, ⟨_, _, z3⟩, z4, z5⟩, fun c hc => ?_, q⟩
  have hc' : c = s1.heap.objs.size + 4 ∨ c = s1.heap.objs.size + 2 ∨ c = s1.heap.objs.size + 3 ∨ c = s1.heap.objs.size ∨ c = s1.heap.objs.size + 1 := by simpa using hc
  have hle : s1.heap.objs.size ≤ c := by
    rcases hc' with rfl | rfl | rfl | rfl | rfl
    · exact Nat.le_add_right _ _
    · exact Nat.le_add_right _ _
    · exact Nat.le_add_right _ _
    · exact Nat.le_refl _
    · exact Nat.le_add_right _ _
  exact I1.fpOk hle (I1.hok.fresh hle)
theorem call_maxT (hc : X.calm = true) : CallR X (.builtin "max") (fun xs H Q => ∃ (p : Addr) (ns : List Int), xs = [.ref p] ∧ SqT X.K H p (ns.map V.int) ∧ ns ≠ [] ∧ ∀ M, M ∈ ns → (∀ a ∈ ns, a ≤ M) → Q (.int M) H) := by
  intro pins s σ H xs us Q I r h
  obtain ⟨p, ns, rfl, hq, hne, q⟩ := h
  obtain ⟨u, rfl, rx⟩ := vals1 r
  cases rx
  obtain ⟨its, rv, pl, hz⟩ := I.tuple hq
  have hi := intsAre_of rv
  obtain ⟨xs, e⟩ := hi.allInts.items
  have hns : ns = xs.toList.map (·.1) := by rw [← hi.numsOf, ← nums_intItems, ← e]
  obtain ⟨o, ho, hcl, n, hd⟩ := pl
  rw [e] at hd
  have hl : s.heap.IsTuple p (intItems xs) := ⟨o, ho, hcl, n, hd⟩
  have hlt : p < s.heap.objs.size := Heap.lt_size ho
  have hx0 : 0 < xs.size := by
    rcases Nat.eq_zero_or_pos xs.size with z | z
    · rw [hns, Array.eq_empty_of_size_eq_zero z] at hne; exact absurd rfl hne
    · exact z
  refine call_max_walk (wpAny_pyIter_tuple hl ?_)
  refine ⟨_, [_, p], [_], _, _, _, _, rfl, Walks.tuple (A := X.A.in1) (I.ok.hd hc) _ p (Nat.ne_of_lt hlt) (intItems xs), ⟨⟨_, Heap.get?_push_size _ rfl, rfl, rfl⟩, ⟨o, Heap.get?_push_of_some _ ho, hcl, n, hd⟩⟩, fun c hc => ?_, by simpa [intItems] using hx0, CmpOf.ints_gt (numAt xs) (fun _ _ => intItems_at), fun v h' tk hP hk => ?_⟩
  · show c < (s.heap.push _).objs.size
    rw [Heap.size_push]
    rcases List.mem_cons.mp hc with rfl | hc
    · exact Nat.lt_succ_self _
    · rw [List.mem_singleton.mp hc]; exact Nat.lt_succ_of_lt hlt
  · have k : ∀ c o, s.heap.get? c = some o → h'.get? c = some o := fun c o e => by
      refine hk c o (fun hm => ?_) (Heap.get?_push_of_some _ e)
      exact absurd (Heap.lt_size e) (by rw [List.mem_singleton.mp hm]; exact Nat.lt_irrefl _)
    have hP' : (intItems xs)[argBest (fun i j => decide (numAt xs i > numAt xs j)) (xs.size - 1)]? = some v := by simpa [intItems] using hP
    obtain ⟨t, rfl⟩ := intItems_at hP'
    obtain ⟨g1, g2⟩ := argBest_gt (numAt xs) (xs.size - 1)
    refine ⟨.int _, H, I.kept k, ⟨_, rfl⟩, q _ ?_ fun a ha => ?_⟩
    · rw [hns, numAt_eq]; exact getD_mem (by rw [List.length_map, Array.length_toList]; omega)
    · rw [hns] at ha
      obtain ⟨j, hj, rfl⟩ := mem_getD ha
      rw [List.length_map, Array.length_toList] at hj
      rw [← numAt_eq]; exact g2 j (by omega)
theorem call_minT (hc : X.calm = true) : CallR X (.builtin "min") (fun xs H Q => ∃ (p : Addr) (ns : List Int), xs = [.ref p] ∧ SqT X.K H p (ns.map V.int) ∧ ns ≠ [] ∧ ∀ M, M ∈ ns → (∀ a ∈ ns, M ≤ a) → Q (.int M) H) := by
  intro pins s σ H xs us Q I r h
  obtain ⟨p, ns, rfl, hq, hne, q⟩ := h
  obtain ⟨u, rfl, rx⟩ := vals1 r
  cases rx
  obtain ⟨its, rv, pl, hz⟩ := I.tuple hq
  have hi := intsAre_of rv
  obtain ⟨xs, e⟩ := hi.allInts.items
  have hns : ns = xs.toList.map (·.1) := by rw [← hi.numsOf, ← nums_intItems, ← e]
  obtain ⟨o, ho, hcl, n, hd⟩ := pl
  rw [e] at hd
  have hl : s.heap.IsTuple p (intItems xs) := ⟨o, ho, hcl, n, hd⟩
  have hlt : p < s.heap.objs.size := Heap.lt_size ho
  have hx0 : 0 < xs.size := by
    rcases Nat.eq_zero_or_pos xs.size with z | z
    · rw [hns, Array.eq_empty_of_size_eq_zero z] at hne; exact absurd rfl hne
    · exact z
  refine call_min_walk (wpAny_pyIter_tuple hl ?_)
  refine ⟨_, [_, p], [_], _, _, _, _, rfl, Walks.tuple (A := X.A.in1) (I.ok.hd hc) _ p (Nat.ne_of_lt hlt) (intItems xs), ⟨⟨_, Heap.get?_push_size _ rfl, rfl, rfl⟩, ⟨o, Heap.get?_push_of_some _ ho, hcl, n, hd⟩⟩, fun c hc => ?_, by simpa [intItems] using hx0, CmpOf.ints_lt (numAt xs) (fun _ _ => intItems_at), fun v h' tk hP hk => ?_⟩
  · show c < (s.heap.push _).objs.size
    rw [Heap.size_push]
    rcases List.mem_cons.mp hc with rfl | hc
    · exact Nat.lt_succ_self _
    · rw [List.mem_singleton.mp hc]; exact Nat.lt_succ_of_lt hlt
  · have k : ∀ c o, s.heap.get? c = some o → h'.get? c = some o := fun c o e => by
      refine hk c o (fun hm => ?_) (Heap.get?_push_of_some _ e)
      exact absurd (Heap.lt_size e) (by rw [List.mem_singleton.mp hm]; exact Nat.lt_irrefl _)
    have hP' : (intItems xs)[argBest (fun i j => decide (numAt xs i < numAt xs j)) (xs.size - 1)]? = some v := by simpa [intItems] using hP
    obtain ⟨t, rfl⟩ := intItems_at hP'
    obtain ⟨g1, g2⟩ := argBest_lt (numAt xs) (xs.size - 1)
    refine ⟨.int _, H, I.kept k, ⟨_, rfl⟩, q _ ?_ fun a ha => ?_⟩
    · rw [hns, numAt_eq]; exact getD_mem (by rw [List.length_map, Array.length_toList]; omega)
    · rw [hns] at ha
      obtain ⟨j, hj, rfl⟩ := mem_getD ha
      rw [List.length_map, Array.length_toList] at hj
      rw [← numAt_eq]; exact g2 j (by omega)
theorem call_maxTK (K : PySem.W.Frag) (hc : X.calm = true) (h : X.K = K := by rfl) : CallR X (.builtin "max") (fun xs H Q => ∃ (p : Addr) (ns : List Int), xs = [.ref p] ∧ SqT K H p (ns.map V.int) ∧ ns ≠ [] ∧ ∀ M, M ∈ ns → (∀ a ∈ ns, a ≤ M) → Q (.int M) H) := h ▸ call_maxT hc
theorem call_minTK (K : PySem.W.Frag) (hc : X.calm = true) (h : X.K = K := by rfl) : CallR X (.builtin "min") (fun xs H Q => ∃ (p : Addr) (ns : List Int), xs = [.ref p] ∧ SqT K H p (ns.map V.int) ∧ ns ≠ [] ∧ ∀ M, M ∈ ns → (∀ a ∈ ns, M ≤ a) → Q (.int M) H) := h ▸ call_minT hc
end
section
variable {K : PySem.W.Frag} {a b : Addr} {xs ys : List V} {g : TG} {σ : St} {H : Hp} {tt : TT} {te : TE} {Q : VK} {σ0 : St}
def compZ (K : PySem.W.Frag) (g : TG) (tt : TT) (te : TE) (σ0 : St) (Q : VK) (x y : V) (H1 : Hp) : Prop := ∃ a b, [x, y] = [.ref a, .ref b] ∧ (∃ xs, SqL K H1 a xs) ∧ (∃ xs, SqL K H1 b xs) ∧ ∃ W : Nat → Nat → List V → St → Hp → Prop, (∃ m, W 0 m [] σ0 H1) ∧ ∀ i m zs σ H, W i m zs σ H →
  ((Itz K a b).stop i H ∧ zs.length ≤ sizeLine ∧ ∀ p, H p = none → Q (.ref p) (upd H p (.lst zs))) ∨
  ((Itz K a b).go i H ∧ zs.length < sizeLine ∧ ∀ x H', (Itz K a b).yld i H x H' → g x σ H' fun σ2 H2 => tt σ2 H2 fun b H3 => if b = true then te σ2 H3 fun y H4 => ∃ m', m' < m ∧ W (i + 1) m' (zs ++ [y]) σ2 H4 else ∃ m', m' < m ∧ W (i + 1) m' zs σ2 H3)
theorem tCompZ_eq {k : Nat} {js : List Nat} {t u : TE} : tComp k js (iZip K (tCons t (tCons u tNil))) g tt te σ H Q = t σ H (fun x H1 => u σ H1 fun y H2 => compZ K g tt te (up k js σ) Q x y H2) := rfl
theorem compZ_of (h : SqL K H a xs) (h' : SqL K H b ys) (hz : xs.length ≤ 1000) (P : Nat → List V → St → Hp → Prop) (h0 : P 0 [] σ0 H) (hl : ∀ i zs σ H, i ≤ min xs.length ys.length → P i zs σ H → SqL K H a xs ∧ SqL K H b ys ∧ zs.length ≤ i)
    (hs : ∀ (i : Nat) zs x y σ H p, i < min xs.length ys.length → xs[i]? = some x → ys[i]? = some y → P i zs σ H → H p = none → g (.ref p) σ (upd H p (.tup [x, y])) fun σ2 H2 => tt σ2 H2 fun b H3 => if b = true then te σ2 H3 fun y H4 => Nxt P (min xs.length ys.length) i (zs ++ [y]) σ2 H4 else Nxt P (min xs.length ys.length) i zs σ2 H3)
    (hd : ∀ zs σ H, P (min xs.length ys.length) zs σ H → ∀ p, H p = none → Q (.ref p) (upd H p (.lst zs))) : compZ K g tt te σ0 Q (.ref a) (.ref b) H := by
  have hz' := le_line hz
  refine ⟨a, b, rfl, ⟨xs, h⟩, ⟨ys, h'⟩, fun i m zs σ H => m = min xs.length ys.length - i ∧ i ≤ min xs.length ys.length ∧ P i zs σ H, ⟨min xs.length ys.length, by simp, Nat.zero_le _, h0⟩, ?_⟩
  rintro i m zs σ H ⟨rfl, hi, p⟩
  obtain ⟨q, q', ly⟩ := hl i zs σ H hi p
  by_cases hlt : i < min xs.length ys.length
  · refine .inr ⟨⟨xs, xs[i], ys, ys[i], q, List.getElem?_eq_getElem (by omega), q', List.getElem?_eq_getElem (by omega)⟩, by omega, fun x H' y => ?_⟩
    obtain ⟨pp, x', y', hn, y1, y2, rfl, rfl⟩ := y
    exact hs i zs x' y' σ _ pp hlt (y1 xs q) (y2 ys q') p hn
  · have e : i = min xs.length ys.length := by omega
    subst e
    exact .inl ⟨⟨xs, ys, q, q', by omega⟩, by omega, hd zs σ H p⟩
end
end L2

set_option linter.all false
set_option maxRecDepth 100000
set_option maxHeartbeats 4000000
namespace L2
open PySem PySem.Spec PyProof.Rows
section
variable {X : Cx}
/-- x in a list of data, by == of data -/
def rInD (K : PySem.W.Frag) (neg : Bool) : R2 := fun x y H Q => ∃ d ds, Dp K H d x ∧ Dp K H (.list ds) y ∧ d.canLay0 = true ∧ PyData.canLayAll0 ds = true ∧ d.depth ≤ 60 ∧ Q (.bl (if neg then !ds.any (fun y => PyData.eqv y d) else ds.any fun y => PyData.eqv y d)) H
theorem op_notInD (hu : X.A.units + 64 < cLine) : OpR X (compareOp .NotIn) (rInD X.K true) := by
  intro pins s σ H x y v u Q I rx ry h
  obtain ⟨d, ds, h1, h2, c1, c2, dp, q⟩ := h
  obtain ⟨as, ra⟩ := I.reads h1 rx
  obtain ⟨bs, rb⟩ := I.reads h2 ry
  exact SeqAt.notIn_list_reads rb ra c2 c1 (by have := Nat.min_le_right (PyData.depthAll ds) d.depth; omega) ⟨.bl _, H, I, rfl, q⟩
end
theorem inD_of {α : Type} [DecidableEq α] {e : α → PyData} {n : Nat} {K : PySem.W.Frag} {H : Hp} {x y : V} {a : α} {bs : List α} {neg : Bool} {Q : VK} (h : Enc e n) (hn : n ≤ 60) (dx : Dp K H (e a) x) (dy : Dp K H (.list (bs.map e)) y)
    (q : Q (.bl (if neg then !decide (a ∈ bs) else decide (a ∈ bs))) H) : rInD K neg x y H Q := by
  refine ⟨_, _, dx, dy, h.lay a, h.layAll bs, Nat.le_trans (h.dep a) hn, ?_⟩
  have e1 : (bs.map e).any (fun y => PyData.eqv y (e a)) = decide (a ∈ bs) := by
    rw [List.any_map, Bool.eq_iff_iff, List.any_eq_true, decide_eq_true_iff]
    constructor
    · rintro ⟨b, hb, hz⟩
      have hz' : PyData.eqv (e b) (e a) = true := hz
      rw [h.eq] at hz'
      rw [← of_decide_eq_true hz']; exact hb
    · intro hb
      exact ⟨a, hb, show PyData.eqv (e a) (e a) = true by rw [h.eq]; exact decide_eq_true rfl⟩
  rw [e1]
  exact q
section
variable {X : Cx}
/-- (a, b, ..) = a list of that length -/
def gLst (K : PySem.W.Frag) (n : Nat) (t : TGs) : TG := fun v σ H Q => ∃ a xs, v = .ref a ∧ SqL K H a xs ∧ xs.length = n ∧ t xs σ H Q
theorem pg_lst {es : List Expr} {k : Nat} {pos : Pos} {t : TGs} {n : Nat} (hc : X.calm = true) (h : PGs X es t)
    (hn : (assignEach es X.env).length = n := by rfl) (hst : (assignEach es X.env).findIdx? (·.1) = none := by rfl) : PG X (.Tuple es k pos) (gLst X.K n t) := by
  intro pins s σ H v u Q I r hw
  obtain ⟨a, xs, e1, hq, hl, hw⟩ := hw
  subst e1
  cases r
  obtain ⟨its, rv, ⟨o, m, e, c, _, d⟩, hz⟩ := I.list hq
  have hL : s.heap.IsList a its.toArray := ⟨o, e, c, m, d⟩
  rw [assign_Tuple]
  refine wpAny_bind (wpAny_standAt ?_)
  unfold unpack
  rw [hst, show (assignEach es X.env).length = its.toArray.size by rw [hn, ← hl]; simp [rv.length]]
  refine wpAny_bind (wpAny_holding (PySem.W.kun_itemsOf (I.ok.hd hc) hL fun h' hx => ?_))
  have I1 : Inv X pins σ H { s with heap := h' } := I.kept (t' := s.toks) fun b o e => hx b o (Nat.ne_of_lt (Heap.lt_size e)) e
  exact h pins _ σ H xs _ Q I1 (by simpa using rv) hw
end
theorem gLst_of {K : PySem.W.Frag} {n : Nat} {t : TGs} {a : Addr} {xs : List V} {σ : St} {H : Hp} {Q : St → Hp → Prop} (h : SqL K H a xs) (l : xs.length = n) (q : t xs σ H Q) : gLst K n t (.ref a) σ H Q := ⟨a, xs, rfl, h, l, q⟩
end L2

set_option linter.all false
set_option maxRecDepth 100000
set_option maxHeartbeats 4000000
namespace L2S
open PySem PyProof.Rows
/-- the number by which a thing stands -/
def kn (f : Keyed → Int) (xs : Array Keyed) (i : Nat) : Int := ((xs[i]?).map f).getD 0
theorem kn_congr {f : Keyed → Int} {xs ys : Array Keyed} {i j : Nat} (h : xs[i]? = ys[j]?) : kn f xs i = kn f ys j := by unfold kn; rw [h]
/-- what the sort's own question answers -/
structure Asks (M : Model) (A : Around) (E : Value → Shared → Prop) (s : Shared) (κ : SortKind) (a₀ : Array Keyed) (f : Keyed → Int) : Prop where
  lt : ∀ x y, x ∈ a₀.toList → y ∈ a₀.toList → ∀ (st : SortSt) (Q : Option Bool → SortSt → Prop), kindOf st = κ → Q (some (decide (f x < f y))) st → wpS M A E s (lt' x y) Q st
structure SB (κ : SortKind) (a₀ : Array Keyed) (st : SortSt) : Prop where
  perm : (arrOf st).Perm a₀
  kind : kindOf st = κ
  fail : failedOf st = none
theorem SB.size {κ : SortKind} {a₀ : Array Keyed} {st : SortSt} (h : SB κ a₀ st) : (arrOf st).size = a₀.size := h.perm.size_eq
theorem SB.arr {κ : SortKind} {a₀ : Array Keyed} {st : SortSt} (h : SB κ a₀ st) {xs : Array Keyed} (hp : xs.Perm (arrOf st)) : SB κ a₀ (setArr st xs) := ⟨hp.trans h.perm, h.kind, h.fail⟩
theorem SB.get {κ : SortKind} {a₀ : Array Keyed} {st : SortSt} {f : Keyed → Int} (h : SB κ a₀ st) {i : Nat} (hi : i < a₀.size) : ∃ x, (arrOf st)[i]? = some x ∧ x ∈ a₀.toList ∧ kn f (arrOf st) i = f x := by
  have hi' : i < (arrOf st).size := by rw [h.size]; exact hi
  refine ⟨(arrOf st)[i], getElem?_pos _ i hi', (Array.perm_iff_toList_perm.mp h.perm).mem_iff.mp (by simp), ?_⟩
  unfold kn
  rw [getElem?_pos _ i hi']
  rfl
/-- rising from lo on, n of them -/
def Up (f : Keyed → Int) (xs : Array Keyed) (lo n : Nat) : Prop := ∀ i j, lo ≤ i → i ≤ j → j < lo + n → kn f xs i ≤ kn f xs j
def Down (f : Keyed → Int) (xs : Array Keyed) (lo n : Nat) : Prop := ∀ i j, lo ≤ i → i ≤ j → j < lo + n → kn f xs j ≤ kn f xs i
def Kept (lo : Nat) (xs ys : Array Keyed) : Prop := ∀ i, i < lo → ys[i]? = xs[i]?
theorem Kept.refl {lo : Nat} {xs : Array Keyed} : Kept lo xs xs := fun _ _ => rfl
theorem Kept.trans {lo : Nat} {xs ys zs : Array Keyed} (a : Kept lo xs ys) (b : Kept lo ys zs) : Kept lo xs zs := fun i h => (b i h).trans (a i h)
theorem kn_mirror {f : Keyed → Int} {xs : Array Keyed} {i j : Nat} (hj : j ≤ xs.size) (k : Nat) : kn f (mirror xs i j ((j - i) / 2)) k = if i ≤ k ∧ k < j then kn f xs (i + j - 1 - k) else kn f xs k := by
  have e := getElem?_mirror_all (i := i) hj k
  split
  · rename_i h; rw [if_pos h] at e; exact kn_congr e
  · rename_i h; rw [if_neg h] at e; exact kn_congr e
theorem kept_mirror {lo : Nat} {xs : Array Keyed} {i j : Nat} (hj : j ≤ xs.size) (hi : lo ≤ i) : Kept lo xs (mirror xs i j ((j - i) / 2)) := fun k hk => by
  rw [getElem?_mirror_all hj k, if_neg (by omega)]
theorem kn_same {f : Keyed → Int} {xs : Array Keyed} {i j : Nat} (hj : j ≤ xs.size) (he : ∀ k, i ≤ k → k < j → kn f xs k = kn f xs (j - 1)) (k : Nat) : kn f (mirror xs i j ((j - i) / 2)) k = kn f xs k := by
  rw [kn_mirror hj]
  split
  · rename_i h; rw [he _ (by omega) (by omega), he k h.1 h.2]
  · rfl
section
variable {M : Model} {A : Around} {E : Value → Shared → Prop} {s : Shared} {κ : SortKind} {a₀ : Array Keyed} {f : Keyed → Int}
theorem ask_at {st : SortSt} {i j : Nat} {Q : Option Bool → SortSt → Prop} (L : Asks M A E s κ a₀ f) (hB : SB κ a₀ st) (hi : i < a₀.size) (hj : j < a₀.size)
    (h : Q (some (decide (kn f (arrOf st) i < kn f (arrOf st) j))) st) : wpS M A E s (ltAt' i j) Q st := by
  obtain ⟨x, e1, m1, k1⟩ := hB.get (f := f) hi
  obtain ⟨y, e2, m2, k2⟩ := hB.get (f := f) hj
  rw [ltAt'_eq]
  refine wpS_bind (wpS_get ?_)
  show wpS _ _ _ _ (elem' (arrOf st) i >>= fun x => elem' (arrOf st) j >>= fun y => lt' x y) Q st
  rw [elem'_eq, elem'_eq, e1, e2]
  refine wpS_bind (wpS_pure (wpS_bind (wpS_pure (L.lt x y m1 m2 st Q hB.kind ?_))))
  rw [← k1, ← k2]
  exact h
theorem rev_at {st : SortSt} {i j : Nat} {Q : Unit → SortSt → Prop} (h : Q () (setArr st (mirror (arrOf st) i j ((j - i) / 2)))) : wpS M A E s (reverseSlice' i j) Q st := by
  rw [reverseSlice'_eq]
  exact wpS_modify h
def upLoop (lo a nrem : Nat) : StateT SortSt Sem AscSt :=
  forIn [a:nrem] ((none, a) : AscSt) fun _ c => do
    let r ← ltAt' (lo + c.snd) (lo + c.snd - 1)
    match r with
    | some b => if b = true then pure (ForInStep.done (none, c.snd)) else pure (ForInStep.yield (none, c.snd + 1))
    | _ => pure (ForInStep.done (some none, c.snd))
def tailL (lo n nrem : Nat) : StateT SortSt Sem (Option Nat) := do
  reverseSlice' lo (lo + n)
  let c ← upLoop lo n nrem
  match c.fst with
  | some r => pure r
  | none => pure (some c.snd)
def downLoop (lo n nrem : Nat) : StateT SortSt Sem DescSt :=
  forIn [n:nrem] ((none, n, 0) : DescSt) fun _ c => do
    let r ← ltAt' (lo + c.snd.fst) (lo + c.snd.fst - 1)
    match r with
    | some b =>
      if b = true then
        if c.snd.snd > 0 then do
          reverseSlice' (lo + c.snd.fst - (c.snd.snd + 1)) (lo + c.snd.fst)
          pure (ForInStep.yield (none, c.snd.fst + 1, 0))
        else pure (ForInStep.yield (none, c.snd.fst + 1, 0))
      else do
        let r2 ← ltAt' (lo + c.snd.fst - 1) (lo + c.snd.fst)
        match r2 with
        | some b2 =>
          if b2 = true then pure (ForInStep.done (none, c.snd.fst, c.snd.snd))
          else pure (ForInStep.yield (none, c.snd.fst + 1, c.snd.snd + 1))
        | _ => pure (ForInStep.done (some none, c.snd.fst, c.snd.snd))
    | _ => pure (ForInStep.done (some none, c.snd.fst, c.snd.snd))
def downPart (lo n nrem : Nat) : StateT SortSt Sem (Option Nat) := do
  liftM (rule "list.sort.descending-run")
  let c ← downLoop lo (n + 1) nrem
  match c.fst with
  | some r => pure r
  | none =>
    if c.snd.snd > 0 then do
      reverseSlice' (lo + c.snd.fst - (c.snd.snd + 1)) (lo + c.snd.fst)
      tailL lo c.snd.fst nrem
    else tailL lo c.snd.fst nrem
theorem bnd {α β : Type} (m : StateT SortSt Sem α) {g h : α → StateT SortSt Sem β} (e : ∀ a, g a = h a) : (m >>= g) = (m >>= h) := by rw [show g = h from funext e]
theorem count_eq (lo nrem : Nat) : countRun' lo nrem = (do
    let c ← upLoop lo 1 nrem
    match c.fst with
    | some r => pure r
    | none =>
      if (c.snd == nrem) = true then pure (some c.snd)
      else if c.snd > 1 then do
        let r ← ltAt' lo (lo + c.snd - 1)
        match r with
        | some b => if b = true then pure (some c.snd) else do
            reverseSlice' lo (lo + c.snd)
            downPart lo c.snd nrem
        | _ => pure none
      else downPart lo c.snd nrem) := by
  have tl : ∀ n2 : Nat, tailL lo n2 nrem = (reverseSlice' lo (lo + n2) >>= fun _ => upLoop lo n2 nrem >>= fun c => match c.fst with | some r => pure r | none => pure (some c.snd)) := fun _ => rfl
  rw [countRun'_eq]
  refine bnd (upLoop lo 1 nrem) fun c => ?_
  obtain ⟨r, n⟩ := c
  cases r with
  | some r => rfl
  | none =>
    have dn : ∀ n1 : Nat, (liftM (rule "list.sort.descending-run") >>= fun _ => downLoop lo (n1 + 1) nrem >>= fun c => match c.fst with
        | some r => pure r
        | none => if c.snd.snd > 0 then (reverseSlice' (lo + c.snd.fst - (c.snd.snd + 1)) (lo + c.snd.fst) >>= fun _ => tailL lo c.snd.fst nrem) else tailL lo c.snd.fst nrem) = downPart lo n1 nrem := fun _ => rfl
    dsimp only
    split
    · rfl
    · split
      · refine bnd (ltAt' lo (lo + n - 1)) fun x => ?_
        cases x with
        | none => rfl
        | some rose =>
          dsimp only
          split
          · rfl
          · refine bnd _ fun _ => ?_
            rw [← dn]
            refine bnd _ fun _ => bnd (downLoop lo (n + 1) nrem) fun s2 => ?_
            obtain ⟨r2, n2, q2⟩ := s2
            cases r2 with
            | some r2 => rfl
            | none =>
              dsimp only
              split
              · refine bnd _ fun _ => ?_
                rw [tl]
                refine bnd _ fun _ => bnd (upLoop lo n2 nrem) fun s3 => ?_
                obtain ⟨r3, n3⟩ := s3
                cases r3 <;> rfl
              · rw [tl]
                refine bnd _ fun _ => bnd (upLoop lo n2 nrem) fun s3 => ?_
                obtain ⟨r3, n3⟩ := s3
                cases r3 <;> rfl
      · rw [← dn]
        refine bnd _ fun _ => bnd (downLoop lo (n + 1) nrem) fun s2 => ?_
        obtain ⟨r2, n2, q2⟩ := s2
        cases r2 with
        | some r2 => rfl
        | none =>
          dsimp only
          split
          · refine bnd _ fun _ => ?_
            rw [tl]
            refine bnd _ fun _ => bnd (upLoop lo n2 nrem) fun s3 => ?_
            obtain ⟨r3, n3⟩ := s3
            cases r3 <;> rfl
          · rw [tl]
            refine bnd _ fun _ => bnd (upLoop lo n2 nrem) fun s3 => ?_
            obtain ⟨r3, n3⟩ := s3
            cases r3 <;> rfl
theorem up_one {xs : Array Keyed} {lo : Nat} : Up f xs lo 1 := fun i j h1 h2 h3 => by rw [show i = j by omega]; exact Int.le_refl _
theorem up_loop {st : SortSt} {lo a nrem : Nat} {Q : AscSt → SortSt → Prop} (L : Asks M A E s κ a₀ f) (hn : lo + nrem ≤ a₀.size) (ha : 1 ≤ a) (han : a ≤ nrem) (hB : SB κ a₀ st) (hs : Up f (arrOf st) lo a)
    (h : ∀ n, a ≤ n → n ≤ nrem → Up f (arrOf st) lo n → (n = nrem ∨ kn f (arrOf st) (lo + n) < kn f (arrOf st) (lo + n - 1)) → Q (none, n) st) : wpS M A E s (upLoop lo a nrem) Q st := by
  unfold upLoop
  refine wpS_forRange (I := fun x c st' => st' = st ∧ c = (none, x) ∧ Up f (arrOf st) lo x) ?_ ?_ ⟨rfl, rfl, hs⟩
  · rintro x c st' hax hxn ⟨rfl, rfl, hs'⟩
    dsimp only
    refine wpS_bind (ask_at L hB (by omega) (by omega) ?_)
    by_cases hl : kn f (arrOf st') (lo + x) < kn f (arrOf st') (lo + x - 1)
    · rw [decide_eq_true hl]
      exact wpS_pure (h x hax (by omega) hs' (.inr hl))
    · rw [decide_eq_false hl]
      refine wpS_pure ⟨rfl, rfl, fun i j h1 h2 h3 => ?_⟩
      by_cases hj : j < lo + x
      · exact hs' i j h1 h2 hj
      · by_cases hi : i = j
        · rw [hi]; exact Int.le_refl _
        · have e1 := hs' i (lo + x - 1) h1 (by omega) (by omega)
          rw [show j = lo + x by omega]
          omega
  · rintro c st' ⟨rfl, rfl, hs'⟩
    rw [Nat.max_eq_right han] at hs' ⊢
    exact h nrem han (Nat.le_refl _) hs' (.inl rfl)
abbrev CountQ (κ : SortKind) (a₀ : Array Keyed) (f : Keyed → Int) (lo nrem : Nat) (xs : Array Keyed) (pd : Array (Nat × Nat × Nat)) (Q : Option Nat → SortSt → Prop) : Prop :=
  ∀ m st', SB κ a₀ st' → 1 ≤ m → m ≤ nrem → Up f (arrOf st') lo m → Kept lo xs (arrOf st') → pendingOf st' = pd → Q (some m) st'
theorem tail_l {st : SortSt} {lo n nrem : Nat} {xs : Array Keyed} {pd : Array (Nat × Nat × Nat)} {Q : Option Nat → SortSt → Prop} (L : Asks M A E s κ a₀ f) (hn : lo + nrem ≤ a₀.size) (h1 : 1 ≤ n) (hnn : n ≤ nrem) (hB : SB κ a₀ st)
    (hs : Down f (arrOf st) lo n) (hk : Kept lo xs (arrOf st)) (hp : pendingOf st = pd) (h : CountQ κ a₀ f lo nrem xs pd Q) : wpS M A E s (tailL lo n nrem) Q st := by
  unfold tailL
  have hsz : lo + n ≤ (arrOf st).size := by rw [hB.size]; omega
  refine wpS_bind (rev_at ?_)
  have hB' : SB κ a₀ (setArr st (mirror (arrOf st) lo (lo + n) ((lo + n - lo) / 2))) := hB.arr (mirror_perm _ _ _ _)
  have hk' : Kept lo xs (mirror (arrOf st) lo (lo + n) ((lo + n - lo) / 2)) := hk.trans (kept_mirror hsz (Nat.le_refl _))
  refine wpS_bind (up_loop L hn h1 hnn hB' (fun i j z1 z2 z3 => ?_) fun m hm1 hm2 hsm _ => wpS_pure (h m _ hB' (by omega) hm2 hsm hk' hp))
  show kn f (mirror (arrOf st) lo (lo + n) _) i ≤ kn f (mirror (arrOf st) lo (lo + n) _) j
  rw [kn_mirror hsz, kn_mirror hsz, if_pos (by omega), if_pos (by omega)]
  exact hs _ _ (by omega) (by omega) (by omega)
theorem down_loop {st : SortSt} {lo n nrem : Nat} {xs : Array Keyed} {pd : Array (Nat × Nat × Nat)} {Q : DescSt → SortSt → Prop} (L : Asks M A E s κ a₀ f) (hn : lo + nrem ≤ a₀.size) (h1 : 1 ≤ n) (hnn : n ≤ nrem) (hB : SB κ a₀ st)
    (hs : Down f (arrOf st) lo n) (hk : Kept lo xs (arrOf st)) (hp : pendingOf st = pd)
    (h : ∀ m q st', SB κ a₀ st' → n ≤ m → m ≤ nrem → Down f (arrOf st') lo m → q + 1 ≤ m → (∀ i, lo + m - (q + 1) ≤ i → i < lo + m → kn f (arrOf st') i = kn f (arrOf st') (lo + m - 1)) → Kept lo xs (arrOf st') → pendingOf st' = pd → Q (none, m, q) st') :
    wpS M A E s (downLoop lo n nrem) Q st := by
  unfold downLoop
  refine wpS_forRange (I := fun x c st' => ∃ q, c = (none, x, q) ∧ SB κ a₀ st' ∧ Down f (arrOf st') lo x ∧ q + 1 ≤ x ∧ (∀ i, lo + x - (q + 1) ≤ i → i < lo + x → kn f (arrOf st') i = kn f (arrOf st') (lo + x - 1)) ∧ Kept lo xs (arrOf st') ∧ pendingOf st' = pd) ?_ ?_
    ⟨0, rfl, hB, hs, by omega, fun i z1 z2 => by rw [show i = lo + n - 1 by omega], hk, hp⟩
  · rintro x c st' hax hxn ⟨q, rfl, hB', hs', hq, he, hk', hp'⟩
    dsimp only
    have hsz : lo + x ≤ (arrOf st').size := by rw [hB'.size]; omega
    refine wpS_bind (ask_at L hB' (by omega) (by omega) ?_)
    by_cases hl : kn f (arrOf st') (lo + x) < kn f (arrOf st') (lo + x - 1)
    · rw [decide_eq_true hl]
      have more : ∀ ys : Array Keyed, (∀ k, kn f ys k = kn f (arrOf st') k) → Down f ys lo (x + 1) := fun ys hy i j z1 z2 z3 => by
        rw [hy, hy]
        by_cases hj : j < lo + x
        · exact hs' i j z1 z2 hj
        · by_cases hi : i = j
          · rw [hi]; exact Int.le_refl _
          · have e1 := hs' i (lo + x - 1) z1 (by omega) (by omega)
            rw [show j = lo + x by omega]
            omega
      dsimp only
      rw [if_pos rfl]
      by_cases hq0 : q > 0
      · rw [if_pos hq0]
        refine wpS_bind (rev_at (wpS_pure ⟨0, rfl, hB'.arr (mirror_perm _ _ _ _), more _ (kn_same hsz he), by omega, fun i z1 z2 => by rw [show i = lo + (x + 1) - 1 by omega], hk'.trans (kept_mirror hsz (by omega)), hp'⟩))
      · rw [if_neg hq0]
        exact wpS_pure ⟨0, rfl, hB', more _ (fun _ => rfl), by omega, fun i z1 z2 => by rw [show i = lo + (x + 1) - 1 by omega], hk', hp'⟩
    · rw [decide_eq_false hl]
      dsimp only
      rw [if_neg (by decide)]
      refine wpS_bind (ask_at L hB' (by omega) (by omega) ?_)
      by_cases hg : kn f (arrOf st') (lo + x - 1) < kn f (arrOf st') (lo + x)
      · rw [decide_eq_true hg]
        exact wpS_pure (h x q st' hB' hax (by omega) hs' hq he hk' hp')
      · rw [decide_eq_false hg]
        have ex : kn f (arrOf st') (lo + x) = kn f (arrOf st') (lo + x - 1) := by omega
        refine wpS_pure ⟨q + 1, rfl, hB', fun i j z1 z2 z3 => ?_, by omega, fun i z1 z2 => ?_, hk', hp'⟩
        · by_cases hj : j < lo + x
          · exact hs' i j z1 z2 hj
          · by_cases hi : i = j
            · rw [hi]; exact Int.le_refl _
            · have e1 := hs' i (lo + x - 1) z1 (by omega) (by omega)
              rw [show j = lo + x by omega]
              omega
        · rw [show lo + (x + 1) - 1 = lo + x by omega]
          by_cases hi : i = lo + x
          · rw [hi]
          · rw [ex]; exact he i (by omega) (by omega)
  · rintro c st' ⟨q, rfl, hB', hs', hq, he, hk', hp'⟩
    rw [Nat.max_eq_right hnn] at hs' hq he ⊢
    exact h nrem q st' hB' hnn (Nat.le_refl _) hs' hq he hk' hp'
theorem down_part {st : SortSt} {lo n nrem : Nat} {xs : Array Keyed} {pd : Array (Nat × Nat × Nat)} {Q : Option Nat → SortSt → Prop} (L : Asks M A E s κ a₀ f) (hn : lo + nrem ≤ a₀.size) (hnn : n + 1 ≤ nrem) (hB : SB κ a₀ st)
    (hs : Down f (arrOf st) lo (n + 1)) (hk : Kept lo xs (arrOf st)) (hp : pendingOf st = pd) (h : CountQ κ a₀ f lo nrem xs pd Q) : wpS M A E s (downPart lo n nrem) Q st := by
  unfold downPart
  refine wpS_bind (wpS_lift (wpAny_rule ⟨rfl, ?_⟩))
  refine wpS_bind (down_loop L hn (by omega) hnn hB hs hk hp fun m q st' hB' hm1 hm2 hs' hq he hk' hp' => ?_)
  dsimp only
  have hsz : lo + m ≤ (arrOf st').size := by rw [hB'.size]; omega
  by_cases hq0 : q > 0
  · rw [if_pos hq0]
    refine wpS_bind (rev_at (tail_l L hn (by omega) hm2 (hB'.arr (mirror_perm _ _ _ _)) (fun i j z1 z2 z3 => ?_) (hk'.trans (kept_mirror hsz (by omega))) hp' h))
    show kn f (mirror (arrOf st') _ _ _) j ≤ kn f (mirror (arrOf st') _ _ _) i
    rw [kn_same hsz he, kn_same hsz he]
    exact hs' i j z1 z2 z3
  · rw [if_neg hq0]
    exact tail_l L hn (by omega) hm2 hB' hs' hk' hp' h
theorem count_run {st : SortSt} {lo nrem : Nat} {Q : Option Nat → SortSt → Prop} (L : Asks M A E s κ a₀ f) (hn : lo + nrem ≤ a₀.size) (h1 : 1 ≤ nrem) (hB : SB κ a₀ st)
    (h : CountQ κ a₀ f lo nrem (arrOf st) (pendingOf st) Q) : wpS M A E s (countRun' lo nrem) Q st := by
  rw [count_eq]
  refine wpS_bind (up_loop L hn (Nat.le_refl 1) h1 hB up_one fun n hn1 hn2 hsn hor => ?_)
  dsimp only
  by_cases hnn : n = nrem
  · rw [if_pos (by simpa using hnn)]
    exact wpS_pure (h n st hB hn1 hn2 hsn .refl rfl)
  rw [if_neg (by simpa using hnn)]
  have hlt := hor.resolve_left hnn
  by_cases hgt : n > 1
  · rw [if_pos hgt]
    refine wpS_bind (ask_at L hB (by omega) (by omega) ?_)
    by_cases hr : kn f (arrOf st) lo < kn f (arrOf st) (lo + n - 1)
    · rw [decide_eq_true hr]
      exact wpS_pure (h n st hB hn1 hn2 hsn .refl rfl)
    rw [decide_eq_false hr]
    dsimp only
    rw [if_neg (by decide)]
    have hsz : lo + n ≤ (arrOf st).size := by rw [hB.size]; omega
    have hall : ∀ k, lo ≤ k → k < lo + n → kn f (arrOf st) k = kn f (arrOf st) (lo + n - 1) := fun k k1 k2 => by
      have a1 := hsn lo k (Nat.le_refl _) k1 k2
      have a2 := hsn k (lo + n - 1) k1 (by omega) (by omega)
      omega
    refine wpS_bind (rev_at (down_part L hn (by omega) (hB.arr (mirror_perm _ _ _ _)) (fun i j z1 z2 z3 => ?_) (kept_mirror hsz (Nat.le_refl _)) rfl h))
    show kn f (mirror (arrOf st) _ _ _) j ≤ kn f (mirror (arrOf st) _ _ _) i
    rw [kn_same hsz hall, kn_same hsz hall]
    by_cases hj : j < lo + n
    · rw [hall i z1 (by omega), hall j (by omega) hj]; exact Int.le_refl _
    · by_cases hi : i = j
      · rw [hi]; exact Int.le_refl _
      · rw [hall i z1 (by omega), show j = lo + n by omega]; exact Int.le_of_lt hlt
  · rw [if_neg hgt]
    have hn1' : n = 1 := by omega
    subst hn1'
    refine down_part L hn (by omega) hB (fun i j z1 z2 z3 => ?_) .refl rfl h
    by_cases hi : i = j
    · rw [hi]; exact Int.le_refl _
    · have e1 : i = lo := by omega
      have e2 : j = lo + 1 := by omega
      subst e1 e2
      exact Int.le_of_lt hlt
theorem kn_bubble {xs : Array Keyed} {src d : Nat} (hs : src < xs.size) (hd : d ≤ src) (k : Nat) : kn f (bubble xs src d) k = if k = src - d then kn f xs src else if src - d < k ∧ k ≤ src then kn f xs (k - 1) else kn f xs k := by
  have e := getElem?_bubble hs d hd k
  split
  · rename_i h; rw [if_pos h] at e; exact kn_congr e
  · rename_i h
    rw [if_neg h] at e
    split
    · rename_i h2; rw [if_pos h2] at e; exact kn_congr e
    · rename_i h2; rw [if_neg h2] at e; exact kn_congr e
theorem kept_bubble {lo : Nat} {xs : Array Keyed} {src d : Nat} (hs : src < xs.size) (hd : lo + d ≤ src) : Kept lo xs (bubble xs src d) := fun k hk => by
  rw [getElem?_bubble hs d (by omega) k, if_neg (by omega), if_neg (by omega)]
theorem bin_sort {st : SortSt} {lo n ok : Nat} {Q : Bool → SortSt → Prop} (L : Asks M A E s κ a₀ f) (hn : lo + n ≤ a₀.size) (hok : ok ≤ n) (hB : SB κ a₀ st) (hs : Up f (arrOf st) lo ok)
    (h : ∀ st', SB κ a₀ st' → Up f (arrOf st') lo n → Kept lo (arrOf st) (arrOf st') → pendingOf st' = pendingOf st → Q true st') : wpS M A E s (binarySort' lo n ok) Q st := by
  rw [binarySort'_eq]
  refine wpS_bind (wpS_mono (wpS_forRange (I := fun k c st' => c = (none, ()) ∧ SB κ a₀ st' ∧ Up f (arrOf st') lo (min k n) ∧ Kept lo (arrOf st) (arrOf st') ∧ pendingOf st' = pendingOf st)
    (Q := fun c st' => c = (none, ()) ∧ SB κ a₀ st' ∧ Up f (arrOf st') lo n ∧ Kept lo (arrOf st) (arrOf st') ∧ pendingOf st' = pendingOf st) ?_ ?_ ?_) ?_)
  · rintro k c st' hak hkn ⟨rfl, hB', hs', hk', hp'⟩
    rw [show min k n = k by omega] at hs'
    have hk : lo + k < a₀.size := by omega
    refine wpS_bind (wpS_mono (wpS_forRange (I := fun x c st2 => st2 = st' ∧ ∃ l r, c = (none, l, r) ∧ l ≤ r ∧ r ≤ k ∧ r - l ≤ k - x ∧
        (∀ i, i < l → kn f (arrOf st') (lo + i) ≤ kn f (arrOf st') (lo + k)) ∧ (∀ i, r ≤ i → i < k → kn f (arrOf st') (lo + k) < kn f (arrOf st') (lo + i)))
      (Q := fun c st2 => st2 = st' ∧ ∃ l r, c = (none, l, r) ∧ l ≤ k ∧ (∀ i, i < l → kn f (arrOf st') (lo + i) ≤ kn f (arrOf st') (lo + k)) ∧ (∀ i, l ≤ i → i < k → kn f (arrOf st') (lo + k) < kn f (arrOf st') (lo + i))) ?_ ?_ ?_) ?_)
    · rintro x c st2 _ hxk ⟨rfl, l, r, rfl, hlr, hrk, hm, hlo, hhi⟩
      dsimp only
      by_cases hge : l ≥ r
      · rw [if_pos hge]
        have : l = r := by omega
        subst this
        exact wpS_pure ⟨rfl, l, l, rfl, hrk, hlo, hhi⟩
      rw [if_neg hge]
      refine wpS_bind (ask_at L hB' hk (by omega) ?_)
      by_cases hl : kn f (arrOf st2) (lo + k) < kn f (arrOf st2) (lo + (l + r) / 2)
      · rw [decide_eq_true hl]
        refine wpS_pure ⟨rfl, l, (l + r) / 2, rfl, by omega, by omega, by omega, hlo, fun i z1 z2 => ?_⟩
        exact Int.lt_of_lt_of_le hl (hs' _ _ (by omega) (by omega) (by omega))
      · rw [decide_eq_false hl]
        refine wpS_pure ⟨rfl, (l + r) / 2 + 1, r, rfl, by omega, by omega, by omega, fun i z1 => ?_, hhi⟩
        have e1 := hs' (lo + i) (lo + (l + r) / 2) (by omega) (by omega) (by omega)
        omega
    · rintro c st2 ⟨rfl, l, r, rfl, hlr, hrk, hm, hlo, hhi⟩
      have : l = r := by omega
      subst this
      exact ⟨rfl, l, l, rfl, hrk, hlo, hhi⟩
    · exact ⟨rfl, 0, k, rfl, by omega, by omega, by omega, fun i hi => by omega, fun i z1 z2 => by omega⟩
    · rintro c st2 ⟨rfl, l, r, rfl, hlk, hlo, hhi⟩
      show wpS _ _ _ _ (moveDown' (lo + k) (lo + l) >>= fun _ => pure (ForInStep.yield (none, ()))) _ _
      rw [moveDown'_eq, show lo + k - (lo + l) = k - l by omega]
      have hks : lo + k < (arrOf st2).size := by rw [hB'.size]; exact hk
      refine wpS_bind (wpS_modify (wpS_pure ⟨rfl, hB'.arr (bubble_perm _ _ _), ?_, hk'.trans (kept_bubble hks (by omega)), hp'⟩))
      rw [show min (k + 1) n = k + 1 by omega]
      intro i j z1 z2 z3
      show kn f (bubble (arrOf st2) (lo + k) (k - l)) i ≤ kn f (bubble (arrOf st2) (lo + k) (k - l)) j
      have at' : ∀ m, lo ≤ m → m < lo + k + 1 → kn f (bubble (arrOf st2) (lo + k) (k - l)) m = if m < lo + l then kn f (arrOf st2) m else if m = lo + l then kn f (arrOf st2) (lo + k) else kn f (arrOf st2) (m - 1) := fun m m1 m2 => by
        rw [kn_bubble hks (by omega)]
        by_cases c1 : m < lo + l
        · rw [if_pos c1, if_neg (by omega), if_neg (by omega)]
        · rw [if_neg c1]
          by_cases c2 : m = lo + l
          · rw [if_pos c2, if_pos (by omega)]
          · rw [if_neg c2, if_neg (by omega), if_pos (by omega)]
      rw [at' i z1 (by omega), at' j (by omega) (by omega)]
      have lo' : ∀ m, lo ≤ m → m < lo + l → kn f (arrOf st2) m ≤ kn f (arrOf st2) (lo + k) := fun m m1 m2 => by
        have := hlo (m - lo) (by omega)
        rw [show lo + (m - lo) = m by omega] at this
        exact this
      have hi' : ∀ m, lo + l ≤ m → m < lo + k → kn f (arrOf st2) (lo + k) < kn f (arrOf st2) m := fun m m1 m2 => by
        have := hhi (m - lo) (by omega) (by omega)
        rw [show lo + (m - lo) = m by omega] at this
        exact this
      by_cases c1 : j < lo + l
      · rw [if_pos c1, if_pos (by omega)]
        exact hs' i j z1 z2 (by omega)
      rw [if_neg c1]
      by_cases c2 : j = lo + l
      · rw [if_pos c2]
        by_cases c3 : i < lo + l
        · rw [if_pos c3]; exact lo' i z1 c3
        · rw [if_neg c3, if_pos (by omega)]; exact Int.le_refl _
      · rw [if_neg c2]
        by_cases c3 : i < lo + l
        · rw [if_pos c3]; exact hs' i (j - 1) z1 (by omega) (by omega)
        · rw [if_neg c3]
          by_cases c4 : i = lo + l
          · rw [if_pos c4]; exact Int.le_of_lt (hi' (j - 1) (by omega) (by omega))
          · rw [if_neg c4]; exact hs' (i - 1) (j - 1) (by omega) (by omega) (by omega)
  · rintro c st' ⟨hc, hB', hs', hk', hp'⟩
    rw [show min (max (max ok 1) n) n = n by omega] at hs'
    exact ⟨hc, hB', hs', hk', hp'⟩
  · refine ⟨rfl, hB, fun i j z1 z2 z3 => ?_, .refl, rfl⟩
    by_cases h1 : ok = 0
    · rw [show i = j by omega]; exact Int.le_refl _
    · exact hs i j z1 z2 (by omega)
  · rintro c st' ⟨rfl, hB', hs', hk', hp'⟩
    exact wpS_pure (h st' hB' hs' hk' hp')
end
end L2S

set_option linter.all false
set_option maxRecDepth 100000
set_option maxHeartbeats 4000000
namespace L2S
open PySem PyProof.Rows
def gal : Bool → Keyed → Array Keyed → Nat → Nat → Nat → StateT SortSt Sem (Option Nat) := sortPriv% PySem.Builtin.gallop
def past (left : Bool) (key : Keyed) (arr : Array Keyed) (base i : Nat) : StateT SortSt Sem (Option Bool) := do
  let y ← elem' arr (base + i)
  if left then lt' y key else return (← lt' key y).map (!·)
theorem gal_eq (left : Bool) (key : Keyed) (arr : Array Keyed) (base n hint : Nat) : gal left key arr base n hint = (do
  let mut o1 := 0
  let mut o2 := 1
  let mut p1 := 0
  let mut p2 := 0
  let some b0 ← past left key arr base hint | return none
  if b0 then
    let mx := n - hint
    for _ in [0:n] do
      if o2 ≥ mx then break
      let some b ← past left key arr base (hint + o2) | return none
      if !b then break
      o1 := o2
      o2 := 2 * o2 + 1
    p1 := hint + o1 + 1
    p2 := hint + min o2 mx
  else
    let mx := hint + 1
    for _ in [0:n] do
      if o2 ≥ mx then break
      let some b ← past left key arr base (hint - o2) | return none
      if b then break
      o1 := o2
      o2 := 2 * o2 + 1
    p1 := hint + 1 - min o2 mx
    p2 := hint - o1
  for _ in [0:n] do
    if p1 ≥ p2 then break
    let m := p1 + (p2 - p1) / 2
    let some b ← past left key arr base m | return none
    if b then p1 := m + 1 else p2 := m
  return some p2) := rfl
section
variable {M : Model} {A : Around} {E : Value → Shared → Prop} {s : Shared}
theorem gal_ok {left : Bool} {key : Keyed} {arr : Array Keyed} {base n hint : Nat} {st : SortSt} {Q : Option Nat → SortSt → Prop} (g : Nat → Bool) (hh : hint < n)
    (hp : ∀ i, i < n → ∀ Q : Option Bool → SortSt → Prop, Q (some (g i)) st → wpS M A E s (past left key arr base i) Q st) (hm : ∀ i j, i ≤ j → j < n → g j = true → g i = true)
    (h : ∀ k, k ≤ n → (∀ i, i < k → g i = true) → (∀ i, k ≤ i → i < n → g i = false) → Q (some k) st) : wpS M A E s (gal left key arr base n hint) Q st := by
  have hm' : ∀ i j, i ≤ j → j < n → g i = false → g j = false := fun i j z1 z2 z3 => by
    cases e : g j with
    | false => rfl
    | true => rw [hm i j z1 z2 e] at z3; cases z3
  have last : ∀ p1 p2 : Nat, p1 ≤ p2 → p2 ≤ n → (∀ i, i < p1 → g i = true) → (∀ i, p2 ≤ i → i < n → g i = false) →
      wpS M A E s (forIn [0:n] ((none, p1, p2) : Option (Option Nat) × Nat × Nat) fun _ c => if c.2.1 ≥ c.2.2 then pure (ForInStep.done (none, c.2.1, c.2.2)) else do
        let r ← past left key arr base (c.2.1 + (c.2.2 - c.2.1) / 2)
        match r with
        | some b => if b = true then pure (ForInStep.yield (none, c.2.1 + (c.2.2 - c.2.1) / 2 + 1, c.2.2)) else pure (ForInStep.yield (none, c.2.1, c.2.1 + (c.2.2 - c.2.1) / 2))
        | _ => pure (ForInStep.done (some none, c.2.1, c.2.2))) (fun c st' => ∃ k, c = (none, k, k) ∧ st' = st ∧ k ≤ n ∧ (∀ i, i < k → g i = true) ∧ (∀ i, k ≤ i → i < n → g i = false)) st := by
    intro p1 p2 a1 a2 a3 a4
    refine wpS_forRange (I := fun x c st' => st' = st ∧ ∃ p1 p2, c = (none, p1, p2) ∧ p1 ≤ p2 ∧ p2 ≤ n ∧ p2 - p1 ≤ n - x ∧ (∀ i, i < p1 → g i = true) ∧ (∀ i, p2 ≤ i → i < n → g i = false)) ?_ ?_ ⟨rfl, p1, p2, rfl, a1, a2, by omega, a3, a4⟩
    · rintro x c st' _ hx ⟨rfl, p1, p2, rfl, b1, b2, b3, b4, b5⟩
      dsimp only
      by_cases hge : p1 ≥ p2
      · rw [if_pos hge]
        have : p1 = p2 := by omega
        subst this
        exact wpS_pure ⟨p1, rfl, rfl, b2, b4, b5⟩
      rw [if_neg hge]
      refine wpS_bind (hp _ (by omega) _ ?_)
      cases e : g (p1 + (p2 - p1) / 2) with
      | true => exact wpS_pure ⟨rfl, _, _, rfl, by omega, b2, by omega, fun i hi => hm i _ (by omega) (by omega) e, b5⟩
      | false => exact wpS_pure ⟨rfl, _, _, rfl, by omega, by omega, by omega, b4, fun i i1 i2 => hm' _ i i1 i2 e⟩
    · rintro c st' ⟨rfl, p1, p2, rfl, b1, b2, b3, b4, b5⟩
      have : p1 = p2 := by omega
      subst this
      exact ⟨p1, rfl, rfl, b2, b4, b5⟩
  rw [gal_eq]
  refine wpS_bind (hp hint hh _ ?_)
  cases e0 : g hint with
  | true =>
    refine wpS_bind (wpS_mono (wpS_forRange (I := fun x c st' => st' = st ∧ ∃ o1 o2, c = (none, o1, o2) ∧ o1 < o2 ∧ x + 1 ≤ o2 ∧ hint + o1 < n ∧ g (hint + o1) = true)
      (Q := fun c st' => st' = st ∧ ∃ o1 o2, c = (none, o1, o2) ∧ o1 < o2 ∧ hint + o1 < n ∧ g (hint + o1) = true ∧ (o2 ≥ n - hint ∨ (hint + o2 < n ∧ g (hint + o2) = false))) ?_ ?_ ⟨rfl, 0, 1, rfl, by omega, by omega, by omega, e0⟩) ?_)
    · rintro x c st' _ hx ⟨rfl, o1, o2, rfl, b1, b2, b3, b4⟩
      dsimp only
      by_cases hge : o2 ≥ n - hint
      · rw [if_pos hge]
        exact wpS_pure ⟨rfl, o1, o2, rfl, b1, b3, b4, .inl hge⟩
      rw [if_neg hge]
      refine wpS_bind (hp _ (by omega) _ ?_)
      cases e : g (hint + o2) with
      | true => exact wpS_pure ⟨rfl, _, _, rfl, by omega, by omega, by omega, e⟩
      | false => exact wpS_pure ⟨rfl, _, _, rfl, b1, b3, b4, .inr ⟨by omega, e⟩⟩
    · rintro c st' ⟨rfl, o1, o2, rfl, b1, b2, b3, b4⟩
      exact ⟨rfl, o1, o2, rfl, b1, b3, b4, .inl (by omega)⟩
    · rintro c st' ⟨rfl, o1, o2, rfl, b1, b3, b4, b5⟩
      dsimp only
      refine wpS_bind (wpS_mono (last (hint + o1 + 1) (hint + min o2 (n - hint)) (by omega) (by omega) (fun i hi => hm i _ (by omega) b3 b4) fun i i1 i2 => ?_) ?_)
      · rcases b5 with z | ⟨z1, z2⟩
        · omega
        · exact hm' _ i (by omega) i2 z2
      · rintro c st' ⟨k, rfl, rfl, k1, k2, k3⟩
        exact wpS_pure (h k k1 k2 k3)
  | false =>
    refine wpS_bind (wpS_mono (wpS_forRange (I := fun x c st' => st' = st ∧ ∃ o1 o2, c = (none, o1, o2) ∧ o1 < o2 ∧ x + 1 ≤ o2 ∧ o1 ≤ hint ∧ g (hint - o1) = false)
      (Q := fun c st' => st' = st ∧ ∃ o1 o2, c = (none, o1, o2) ∧ o1 < o2 ∧ o1 ≤ hint ∧ g (hint - o1) = false ∧ (o2 ≥ hint + 1 ∨ (o2 < hint + 1 ∧ g (hint - o2) = true))) ?_ ?_ ⟨rfl, 0, 1, rfl, by omega, by omega, by omega, e0⟩) ?_)
    · rintro x c st' _ hx ⟨rfl, o1, o2, rfl, b1, b2, b3, b4⟩
      dsimp only
      by_cases hge : o2 ≥ hint + 1
      · rw [if_pos hge]
        exact wpS_pure ⟨rfl, o1, o2, rfl, b1, b3, b4, .inl hge⟩
      rw [if_neg hge]
      refine wpS_bind (hp _ (by omega) _ ?_)
      cases e : g (hint - o2) with
      | true => exact wpS_pure ⟨rfl, _, _, rfl, b1, b3, b4, .inr ⟨by omega, e⟩⟩
      | false => exact wpS_pure ⟨rfl, _, _, rfl, by omega, by omega, by omega, e⟩
    · rintro c st' ⟨rfl, o1, o2, rfl, b1, b2, b3, b4⟩
      exact ⟨rfl, o1, o2, rfl, b1, b3, b4, .inl (by omega)⟩
    · rintro c st' ⟨rfl, o1, o2, rfl, b1, b3, b4, b5⟩
      dsimp only
      refine wpS_bind (wpS_mono (last (hint + 1 - min o2 (hint + 1)) (hint - o1) (by omega) (by omega) (fun i hi => ?_) fun i i1 i2 => hm' _ i i1 i2 b4) ?_)
      · rcases b5 with z | ⟨z1, z2⟩
        · omega
        · exact hm i _ (by omega) (by omega) z2
      · rintro c st' ⟨k, rfl, rfl, k1, k2, k3⟩
        exact wpS_pure (h k k1 k2 k3)
end
end L2S

set_option linter.all false
set_option maxRecDepth 100000
set_option maxHeartbeats 4000000
namespace L2S
open PySem PyProof.Rows
def mLo : Array Keyed → Array Keyed → StateT SortSt Sem (Array Keyed) := sortPriv% PySem.Builtin.mergeLo
abbrev setG (st : SortSt) (g : Nat) : SortSt := SortSt.mk' (kindOf st) (arrOf st) (pendingOf st) g (failedOf st)
theorem mLo_eq (a b : Array Keyed) : mLo a b = (do
  rule "list.sort.merge-lo"
  let tt := a.size + b.size
  let dn (o : Array Keyed) (i j : Nat) := o ++ a.extract i a.size ++ b.extract j b.size
  let la (o : Array Keyed) (i j : Nat) := o ++ b.extract j b.size ++ a.extract i a.size
  let mut o : Array Keyed := #[← elem' b 0]
  let mut i := 0
  let mut j := 1
  if j == b.size then return dn o i j
  if i + 1 == a.size then return la o i j
  let mut mg := gallopOf (← get)
  for _ in [0:tt] do
    let mut ac := 0
    let mut bc := 0
    for _ in [0:tt] do
      let some w ← lt' (← elem' b j) (← elem' a i) | return dn o i j
      if w then
        o := o.push (← elem' b j); j := j + 1; bc := bc + 1; ac := 0
        if j == b.size then return dn o i j
        if bc ≥ mg then break
      else
        o := o.push (← elem' a i); i := i + 1; ac := ac + 1; bc := 0
        if i + 1 == a.size then return la o i j
        if ac ≥ mg then break
    rule "list.sort.gallop"
    mg := mg + 1
    for _ in [0:tt] do
      if mg > 1 then mg := mg - 1
      modify fun st => setG st mg
      let some k ← gal false (← elem' b j) a i (a.size - i) 0 | return dn o i j
      ac := k
      if k > 0 then
        o := o ++ a.extract i (i + k); i := i + k
        if i + 1 == a.size then return la o i j
        if i == a.size then return dn o i j
      o := o.push (← elem' b j); j := j + 1
      if j == b.size then return dn o i j
      let some k ← gal true (← elem' a i) b j (b.size - j) 0 | return dn o i j
      bc := k
      if k > 0 then
        o := o ++ b.extract j (j + k); j := j + k
        if j == b.size then return dn o i j
      o := o.push (← elem' a i); i := i + 1
      if i + 1 == a.size then return la o i j
      if ac < 7 && bc < 7 then break
    mg := mg + 1
    modify fun st => setG st mg
  unsupported "internal:list.sort.merge-bound") := rfl

def leK (f : Keyed → Int) (x y : Keyed) : Prop := f x ≤ f y
/-- merged so far: o, of the one i, of the other j -/
structure Jm (f : Keyed → Int) (as bs o : List Keyed) (i j : Nat) : Prop where
  perm : o.Perm (as.take i ++ bs.take j)
  sa : (o ++ as.drop i).Pairwise (leK f)
  sb : (o ++ bs.drop j).Pairwise (leK f)
def Good (f : Keyed → Int) (as bs r : List Keyed) : Prop := r.Perm (as ++ bs) ∧ r.Pairwise (leK f)
theorem take_more (as : List Keyed) (i k : Nat) : as.take (i + k) = as.take i ++ (as.drop i).take k := List.take_add
theorem drop_more (as : List Keyed) (i k : Nat) : as.drop i = (as.drop i).take k ++ as.drop (i + k) := by rw [← List.drop_drop, List.take_append_drop]
section
variable {f : Keyed → Int} {as bs o : List Keyed} {i j : Nat}
theorem Jm.swap (h : Jm f as bs o i j) : Jm f bs as o j i := ⟨h.perm.trans List.perm_append_comm, h.sb, h.sa⟩
theorem Jm.chunk (h : Jm f as bs o i j) (k : Nat) (hc : ∀ x ∈ (as.drop i).take k, ∀ y ∈ bs.drop j, f x ≤ f y) : Jm f as bs (o ++ (as.drop i).take k) (i + k) j := by
  have sa := h.sa
  rw [drop_more as i k, ← List.append_assoc] at sa
  refine ⟨?_, sa, ?_⟩
  · rw [take_more]
    refine (List.Perm.append_right _ h.perm).trans ?_
    rw [List.append_assoc, List.append_assoc]
    exact List.Perm.append_left _ List.perm_append_comm
  · obtain ⟨p1, p2, p3⟩ := List.pairwise_append.mp h.sb
    obtain ⟨q1, q2, q3⟩ := List.pairwise_append.mp sa
    refine List.pairwise_append.mpr ⟨q1, p2, fun x hx y hy => ?_⟩
    rcases List.mem_append.mp hx with z | z
    · exact p3 x z y hy
    · exact hc x z y hy
theorem Jm.dn (h : Jm f as bs o i j) (e : as.drop i = [] ∨ bs.drop j = []) : Good f as bs (o ++ as.drop i ++ bs.drop j) := by
  refine ⟨?_, ?_⟩
  · have p : (o ++ as.drop i ++ bs.drop j).Perm ((as.take i ++ bs.take j) ++ as.drop i ++ bs.drop j) := List.Perm.append_right _ (List.Perm.append_right _ h.perm)
    refine p.trans ?_
    have e1 : (as.take i ++ bs.take j ++ as.drop i ++ bs.drop j).Perm (as.take i ++ as.drop i ++ (bs.take j ++ bs.drop j)) := by
      rw [List.append_assoc, List.append_assoc, List.append_assoc]
      refine List.Perm.append_left _ ?_
      rw [← List.append_assoc, ← List.append_assoc]
      exact List.Perm.append_right _ List.perm_append_comm
    rw [List.take_append_drop, List.take_append_drop] at e1
    exact e1
  · rcases e with e | e
    · rw [e, List.append_nil]; exact h.sb
    · rw [e, List.append_nil]; exact h.sa
theorem Jm.la (h : Jm f as bs o i j) (hl : ∀ x ∈ as.drop i, ∀ y ∈ bs.drop j, f y ≤ f x) : Good f as bs (o ++ bs.drop j ++ as.drop i) := by
  have c := h.swap.chunk (bs.length - j) (fun x hx y hy => hl y hy x (List.mem_of_mem_take hx))
  rw [List.take_of_length_le (by rw [List.length_drop]; exact Nat.le_refl _)] at c
  have g := c.dn (.inl (List.drop_eq_nil_of_le (by omega)))
  rw [List.drop_eq_nil_of_le (as := bs) (i := j + (bs.length - j)) (by omega), List.append_nil] at g
  exact ⟨g.1.trans List.perm_append_comm, g.2⟩
end
theorem ext_end (a : Array Keyed) (i : Nat) : (a.extract i a.size).toList = a.toList.drop i := by
  rw [Array.toList_extract, List.extract_eq_drop_take]
  exact List.take_of_length_le (by rw [List.length_drop]; simp)
theorem ext_mid (a : Array Keyed) (i k : Nat) : (a.extract i (i + k)).toList = (a.toList.drop i).take k := by
  rw [Array.toList_extract, List.extract_eq_drop_take, show i + k - i = k by omega]
theorem one_of {a : Array Keyed} {i : Nat} {x : Keyed} (h : a[i]? = some x) : (a.toList.drop i).take 1 = [x] := by
  have hi : i < a.toList.length := by
    rw [Array.length_toList]
    exact (Array.getElem?_eq_some_iff.mp h).1
  rw [List.drop_eq_getElem_cons hi]
  have : a.toList[i] = x := by
    rw [Array.getElem?_eq_some_iff] at h
    obtain ⟨_, e⟩ := h
    simpa using e
  rw [this]
  simp
/-- the same state but for the gallop's number -/
structure Ev (st st' : SortSt) : Prop where
  k : kindOf st' = kindOf st
  a : arrOf st' = arrOf st
  p : pendingOf st' = pendingOf st
  f : failedOf st' = failedOf st
theorem Ev.refl {st : SortSt} : Ev st st := ⟨rfl, rfl, rfl, rfl⟩
theorem Ev.setG {st st' : SortSt} (h : Ev st st') (g : Nat) : Ev st (setG st' g) := ⟨h.k, h.a, h.p, h.f⟩
section
variable {M : Model} {A : Around} {E : Value → Shared → Prop} {s : Shared} {κ : SortKind} {a₀ : Array Keyed} {f : Keyed → Int}
theorem elem_at {a : Array Keyed} {i : Nat} {x : Keyed} {st : SortSt} {Q : Keyed → SortSt → Prop} (h : a[i]? = some x) (q : Q x st) : wpS M A E s (elem' a i) Q st := by
  rw [elem'_eq, h]
  exact wpS_pure q
def InA (a₀ a : Array Keyed) : Prop := ∀ x ∈ a.toList, x ∈ a₀.toList
theorem InA.get {a : Array Keyed} (h : InA a₀ a) {i : Nat} {x : Keyed} (e : a[i]? = some x) : x ∈ a₀.toList := h x (by rw [Array.getElem?_eq_some_iff] at e; obtain ⟨_, rfl⟩ := e; simp)
theorem kn_at {a : Array Keyed} {i : Nat} {x : Keyed} (e : a[i]? = some x) : kn f a i = f x := by unfold kn; rw [e]; rfl
theorem at_of {a : Array Keyed} {i : Nat} (h : i < a.size) : ∃ x, a[i]? = some x := ⟨_, getElem?_pos a i h⟩
theorem past_at {left : Bool} {key x : Keyed} {arr : Array Keyed} {base i : Nat} {st : SortSt} {Q : Option Bool → SortSt → Prop} (L : Asks M A E s κ a₀ f) (hk : kindOf st = κ) (hx : arr[base + i]? = some x) (h1 : x ∈ a₀.toList) (h2 : key ∈ a₀.toList)
    (q : Q (some (if left = true then decide (f x < f key) else !decide (f key < f x))) st) : wpS M A E s (past left key arr base i) Q st := by
  unfold past
  refine wpS_bind (elem_at hx ?_)
  cases left with
  | true => exact L.lt x key h1 h2 st _ hk q
  | false =>
    refine wpS_bind (L.lt key x h2 h1 st _ hk ?_)
    exact wpS_pure q
theorem gal_no {key : Keyed} {arr : Array Keyed} {base n hint : Nat} {st : SortSt} {Q : Option Nat → SortSt → Prop} (L : Asks M A E s κ a₀ f) (hk : kindOf st = κ) (hi : InA a₀ arr) (hkey : key ∈ a₀.toList) (hh : hint < n) (hs : base + n ≤ arr.size) (hu : Up f arr base n)
    (h : ∀ k, k ≤ n → (∀ i, i < k → kn f arr (base + i) ≤ f key) → (∀ i, k ≤ i → i < n → f key < kn f arr (base + i)) → Q (some k) st) : wpS M A E s (gal false key arr base n hint) Q st := by
  refine gal_ok (fun i => !decide (f key < kn f arr (base + i))) hh (fun i hin Q q => ?_) (fun i j z1 z2 z3 => ?_) fun k k1 k2 k3 => h k k1 (fun i z => ?_) fun i z1 z2 => ?_
  · obtain ⟨x, hx⟩ := at_of (a := arr) (i := base + i) (by omega)
    refine past_at L hk hx (hi.get hx) hkey ?_
    rw [kn_at hx] at q
    exact q
  · have := hu (base + i) (base + j) (by omega) (by omega) (by omega)
    simp at z3 ⊢
    omega
  · have := k2 i z
    simp at this
    exact this
  · have := k3 i z1 z2
    simp at this
    exact this
theorem gal_yes {key : Keyed} {arr : Array Keyed} {base n hint : Nat} {st : SortSt} {Q : Option Nat → SortSt → Prop} (L : Asks M A E s κ a₀ f) (hk : kindOf st = κ) (hi : InA a₀ arr) (hkey : key ∈ a₀.toList) (hh : hint < n) (hs : base + n ≤ arr.size) (hu : Up f arr base n)
    (h : ∀ k, k ≤ n → (∀ i, i < k → kn f arr (base + i) < f key) → (∀ i, k ≤ i → i < n → f key ≤ kn f arr (base + i)) → Q (some k) st) : wpS M A E s (gal true key arr base n hint) Q st := by
  refine gal_ok (fun i => decide (kn f arr (base + i) < f key)) hh (fun i hin Q q => ?_) (fun i j z1 z2 z3 => ?_) fun k k1 k2 k3 => h k k1 (fun i z => ?_) fun i z1 z2 => ?_
  · obtain ⟨x, hx⟩ := at_of (a := arr) (i := base + i) (by omega)
    refine past_at L hk hx (hi.get hx) hkey ?_
    rw [kn_at hx] at q
    exact q
  · have := hu (base + i) (base + j) (by omega) (by omega) (by omega)
    simp at z3 ⊢
    omega
  · have := k2 i z
    simp at this
    exact this
  · have := k3 i z1 z2
    simp at this
    exact this
theorem mem_drop {a : Array Keyed} {i : Nat} {x : Keyed} (h : x ∈ a.toList.drop i) : ∃ k, i ≤ k ∧ k < a.size ∧ kn f a k = f x ∧ a[k]? = some x := by
  obtain ⟨n, hn⟩ := List.getElem?_of_mem h
  rw [List.getElem?_drop] at hn
  rw [Array.getElem?_toList] at hn
  exact ⟨i + n, by omega, (Array.getElem?_eq_some_iff.mp hn).1, kn_at hn, hn⟩
theorem mem_take {a : Array Keyed} {i k : Nat} {x : Keyed} (h : x ∈ (a.toList.drop i).take k) : ∃ n, i ≤ n ∧ n < i + k ∧ n < a.size ∧ kn f a n = f x := by
  obtain ⟨n, hn⟩ := List.getElem?_of_mem h
  have hl := (List.getElem?_eq_some_iff.mp hn).1
  rw [List.length_take] at hl
  rw [List.getElem?_take_of_lt (by omega), List.getElem?_drop, Array.getElem?_toList] at hn
  exact ⟨i + n, by omega, by omega, (Array.getElem?_eq_some_iff.mp hn).1, kn_at hn⟩
/-- the two that are merged -/
structure Two (a₀ : Array Keyed) (f : Keyed → Int) (a b : Array Keyed) : Prop where
  ia : InA a₀ a
  ib : InA a₀ b
  ua : Up f a 0 a.size
  ub : Up f b 0 b.size
  na : 1 ≤ a.size
  nb : 1 ≤ b.size
  lo : ∀ i, i < a.size → kn f b 0 ≤ kn f a i
  hi : ∀ j, j < b.size → kn f b j ≤ kn f a (a.size - 1)
end
end L2S

set_option linter.all false
set_option maxRecDepth 100000
set_option maxHeartbeats 4000000
namespace L2S
open PySem PyProof.Rows
abbrev C5 := Option (Array Keyed) × Array Keyed × Nat × Nat × Nat
abbrev C6 := Option (Array Keyed) × Array Keyed × Nat × Nat × Nat × Nat
abbrev C7 := Option (Array Keyed) × Array Keyed × Nat × Nat × Nat × Nat × Nat
abbrev SM (α : Type) := StateT SortSt Sem α
abbrev dnA (a b o : Array Keyed) (i j : Nat) : Array Keyed := o ++ a.extract i a.size ++ b.extract j b.size
abbrev laA (a b o : Array Keyed) (i j : Nat) : Array Keyed := o ++ b.extract j b.size ++ a.extract i a.size
def lo1 (a b : Array Keyed) (mg : Nat) (c : C6) : SM (ForInStep C6) := do
  let y ← elem' b c.2.2.2.1
  let x ← elem' a c.2.2.1
  let r ← lt' y x
  match r with
  | some w =>
    if w = true then do
      let y ← elem' b c.2.2.2.1
      if (c.2.2.2.1 + 1 == b.size) = true then pure (.done (some (dnA a b (c.2.1.push y) c.2.2.1 (c.2.2.2.1 + 1)), c.2.1.push y, c.2.2.1, c.2.2.2.1 + 1, 0, c.2.2.2.2.2 + 1))
      else if c.2.2.2.2.2 + 1 ≥ mg then pure (.done (none, c.2.1.push y, c.2.2.1, c.2.2.2.1 + 1, 0, c.2.2.2.2.2 + 1))
      else pure (.yield (none, c.2.1.push y, c.2.2.1, c.2.2.2.1 + 1, 0, c.2.2.2.2.2 + 1))
    else do
      let x ← elem' a c.2.2.1
      if (c.2.2.1 + 1 + 1 == a.size) = true then pure (.done (some (laA a b (c.2.1.push x) (c.2.2.1 + 1) c.2.2.2.1), c.2.1.push x, c.2.2.1 + 1, c.2.2.2.1, c.2.2.2.2.1 + 1, 0))
      else if c.2.2.2.2.1 + 1 ≥ mg then pure (.done (none, c.2.1.push x, c.2.2.1 + 1, c.2.2.2.1, c.2.2.2.2.1 + 1, 0))
      else pure (.yield (none, c.2.1.push x, c.2.2.1 + 1, c.2.2.2.1, c.2.2.2.2.1 + 1, 0))
  | _ => pure (.done (some (dnA a b c.2.1 c.2.2.1 c.2.2.2.1), c.2.1, c.2.2.1, c.2.2.2.1, c.2.2.2.2.1, c.2.2.2.2.2))
def lo4 (a b : Array Keyed) (g ac bc : Nat) (o : Array Keyed) (i j : Nat) : SM (ForInStep C7) := do
  let x ← elem' a i
  if (i + 1 + 1 == a.size) = true then pure (.done (some (laA a b (o.push x) (i + 1) j), o.push x, i + 1, j, g, ac, bc))
  else if (decide (ac < 7) && decide (bc < 7)) = true then pure (.done (none, o.push x, i + 1, j, g, ac, bc))
  else pure (.yield (none, o.push x, i + 1, j, g, ac, bc))
def lo3 (a b : Array Keyed) (g ac bc : Nat) (o : Array Keyed) (i j : Nat) : SM (ForInStep C7) := do
  let y ← elem' b j
  if (j + 1 == b.size) = true then pure (.done (some (dnA a b (o.push y) i (j + 1)), o.push y, i, j + 1, g, ac, bc))
  else do
    let x ← elem' a i
    let r ← gal true x b (j + 1) (b.size - (j + 1)) 0
    match r with
    | some k =>
      if k > 0 then
        if (j + 1 + k == b.size) = true then pure (.done (some (dnA a b (o.push y ++ b.extract (j + 1) (j + 1 + k)) i (j + 1 + k)), o.push y ++ b.extract (j + 1) (j + 1 + k), i, j + 1 + k, g, ac, k))
        else lo4 a b g ac k (o.push y ++ b.extract (j + 1) (j + 1 + k)) i (j + 1 + k)
      else lo4 a b g ac k (o.push y) i (j + 1)
    | _ => pure (.done (some (dnA a b (o.push y) i (j + 1)), o.push y, i, j + 1, g, ac, bc))
def lo2 (a b : Array Keyed) (g ac bc : Nat) (o : Array Keyed) (i j : Nat) : SM (ForInStep C7) := do
  modify fun st => setG st g
  let y ← elem' b j
  let r ← gal false y a i (a.size - i) 0
  match r with
  | some k =>
    if k > 0 then
      if (i + k + 1 == a.size) = true then pure (.done (some (laA a b (o ++ a.extract i (i + k)) (i + k) j), o ++ a.extract i (i + k), i + k, j, g, k, bc))
      else if (i + k == a.size) = true then pure (.done (some (dnA a b (o ++ a.extract i (i + k)) (i + k) j), o ++ a.extract i (i + k), i + k, j, g, k, bc))
      else lo3 a b g k bc (o ++ a.extract i (i + k)) (i + k) j
    else lo3 a b g k bc o i j
  | _ => pure (.done (some (dnA a b o i j), o, i, j, g, ac, bc))
def loB (a b : Array Keyed) (c : C7) : SM (ForInStep C7) :=
  if c.2.2.2.2.1 > 1 then lo2 a b (c.2.2.2.2.1 - 1) c.2.2.2.2.2.1 c.2.2.2.2.2.2 c.2.1 c.2.2.1 c.2.2.2.1
  else lo2 a b c.2.2.2.2.1 c.2.2.2.2.2.1 c.2.2.2.2.2.2 c.2.1 c.2.2.1 c.2.2.2.1
def loO (a b : Array Keyed) (c : C5) : SM (ForInStep C5) := do
  let c1 ← forIn [0:a.size + b.size] ((none, c.2.1, c.2.2.1, c.2.2.2.1, 0, 0) : C6) fun _ d => lo1 a b c.2.2.2.2 d
  match c1.1 with
  | some r => pure (.done (some r, c1.2.1, c1.2.2.1, c1.2.2.2.1, c.2.2.2.2))
  | none => do
    liftM (rule "list.sort.gallop")
    let c2 ← forIn [0:a.size + b.size] ((none, c1.2.1, c1.2.2.1, c1.2.2.2.1, c.2.2.2.2 + 1, c1.2.2.2.2.1, c1.2.2.2.2.2) : C7) fun _ d => loB a b d
    match c2.1 with
    | some r => pure (.done (some r, c2.2.1, c2.2.2.1, c2.2.2.2.1, c2.2.2.2.2.1))
    | none => do
      modify fun st => setG st (c2.2.2.2.2.1 + 1)
      pure (.yield (none, c2.2.1, c2.2.2.1, c2.2.2.2.1, c2.2.2.2.2.1 + 1))
theorem bnd2 {α β : Type} {m m' : StateT SortSt Sem α} {g h : α → StateT SortSt Sem β} (e0 : m = m') (e : ∀ a, g a = h a) : (m >>= g) = (m' >>= h) := by rw [e0, show g = h from funext e]
theorem for2 {β : Type} {r : Std.Legacy.Range} {c : β} {g h : Nat → β → StateT SortSt Sem (ForInStep β)} (e : ∀ x c, g x c = h x c) : forIn r c g = forIn r c h := by rw [show g = h from funext fun x => funext (e x)]
theorem if2 {α : Type} {c : Prop} [Decidable c] {x y x' y' : α} (e1 : x = x') (e2 : y = y') : (if c then x else y) = (if c then x' else y') := by rw [e1, e2]
theorem mLo_low (a b : Array Keyed) : mLo a b = (do
  liftM (rule "list.sort.merge-lo")
  let y ← elem' b 0
  if (1 == b.size) = true then pure (dnA a b #[y] 0 1)
  else if (0 + 1 == a.size) = true then pure (laA a b #[y] 0 1)
  else do
    let st ← get
    let c ← forIn [0:a.size + b.size] ((none, #[y], 0, 1, gallopOf st) : C5) fun _ d => loO a b d
    match c.1 with
    | some r => pure r
    | none => liftM (unsupported "internal:list.sort.merge-bound" : Sem (Array Keyed))) := by
  rw [mLo_eq]
  refine bnd _ fun _ => bnd _ fun y => ?_
  refine if2 rfl (if2 rfl ?_)
  refine bnd _ fun st => bnd2 (for2 fun _ c => ?_) fun c => ?_
  · unfold loO
    refine bnd2 (for2 fun _ d => ?_) fun c1 => ?_
    · rfl
    · obtain ⟨r, o, i, j, ac, bc⟩ := c1
      cases r with
      | some r => rfl
      | none =>
        refine bnd2 rfl fun _ => bnd2 (for2 fun _ d => ?_) fun c2 => ?_
        · unfold loB
          refine if2 ?_ ?_
          all_goals
            unfold lo2
            refine bnd2 rfl fun _ => bnd2 rfl fun y => bnd2 rfl fun r => ?_
            cases r with
            | none => rfl
            | some k =>
              refine if2 (if2 rfl (if2 rfl ?_)) ?_
              all_goals
                unfold lo3
                refine bnd2 rfl fun y2 => if2 rfl (bnd2 rfl fun x2 => bnd2 rfl fun r2 => ?_)
                cases r2 with
                | none => rfl
                | some k2 =>
                  refine if2 (if2 rfl ?_) ?_
                  all_goals
                    unfold lo4
                    refine bnd2 rfl fun x3 => if2 rfl (if2 rfl rfl)
        · obtain ⟨r, o, i, j, g, ac, bc⟩ := c2
          cases r with
          | some r => rfl
          | none => rfl
  · obtain ⟨r, o, i, j, g⟩ := c
    cases r with
    | some r => rfl
    | none => rfl
end L2S

set_option linter.all false
set_option maxRecDepth 100000
set_option maxHeartbeats 4000000
namespace L2S
open PySem PyProof.Rows
section
variable {M : Model} {A : Around} {E : Value → Shared → Prop} {s : Shared} {κ : SortKind} {a₀ : Array Keyed} {f : Keyed → Int} {a b o : Array Keyed} {i j : Nat}
theorem up_pw {a : Array Keyed} (h : Up f a 0 a.size) : a.toList.Pairwise (leK f) := by
  rw [List.pairwise_iff_getElem]
  intro i j hi hj hij
  rw [Array.length_toList] at hi hj
  have := h i j (Nat.zero_le _) (Nat.le_of_lt hij) (by omega)
  rw [kn_at (getElem?_pos a i hi), kn_at (getElem?_pos a j hj)] at this
  simpa [leK] using this
abbrev JA (f : Keyed → Int) (a b o : Array Keyed) (i j : Nat) : Prop := Jm f a.toList b.toList o.toList i j
abbrev Fin (f : Keyed → Int) (a b r : Array Keyed) : Prop := Good f a.toList b.toList r.toList
theorem JA.dn (h : JA f a b o i j) (e : a.size ≤ i ∨ b.size ≤ j) : Fin f a b (dnA a b o i j) := by
  have g := Jm.dn h (e.imp (fun z => List.drop_eq_nil_of_le (by rw [Array.length_toList]; exact z)) (fun z => List.drop_eq_nil_of_le (by rw [Array.length_toList]; exact z)))
  unfold Fin dnA
  rw [Array.toList_append, Array.toList_append, ext_end, ext_end]
  exact g
theorem JA.la (h : JA f a b o i j) (T : Two a₀ f a b) (e : i + 1 = a.size) : Fin f a b (laA a b o i j) := by
  have g := Jm.la h fun x hx y hy => by
    obtain ⟨k, k1, k2, k3, _⟩ := mem_drop (f := f) hx
    obtain ⟨n, n1, n2, n3, _⟩ := mem_drop (f := f) hy
    have := T.hi n n2
    rw [show a.size - 1 = k by omega, k3, n3] at this
    exact this
  unfold Fin laA
  rw [Array.toList_append, Array.toList_append, ext_end, ext_end]
  exact g
theorem JA.pushA {x : Keyed} (h : JA f a b o i j) (hx : a[i]? = some x) (hc : ∀ n, j ≤ n → n < b.size → f x ≤ kn f b n) : JA f a b (o.push x) (i + 1) j := by
  have g := Jm.chunk h 1 fun u hu y hy => by
    rw [one_of hx, List.mem_singleton] at hu
    obtain ⟨n, n1, n2, n3, _⟩ := mem_drop (f := f) hy
    rw [hu, ← n3]
    exact hc n n1 n2
  rw [one_of hx] at g
  unfold JA
  rw [Array.toList_push]
  exact g
theorem JA.pushB {x : Keyed} (h : JA f a b o i j) (hx : b[j]? = some x) (hc : ∀ n, i ≤ n → n < a.size → f x ≤ kn f a n) : JA f a b (o.push x) i (j + 1) :=
  (JA.pushA (Jm.swap h) hx hc).swap
theorem JA.chunkA (h : JA f a b o i j) (k : Nat) (hc : ∀ n m, i ≤ n → n < i + k → n < a.size → j ≤ m → m < b.size → kn f a n ≤ kn f b m) : JA f a b (o ++ a.extract i (i + k)) (i + k) j := by
  have g := Jm.chunk h k fun u hu y hy => by
    obtain ⟨n, n1, n2, n3, n4⟩ := mem_take (f := f) hu
    obtain ⟨m, m1, m2, m3, _⟩ := mem_drop (f := f) hy
    rw [← n4, ← m3]
    exact hc n m n1 n2 n3 m1 m2
  unfold JA
  rw [Array.toList_append, ext_mid]
  exact g
theorem JA.chunkB (h : JA f a b o i j) (k : Nat) (hc : ∀ n m, j ≤ n → n < j + k → n < b.size → i ≤ m → m < a.size → kn f b n ≤ kn f a m) : JA f a b (o ++ b.extract j (j + k)) i (j + k) :=
  (JA.chunkA (Jm.swap h) k hc).swap
theorem Up.sub {xs : Array Keyed} {n : Nat} (h : Up f xs 0 n) {lo m : Nat} (e : lo + m ≤ n) : Up f xs lo m := fun i j z1 z2 z3 => h i j (Nat.zero_le _) z2 (by omega)
def R7 (f : Keyed → Int) (a b : Array Keyed) (st : SortSt) (x : Nat) : ForInStep C7 → SortSt → Prop
  | .done c, st' => Ev st st' ∧ ((∃ r z, c = (some r, z) ∧ Fin f a b r) ∨ ∃ o i j g ac bc, c = (none, o, i, j, g, ac, bc) ∧ JA f a b o i j ∧ i + 1 < a.size ∧ j < b.size ∧ x + 2 ≤ i + j)
  | .yield c, st' => Ev st st' ∧ ∃ o i j g ac bc, c = (none, o, i, j, g, ac, bc) ∧ JA f a b o i j ∧ i + 1 < a.size ∧ j < b.size ∧ x + 2 ≤ i + j
theorem mLo_ok {st : SortSt} {Q : Array Keyed → SortSt → Prop} (L : Asks M A E s κ a₀ f) (hk : kindOf st = κ) (T : Two a₀ f a b) (h : ∀ r st', Ev st st' → Fin f a b r → Q r st') : wpS M A E s (mLo a b) Q st := by
  have ta := T.na
  have tb := T.nb
  have ua : ∀ n m, n ≤ m → m < a.size → kn f a n ≤ kn f a m := fun n m z1 z2 => T.ua n m (Nat.zero_le _) z1 (by omega)
  have ub : ∀ n m, n ≤ m → m < b.size → kn f b n ≤ kn f b m := fun n m z1 z2 => T.ub n m (Nat.zero_le _) z1 (by omega)
  rw [mLo_low]
  refine wpS_bind (wpS_lift (wpAny_rule ⟨rfl, ?_⟩))
  obtain ⟨y0, hy0⟩ := at_of (a := b) (i := 0) (by omega)
  refine wpS_bind (elem_at hy0 ?_)
  have J0 : JA f a b #[y0] 0 1 := by
    have e : JA f a b #[] 0 0 := ⟨by simp, by simpa using up_pw T.ua, by simpa using up_pw T.ub⟩
    have := JA.pushB e hy0 fun n _ n2 => by rw [← kn_at (f := f) hy0]; exact T.lo n n2
    exact this
  by_cases c1 : 1 = b.size
  · rw [if_pos (by simpa using c1)]
    exact wpS_pure (h _ st .refl (J0.dn (.inr (by omega))))
  rw [if_neg (by simpa using c1)]
  by_cases c2 : 0 + 1 = a.size
  · rw [if_pos (by simpa using c2)]
    exact wpS_pure (h _ st .refl (J0.la T c2))
  rw [if_neg (by simpa using c2)]
  refine wpS_bind (wpS_get ?_)
  refine wpS_bind (wpS_mono (wpS_forRange (I := fun x c st' => Ev st st' ∧ ∃ o i j g, c = (none, o, i, j, g) ∧ JA f a b o i j ∧ i + 1 < a.size ∧ j < b.size ∧ x + 1 ≤ i + j) (Q := fun c st' => Ev st st' ∧ ∃ r z, c = (some r, z) ∧ Fin f a b r) ?_ ?_ ⟨.refl, _, 0, 1, _, rfl, J0, by omega, by omega, by omega⟩) ?_)
  · rintro x c st1 _ hx ⟨e1, o, i, j, g, rfl, J, hi, hj, hp⟩
    unfold loO
    dsimp only
    refine wpS_bind (wpS_mono (wpS_forRange (I := fun y c st' => Ev st st' ∧ ∃ o i j ac bc, c = (none, o, i, j, ac, bc) ∧ JA f a b o i j ∧ i + 1 < a.size ∧ j < b.size ∧ x + 1 + y ≤ i + j)
      (Q := fun c st' => Ev st st' ∧ ((∃ r z, c = (some r, z) ∧ Fin f a b r) ∨ ∃ o i j ac bc, c = (none, o, i, j, ac, bc) ∧ JA f a b o i j ∧ i + 1 < a.size ∧ j < b.size ∧ x + 2 ≤ i + j)) ?_ ?_ ⟨e1, o, i, j, 0, 0, rfl, J, hi, hj, by omega⟩) ?_)
    · rintro y c st2 _ hy ⟨e2, o, i, j, ac, bc, rfl, J, hi, hj, hp⟩
      unfold lo1
      dsimp only
      obtain ⟨yb, hyb⟩ := at_of (a := b) hj
      obtain ⟨xa, hxa⟩ := at_of (a := a) (i := i) (by omega)
      refine wpS_bind (elem_at hyb ?_)
      refine wpS_bind (elem_at hxa ?_)
      refine wpS_bind (L.lt yb xa (T.ib.get hyb) (T.ia.get hxa) st2 _ (e2.k.trans hk) ?_)
      by_cases hw : f yb < f xa
      · rw [decide_eq_true hw]
        dsimp only
        rw [if_pos rfl]
        refine wpS_bind (elem_at hyb ?_)
        have J2 := J.pushB hyb fun n n1 n2 => by
          have := ua i n n1 n2
          rw [kn_at hxa] at this
          omega
        by_cases c3 : j + 1 = b.size
        · rw [if_pos (by simpa using c3)]
          exact wpS_pure ⟨e2, .inl ⟨_, _, rfl, J2.dn (.inr (by omega))⟩⟩
        rw [if_neg (by simpa using c3)]
        split
        · exact wpS_pure ⟨e2, .inr ⟨_, _, _, _, _, rfl, J2, hi, by omega, by omega⟩⟩
        · exact wpS_pure ⟨e2, _, _, _, _, _, rfl, J2, hi, by omega, by omega⟩
      · rw [decide_eq_false hw]
        dsimp only
        rw [if_neg (by decide)]
        refine wpS_bind (elem_at hxa ?_)
        have J2 := J.pushA hxa fun n n1 n2 => by
          have := ub j n n1 n2
          rw [kn_at hyb] at this
          omega
        by_cases c3 : i + 1 + 1 = a.size
        · rw [if_pos (by simpa using c3)]
          exact wpS_pure ⟨e2, .inl ⟨_, _, rfl, J2.la T c3⟩⟩
        rw [if_neg (by simpa using c3)]
        split
        · exact wpS_pure ⟨e2, .inr ⟨_, _, _, _, _, rfl, J2, by omega, hj, by omega⟩⟩
        · exact wpS_pure ⟨e2, _, _, _, _, _, rfl, J2, by omega, hj, by omega⟩
    · rintro c st2 ⟨e2, o, i, j, ac, bc, rfl, J, hi, hj, hp⟩
      exact ⟨e2, .inr ⟨_, _, _, _, _, rfl, J, hi, hj, by omega⟩⟩
    · rintro c st2 ⟨e2, ⟨r, z, rfl, hr⟩ | ⟨o, i, j, ac, bc, rfl, J, hi, hj, hp⟩⟩
      · exact wpS_pure ⟨e2, r, _, rfl, hr⟩
      dsimp only
      refine wpS_bind (wpS_lift (wpAny_rule ⟨rfl, ?_⟩))
      refine wpS_bind (wpS_mono (wpS_forRange (I := fun y c st' => Ev st st' ∧ ∃ o i j g ac bc, c = (none, o, i, j, g, ac, bc) ∧ JA f a b o i j ∧ i + 1 < a.size ∧ j < b.size ∧ x + 2 ≤ i + j)
        (Q := fun c st' => Ev st st' ∧ ((∃ r z, c = (some r, z) ∧ Fin f a b r) ∨ ∃ o i j g ac bc, c = (none, o, i, j, g, ac, bc) ∧ JA f a b o i j ∧ i + 1 < a.size ∧ j < b.size ∧ x + 2 ≤ i + j)) ?_ ?_ ⟨e2, o, i, j, _, ac, bc, rfl, J, hi, hj, hp⟩) ?_)
      · rintro y c st3 _ hy ⟨e3, o, i, j, g, ac, bc, rfl, J, hi, hj, hp⟩
        have four : ∀ (g ac bc : Nat) (o : Array Keyed) (i j : Nat) (st4 : SortSt) (xa : Keyed), Ev st st4 → JA f a b o i j → i + 1 < a.size → j < b.size → x + 2 ≤ i + j → a[i]? = some xa → (∀ n, j ≤ n → n < b.size → f xa ≤ kn f b n) →
            wpS M A E s (lo4 a b g ac bc o i j) (R7 f a b st x) st4 := by
          intro g ac bc o i j st4 xa e4 J hi hj hp hxa hle
          unfold lo4
          refine wpS_bind (elem_at hxa ?_)
          have J2 := J.pushA hxa hle
          by_cases c3 : i + 1 + 1 = a.size
          · rw [if_pos (by simpa using c3)]
            exact wpS_pure ⟨e4, .inl ⟨_, _, rfl, J2.la T c3⟩⟩
          rw [if_neg (by simpa using c3)]
          split
          · exact wpS_pure ⟨e4, .inr ⟨_, _, _, _, _, _, rfl, J2, by omega, hj, by omega⟩⟩
          · exact wpS_pure ⟨e4, _, _, _, _, _, _, rfl, J2, by omega, hj, by omega⟩
        have three : ∀ (g ac bc : Nat) (o : Array Keyed) (i j : Nat) (st4 : SortSt) (yb : Keyed), Ev st st4 → JA f a b o i j → i + 1 < a.size → j < b.size → x + 2 ≤ i + j → b[j]? = some yb → (∀ n, i ≤ n → n < a.size → f yb ≤ kn f a n) →
            wpS M A E s (lo3 a b g ac bc o i j) (R7 f a b st x) st4 := by
          intro g ac bc o i j st4 yb e4 J hi hj hp hyb hle
          unfold lo3
          refine wpS_bind (elem_at hyb ?_)
          have J2 := J.pushB hyb hle
          by_cases c3 : j + 1 = b.size
          · rw [if_pos (by simpa using c3)]
            exact wpS_pure ⟨e4, .inl ⟨_, _, rfl, J2.dn (.inr (by omega))⟩⟩
          rw [if_neg (by simpa using c3)]
          obtain ⟨xa, hxa⟩ := at_of (a := a) (i := i) (by omega)
          refine wpS_bind (elem_at hxa ?_)
          refine wpS_bind (gal_yes L (e4.k.trans hk) T.ib (T.ia.get hxa) (by omega) (by omega) (T.ub.sub (by omega)) fun k k1 k2 k3 => ?_)
          dsimp only
          have rest : ∀ n, j + 1 + k ≤ n → n < b.size → f xa ≤ kn f b n := fun n n1 n2 => by
            have := k3 (n - (j + 1)) (by omega) (by omega)
            rw [show j + 1 + (n - (j + 1)) = n by omega] at this
            exact this
          by_cases hk0 : k > 0
          · rw [if_pos hk0]
            have J3 := J2.chunkB k fun n m n1 n2 n3 m1 m2 => by
              have z := k2 (n - (j + 1)) (by omega)
              rw [show j + 1 + (n - (j + 1)) = n by omega] at z
              have z2 := ua i m m1 m2
              rw [kn_at hxa] at z2
              omega
            by_cases c4 : j + 1 + k = b.size
            · rw [if_pos (by simpa using c4)]
              exact wpS_pure ⟨e4, .inl ⟨_, _, rfl, J3.dn (.inr (by omega))⟩⟩
            rw [if_neg (by simpa using c4)]
            exact four _ _ _ _ _ _ _ xa e4 J3 hi (by omega) (by omega) hxa rest
          · rw [if_neg hk0]
            have : k = 0 := by omega
            subst this
            exact four _ _ _ _ _ _ _ xa e4 J2 hi (by omega) (by omega) hxa rest
        have two : ∀ (g ac bc : Nat), wpS M A E s (lo2 a b g ac bc o i j) (R7 f a b st x) st3 := by
          intro g ac bc
          unfold lo2
          obtain ⟨yb, hyb⟩ := at_of (a := b) hj
          refine wpS_bind (wpS_modify ?_)
          have e4 := e3.setG g
          refine wpS_bind (elem_at hyb ?_)
          refine wpS_bind (gal_no L (e4.k.trans hk) T.ia (T.ib.get hyb) (by omega) (by omega) (T.ua.sub (by omega)) fun k k1 k2 k3 => ?_)
          dsimp only
          have rest : ∀ n, i + k ≤ n → n < a.size → f yb ≤ kn f a n := fun n n1 n2 => by
            have := k3 (n - i) (by omega) (by omega)
            rw [show i + (n - i) = n by omega] at this
            omega
          by_cases hk0 : k > 0
          · rw [if_pos hk0]
            have J3 := J.chunkA k fun n m n1 n2 n3 m1 m2 => by
              have z := k2 (n - i) (by omega)
              rw [show i + (n - i) = n by omega] at z
              have z2 := ub j m m1 m2
              rw [kn_at hyb] at z2
              omega
            by_cases c4 : i + k + 1 = a.size
            · rw [if_pos (by simpa using c4)]
              exact wpS_pure ⟨e4, .inl ⟨_, _, rfl, J3.la T c4⟩⟩
            rw [if_neg (by simpa using c4)]
            by_cases c5 : i + k = a.size
            · rw [if_pos (by simpa using c5)]
              exact wpS_pure ⟨e4, .inl ⟨_, _, rfl, J3.dn (.inl (by omega))⟩⟩
            rw [if_neg (by simpa using c5)]
            exact three _ _ _ _ _ _ _ yb e4 J3 (by omega) hj (by omega) hyb rest
          · rw [if_neg hk0]
            have : k = 0 := by omega
            subst this
            exact three _ _ _ _ _ _ _ yb e4 J hi hj hp hyb rest
        unfold loB
        dsimp only
        split
        · exact wpS_mono (two _ _ _) fun r st' z => by cases r <;> exact z
        · exact wpS_mono (two _ _ _) fun r st' z => by cases r <;> exact z
      · rintro c st3 ⟨e3, o, i, j, g, ac, bc, rfl, J, hi, hj, hp⟩
        exact ⟨e3, .inr ⟨_, _, _, _, _, _, rfl, J, hi, hj, hp⟩⟩
      · rintro c st3 ⟨e3, ⟨r, z, rfl, hr⟩ | ⟨o, i, j, g, ac, bc, rfl, J, hi, hj, hp⟩⟩
        · exact wpS_pure ⟨e3, r, _, rfl, hr⟩
        · dsimp only
          exact wpS_bind (wpS_modify (wpS_pure ⟨e3.setG _, _, _, _, _, rfl, J, hi, hj, by omega⟩))
  · rintro c st1 ⟨e1, o, i, j, g, rfl, J, hi, hj, hp⟩
    omega
  · rintro c st1 ⟨e1, r, z, rfl, hr⟩
    exact wpS_pure (h r st1 e1 hr)
end
end L2S

set_option linter.all false
set_option maxRecDepth 100000
set_option maxHeartbeats 4000000
namespace L2S
open PySem PyProof.Rows
def mHi : Array Keyed → Array Keyed → StateT SortSt Sem (Array Keyed) := sortPriv% PySem.Builtin.mergeHi
theorem mHi_eq (a b : Array Keyed) : mHi a b = (do
  rule "list.sort.merge-hi"
  let tt := a.size + b.size
  let dn (o : Array Keyed) (i j : Nat) := a.extract 0 i ++ b.extract 0 j ++ o.reverse
  let fb (o : Array Keyed) (i j : Nat) := b.extract 0 j ++ a.extract 0 i ++ o.reverse
  let mut i := a.size - 1
  let mut j := b.size
  let mut o : Array Keyed := #[← elem' a i]
  if i == 0 then return dn o i j
  if j == 1 then return fb o i j
  let mut mg := gallopOf (← get)
  for _ in [0:tt] do
    let mut ac := 0
    let mut bc := 0
    for _ in [0:tt] do
      let some w ← lt' (← elem' b (j - 1)) (← elem' a (i - 1)) | return dn o i j
      if w then
        i := i - 1; o := o.push (← elem' a i); ac := ac + 1; bc := 0
        if i == 0 then return dn o i j
        if ac ≥ mg then break
      else
        j := j - 1; o := o.push (← elem' b j); bc := bc + 1; ac := 0
        if j == 1 then return fb o i j
        if bc ≥ mg then break
    rule "list.sort.gallop"
    mg := mg + 1
    for _ in [0:tt] do
      if mg > 1 then mg := mg - 1
      modify fun st => setG st mg
      let some t ← gal false (← elem' b (j - 1)) a 0 i (i - 1) | return dn o i j
      let k := i - t
      ac := k
      if k > 0 then
        o := o ++ (a.extract t i).reverse; i := t
        if i == 0 then return dn o i j
      j := j - 1; o := o.push (← elem' b j)
      if j == 1 then return fb o i j
      let some t ← gal true (← elem' a (i - 1)) b 0 j (j - 1) | return dn o i j
      let k := j - t
      bc := k
      if k > 0 then
        o := o ++ (b.extract t j).reverse; j := t
        if j == 1 then return fb o i j
        if j == 0 then return dn o i j
      i := i - 1; o := o.push (← elem' a i)
      if i == 0 then return dn o i j
      if ac < 7 && bc < 7 then break
    mg := mg + 1
    modify fun st => setG st mg
  unsupported "internal:list.sort.merge-bound") := rfl
abbrev D5 := Option (Array Keyed) × Nat × Nat × Array Keyed × Nat
abbrev D6 := Option (Array Keyed) × Nat × Nat × Array Keyed × Nat × Nat
abbrev D7 := Option (Array Keyed) × Nat × Nat × Array Keyed × Nat × Nat × Nat
abbrev dnH (a b o : Array Keyed) (i j : Nat) : Array Keyed := a.extract 0 i ++ b.extract 0 j ++ o.reverse
abbrev fbH (a b o : Array Keyed) (i j : Nat) : Array Keyed := b.extract 0 j ++ a.extract 0 i ++ o.reverse
def hi1 (a b : Array Keyed) (mg : Nat) (c : D6) : SM (ForInStep D6) := do
  let y ← elem' b (c.2.2.1 - 1)
  let x ← elem' a (c.2.1 - 1)
  let r ← lt' y x
  match r with
  | some w =>
    if w = true then do
      let x ← elem' a (c.2.1 - 1)
      if (c.2.1 - 1 == 0) = true then pure (.done (some (dnH a b (c.2.2.2.1.push x) (c.2.1 - 1) c.2.2.1), c.2.1 - 1, c.2.2.1, c.2.2.2.1.push x, c.2.2.2.2.1 + 1, 0))
      else if c.2.2.2.2.1 + 1 ≥ mg then pure (.done (none, c.2.1 - 1, c.2.2.1, c.2.2.2.1.push x, c.2.2.2.2.1 + 1, 0))
      else pure (.yield (none, c.2.1 - 1, c.2.2.1, c.2.2.2.1.push x, c.2.2.2.2.1 + 1, 0))
    else do
      let y ← elem' b (c.2.2.1 - 1)
      if (c.2.2.1 - 1 == 1) = true then pure (.done (some (fbH a b (c.2.2.2.1.push y) c.2.1 (c.2.2.1 - 1)), c.2.1, c.2.2.1 - 1, c.2.2.2.1.push y, 0, c.2.2.2.2.2 + 1))
      else if c.2.2.2.2.2 + 1 ≥ mg then pure (.done (none, c.2.1, c.2.2.1 - 1, c.2.2.2.1.push y, 0, c.2.2.2.2.2 + 1))
      else pure (.yield (none, c.2.1, c.2.2.1 - 1, c.2.2.2.1.push y, 0, c.2.2.2.2.2 + 1))
  | _ => pure (.done (some (dnH a b c.2.2.2.1 c.2.1 c.2.2.1), c.2.1, c.2.2.1, c.2.2.2.1, c.2.2.2.2.1, c.2.2.2.2.2))
def hi4 (a b : Array Keyed) (g ac bc : Nat) (o : Array Keyed) (i j : Nat) : SM (ForInStep D7) := do
  let x ← elem' a (i - 1)
  if (i - 1 == 0) = true then pure (.done (some (dnH a b (o.push x) (i - 1) j), i - 1, j, o.push x, g, ac, bc))
  else if (decide (ac < 7) && decide (bc < 7)) = true then pure (.done (none, i - 1, j, o.push x, g, ac, bc))
  else pure (.yield (none, i - 1, j, o.push x, g, ac, bc))
def hi3 (a b : Array Keyed) (g ac bc : Nat) (o : Array Keyed) (i j : Nat) : SM (ForInStep D7) := do
  let y ← elem' b (j - 1)
  if (j - 1 == 1) = true then pure (.done (some (fbH a b (o.push y) i (j - 1)), i, j - 1, o.push y, g, ac, bc))
  else do
    let x ← elem' a (i - 1)
    let r ← gal true x b 0 (j - 1) (j - 1 - 1)
    match r with
    | some t =>
      if j - 1 - t > 0 then
        if (t == 1) = true then pure (.done (some (fbH a b (o.push y ++ (b.extract t (j - 1)).reverse) i t), i, t, o.push y ++ (b.extract t (j - 1)).reverse, g, ac, j - 1 - t))
        else if (t == 0) = true then pure (.done (some (dnH a b (o.push y ++ (b.extract t (j - 1)).reverse) i t), i, t, o.push y ++ (b.extract t (j - 1)).reverse, g, ac, j - 1 - t))
        else hi4 a b g ac (j - 1 - t) (o.push y ++ (b.extract t (j - 1)).reverse) i t
      else hi4 a b g ac (j - 1 - t) (o.push y) i (j - 1)
    | _ => pure (.done (some (dnH a b (o.push y) i (j - 1)), i, j - 1, o.push y, g, ac, bc))
def hi2 (a b : Array Keyed) (g ac bc : Nat) (o : Array Keyed) (i j : Nat) : SM (ForInStep D7) := do
  modify fun st => setG st g
  let y ← elem' b (j - 1)
  let r ← gal false y a 0 i (i - 1)
  match r with
  | some t =>
    if i - t > 0 then
      if (t == 0) = true then pure (.done (some (dnH a b (o ++ (a.extract t i).reverse) t j), t, j, o ++ (a.extract t i).reverse, g, i - t, bc))
      else hi3 a b g (i - t) bc (o ++ (a.extract t i).reverse) t j
    else hi3 a b g (i - t) bc o i j
  | _ => pure (.done (some (dnH a b o i j), i, j, o, g, ac, bc))
def hiB (a b : Array Keyed) (c : D7) : SM (ForInStep D7) :=
  if c.2.2.2.2.1 > 1 then hi2 a b (c.2.2.2.2.1 - 1) c.2.2.2.2.2.1 c.2.2.2.2.2.2 c.2.2.2.1 c.2.1 c.2.2.1
  else hi2 a b c.2.2.2.2.1 c.2.2.2.2.2.1 c.2.2.2.2.2.2 c.2.2.2.1 c.2.1 c.2.2.1
def hiO (a b : Array Keyed) (c : D5) : SM (ForInStep D5) := do
  let c1 ← forIn [0:a.size + b.size] ((none, c.2.1, c.2.2.1, c.2.2.2.1, 0, 0) : D6) fun _ d => hi1 a b c.2.2.2.2 d
  match c1.1 with
  | some r => pure (.done (some r, c1.2.1, c1.2.2.1, c1.2.2.2.1, c.2.2.2.2))
  | none => do
    liftM (rule "list.sort.gallop")
    let c2 ← forIn [0:a.size + b.size] ((none, c1.2.1, c1.2.2.1, c1.2.2.2.1, c.2.2.2.2 + 1, c1.2.2.2.2.1, c1.2.2.2.2.2) : D7) fun _ d => hiB a b d
    match c2.1 with
    | some r => pure (.done (some r, c2.2.1, c2.2.2.1, c2.2.2.2.1, c2.2.2.2.2.1))
    | none => do
      modify fun st => setG st (c2.2.2.2.2.1 + 1)
      pure (.yield (none, c2.2.1, c2.2.2.1, c2.2.2.2.1, c2.2.2.2.2.1 + 1))
theorem mHi_low (a b : Array Keyed) : mHi a b = (do
  liftM (rule "list.sort.merge-hi")
  let x ← elem' a (a.size - 1)
  if (a.size - 1 == 0) = true then pure (dnH a b #[x] (a.size - 1) b.size)
  else if (b.size == 1) = true then pure (fbH a b #[x] (a.size - 1) b.size)
  else do
    let st ← get
    let c ← forIn [0:a.size + b.size] ((none, a.size - 1, b.size, #[x], gallopOf st) : D5) fun _ d => hiO a b d
    match c.1 with
    | some r => pure r
    | none => liftM (unsupported "internal:list.sort.merge-bound" : Sem (Array Keyed))) := by
  rw [mHi_eq]
  refine bnd _ fun _ => bnd _ fun y => ?_
  refine if2 rfl (if2 rfl ?_)
  refine bnd _ fun st => bnd2 (for2 fun _ c => ?_) fun c => ?_
  · unfold hiO
    refine bnd2 (for2 fun _ d => ?_) fun c1 => ?_
    · rfl
    · obtain ⟨r, i, j, o, ac, bc⟩ := c1
      cases r with
      | some r => rfl
      | none =>
        refine bnd2 rfl fun _ => bnd2 (for2 fun _ d => ?_) fun c2 => ?_
        · unfold hiB
          refine if2 ?_ ?_
          all_goals
            unfold hi2
            refine bnd2 rfl fun _ => bnd2 rfl fun y => bnd2 rfl fun r => ?_
            cases r with
            | none => rfl
            | some k =>
              refine if2 (if2 rfl ?_) ?_
              all_goals
                unfold hi3
                refine bnd2 rfl fun y2 => if2 rfl (bnd2 rfl fun x2 => bnd2 rfl fun r2 => ?_)
                cases r2 with
                | none => rfl
                | some k2 =>
                  refine if2 (if2 rfl (if2 rfl ?_)) ?_
                  all_goals
                    unfold hi4
                    refine bnd2 rfl fun x3 => if2 rfl (if2 rfl rfl)
        · obtain ⟨r, i, j, o, g, ac, bc⟩ := c2
          cases r with
          | some r => rfl
          | none => rfl
  · obtain ⟨r, i, j, o, g⟩ := c
    cases r with
    | some r => rfl
    | none => rfl
end L2S

set_option linter.all false
set_option maxRecDepth 100000
set_option maxHeartbeats 4000000
namespace L2S
open PySem PyProof.Rows
section
variable {M : Model} {A : Around} {E : Value → Shared → Prop} {s : Shared} {κ : SortKind} {a₀ : Array Keyed} {f : Keyed → Int} {a b o : Array Keyed} {i j : Nat}
/-- merged from behind: o, the other way round -/
abbrev JH (f : Keyed → Int) (a b o : Array Keyed) (i j : Nat) : Prop := Jm (fun x => - f x) a.toList.reverse b.toList.reverse o.toList (a.size - i) (b.size - j)
theorem rev_drop {a : Array Keyed} {i : Nat} (h : i ≤ a.size) : a.toList.reverse.drop (a.size - i) = (a.toList.take i).reverse := by
  rw [List.drop_reverse, Array.length_toList, show a.size - (a.size - i) = i by omega]
theorem ext_to (a : Array Keyed) (i : Nat) : (a.extract 0 i).toList = a.toList.take i := by
  rw [Array.toList_extract, List.extract_eq_drop_take, Nat.sub_zero]
  rfl
theorem mem_rev {a : Array Keyed} {i : Nat} {x : Keyed} (h : i ≤ a.size) (hx : x ∈ a.toList.reverse.drop (a.size - i)) : ∃ k, k < i ∧ kn f a k = f x := by
  rw [rev_drop h, List.mem_reverse] at hx
  obtain ⟨n, hn⟩ := List.getElem?_of_mem hx
  have hl := (List.getElem?_eq_some_iff.mp hn).1
  rw [List.length_take] at hl
  rw [List.getElem?_take_of_lt (by omega), Array.getElem?_toList] at hn
  exact ⟨n, by omega, kn_at hn⟩
theorem good_rev {as bs r : List Keyed} (h : Good (fun x => - f x) as.reverse bs.reverse r) : Good f as bs r.reverse := by
  refine ⟨?_, ?_⟩
  · refine (List.reverse_perm r).trans (h.1.trans ?_)
    exact List.Perm.append (List.reverse_perm as) (List.reverse_perm bs)
  · rw [List.pairwise_reverse]
    refine h.2.imp fun {x y} z => ?_
    have w : - f x ≤ - f y := z
    show f y ≤ f x
    omega
theorem JH.dn (h : JH f a b o i j) (hi : i ≤ a.size) (hj : j ≤ b.size) (e : i = 0 ∨ j = 0) : Fin f a b (dnH a b o i j) := by
  have g := Jm.dn (Jm.swap h) (e.symm.imp (fun z => by rw [rev_drop hj, z]; rfl) (fun z => by rw [rev_drop hi, z]; rfl))
  have g2 := good_rev g
  rw [rev_drop hi, rev_drop hj, List.reverse_append, List.reverse_append, List.reverse_reverse, List.reverse_reverse, ← List.append_assoc] at g2
  unfold Fin dnH
  rw [Array.toList_append, Array.toList_append, ext_to, ext_to, Array.toList_reverse]
  exact ⟨g2.1.trans List.perm_append_comm, g2.2⟩
theorem JH.fb (h : JH f a b o i j) (T : Two a₀ f a b) (hi : i ≤ a.size) (hj : j ≤ b.size) (e : j = 1) : Fin f a b (fbH a b o i j) := by
  have g := Jm.la (Jm.swap h) fun x hx y hy => by
    obtain ⟨k, k1, k2⟩ := mem_rev (f := f) hj hx
    obtain ⟨n, n1, n2⟩ := mem_rev (f := f) hi hy
    have := T.lo n (by omega)
    rw [show k = 0 by omega] at k2
    rw [k2, n2] at this
    show - f y ≤ - f x
    omega
  have g2 := good_rev g
  rw [rev_drop hi, rev_drop hj, List.reverse_append, List.reverse_append, List.reverse_reverse, List.reverse_reverse, ← List.append_assoc] at g2
  unfold Fin fbH
  rw [Array.toList_append, Array.toList_append, ext_to, ext_to, Array.toList_reverse]
  exact ⟨g2.1.trans List.perm_append_comm, g2.2⟩
theorem JH.chunkA (h : JH f a b o i j) {t : Nat} (ht : t ≤ i) (hi : i ≤ a.size) (hj : j ≤ b.size) (hc : ∀ n m, t ≤ n → n < i → m < j → kn f b m ≤ kn f a n) : JH f a b (o ++ (a.extract t i).reverse) t j := by
  have e : (a.toList.reverse.drop (a.size - i)).take (i - t) = (a.extract t i).reverse.toList := by
    rw [rev_drop hi, List.take_reverse, Array.toList_reverse, Array.toList_extract, List.extract_eq_drop_take, List.length_take, Array.length_toList, Nat.min_eq_left hi, show i - (i - t) = t by omega, List.drop_take]
  have g := Jm.chunk h (i - t) fun u hu y hy => by
    obtain ⟨m, m1, m2⟩ := mem_rev (f := f) hj hy
    rw [e, Array.toList_reverse, List.mem_reverse, show i = t + (i - t) by omega, ext_mid] at hu
    obtain ⟨n, n1, n2, n3, n4⟩ := mem_take (f := f) hu
    have := hc n m n1 (by omega) m1
    show - f u ≤ - f y
    omega
  rw [e] at g
  unfold JH
  rw [Array.toList_append, show a.size - t = a.size - i + (i - t) by omega]
  exact g
theorem JH.chunkB (h : JH f a b o i j) {t : Nat} (ht : t ≤ j) (hi : i ≤ a.size) (hj : j ≤ b.size) (hc : ∀ n m, t ≤ n → n < j → m < i → kn f a m ≤ kn f b n) : JH f a b (o ++ (b.extract t j).reverse) i t :=
  (JH.chunkA (Jm.swap h) ht hj hi hc).swap
theorem one_rev {x : Keyed} (hx : a[i - 1]? = some x) (hi : 1 ≤ i) : (a.extract (i - 1) i).reverse = #[x] := by
  have e : (a.extract (i - 1) i).toList = [x] := by
    have := ext_mid a (i - 1) 1
    rw [show i - 1 + 1 = i by omega] at this
    rw [this]
    exact one_of hx
  apply Array.toList_inj.mp
  rw [Array.toList_reverse, e]
  rfl
theorem JH.pushA {x : Keyed} (h : JH f a b o i j) (hx : a[i - 1]? = some x) (h1 : 1 ≤ i) (hi : i ≤ a.size) (hj : j ≤ b.size) (hc : ∀ m, m < j → kn f b m ≤ f x) : JH f a b (o.push x) (i - 1) j := by
  have g := JH.chunkA h (t := i - 1) (by omega) hi hj fun n m n1 n2 m1 => by
    rw [show n = i - 1 by omega, kn_at hx]
    exact hc m m1
  rw [one_rev hx h1] at g
  rw [show o.push x = o ++ #[x] from rfl]
  exact g
theorem JH.pushB {x : Keyed} (h : JH f a b o i j) (hx : b[j - 1]? = some x) (h1 : 1 ≤ j) (hi : i ≤ a.size) (hj : j ≤ b.size) (hc : ∀ m, m < i → kn f a m ≤ f x) : JH f a b (o.push x) i (j - 1) :=
  (JH.pushA (Jm.swap h) hx h1 hj hi hc).swap
/-- where a turn of the loops stands -/
structure At (f : Keyed → Int) (a b : Array Keyed) (x : Nat) (i j : Nat) (o : Array Keyed) : Prop where
  J : JH f a b o i j
  i1 : 1 ≤ i
  i2 : i ≤ a.size
  j1 : 2 ≤ j
  j2 : j ≤ b.size
  p : x + i + j ≤ a.size + b.size
def R7h (f : Keyed → Int) (a b : Array Keyed) (st : SortSt) (x : Nat) : ForInStep D7 → SortSt → Prop
  | .done c, st' => Ev st st' ∧ ((∃ r z, c = (some r, z) ∧ Fin f a b r) ∨ ∃ i j o g ac bc, c = (none, i, j, o, g, ac, bc) ∧ At f a b x i j o)
  | .yield c, st' => Ev st st' ∧ ∃ i j o g ac bc, c = (none, i, j, o, g, ac, bc) ∧ At f a b x i j o
theorem mHi_ok {st : SortSt} {Q : Array Keyed → SortSt → Prop} (L : Asks M A E s κ a₀ f) (hk : kindOf st = κ) (T : Two a₀ f a b) (h : ∀ r st', Ev st st' → Fin f a b r → Q r st') : wpS M A E s (mHi a b) Q st := by
  have ta := T.na
  have tb := T.nb
  have ua : ∀ n m, n ≤ m → m < a.size → kn f a n ≤ kn f a m := fun n m z1 z2 => T.ua n m (Nat.zero_le _) z1 (by omega)
  have ub : ∀ n m, n ≤ m → m < b.size → kn f b n ≤ kn f b m := fun n m z1 z2 => T.ub n m (Nat.zero_le _) z1 (by omega)
  have pr : ∀ l : List Keyed, l.Pairwise (leK f) → l.reverse.Pairwise (leK fun x => - f x) := fun l z => by
    rw [List.pairwise_reverse]
    refine z.imp fun {x y} w => ?_
    have w' : f x ≤ f y := w
    show - f y ≤ - f x
    omega
  rw [mHi_low]
  refine wpS_bind (wpS_lift (wpAny_rule ⟨rfl, ?_⟩))
  obtain ⟨x0, hx0⟩ := at_of (a := a) (i := a.size - 1) (by omega)
  refine wpS_bind (elem_at hx0 ?_)
  have J0 : JH f a b #[x0] (a.size - 1) b.size := by
    have e : JH f a b #[] a.size b.size := ⟨by simp, by simpa using pr _ (up_pw T.ua), by simpa using pr _ (up_pw T.ub)⟩
    exact JH.pushA e hx0 ta (Nat.le_refl _) (Nat.le_refl _) fun m m1 => by rw [← kn_at (f := f) hx0]; exact T.hi m m1
  by_cases c1 : a.size - 1 = 0
  · rw [if_pos (by simpa using c1)]
    exact wpS_pure (h _ st .refl (J0.dn (by omega) (Nat.le_refl _) (.inl c1)))
  rw [if_neg (by simpa using c1)]
  by_cases c2 : b.size = 1
  · rw [if_pos (by simpa using c2)]
    exact wpS_pure (h _ st .refl (J0.fb T (by omega) (Nat.le_refl _) c2))
  rw [if_neg (by simpa using c2)]
  refine wpS_bind (wpS_get ?_)
  refine wpS_bind (wpS_mono (wpS_forRange (I := fun x c st' => Ev st st' ∧ ∃ i j o g, c = (none, i, j, o, g) ∧ At f a b (x + 1) i j o) (Q := fun c st' => Ev st st' ∧ ∃ r z, c = (some r, z) ∧ Fin f a b r) ?_ ?_ ⟨.refl, _, _, _, _, rfl, J0, by omega, by omega, by omega, by omega, by omega⟩) ?_)
  · rintro x c st1 _ hx ⟨e1, i, j, o, g, rfl, W⟩
    unfold hiO
    dsimp only
    refine wpS_bind (wpS_mono (wpS_forRange (I := fun y c st' => Ev st st' ∧ ∃ i j o ac bc, c = (none, i, j, o, ac, bc) ∧ At f a b (x + 1 + y) i j o)
      (Q := fun c st' => Ev st st' ∧ ((∃ r z, c = (some r, z) ∧ Fin f a b r) ∨ ∃ i j o ac bc, c = (none, i, j, o, ac, bc) ∧ At f a b (x + 2) i j o)) ?_ ?_ ⟨e1, i, j, o, 0, 0, rfl, W⟩) ?_)
    · rintro y c st2 _ hy ⟨e2, i, j, o, ac, bc, rfl, J, i1, i2, j1, j2, hp⟩
      unfold hi1
      dsimp only
      obtain ⟨yb, hyb⟩ := at_of (a := b) (i := j - 1) (by omega)
      obtain ⟨xa, hxa⟩ := at_of (a := a) (i := i - 1) (by omega)
      refine wpS_bind (elem_at hyb ?_)
      refine wpS_bind (elem_at hxa ?_)
      refine wpS_bind (L.lt yb xa (T.ib.get hyb) (T.ia.get hxa) st2 _ (e2.k.trans hk) ?_)
      by_cases hw : f yb < f xa
      · rw [decide_eq_true hw]
        dsimp only
        rw [if_pos rfl]
        refine wpS_bind (elem_at hxa ?_)
        have J2 := J.pushA hxa i1 i2 j2 fun m m1 => by
          have := ub m (j - 1) (by omega) (by omega)
          rw [kn_at hyb] at this
          omega
        by_cases c3 : i - 1 = 0
        · rw [if_pos (by simpa using c3)]
          exact wpS_pure ⟨e2, .inl ⟨_, _, rfl, J2.dn (by omega) j2 (.inl c3)⟩⟩
        rw [if_neg (by simpa using c3)]
        split
        · exact wpS_pure ⟨e2, .inr ⟨_, _, _, _, _, rfl, J2, by omega, by omega, j1, j2, by omega⟩⟩
        · exact wpS_pure ⟨e2, _, _, _, _, _, rfl, J2, by omega, by omega, j1, j2, by omega⟩
      · rw [decide_eq_false hw]
        dsimp only
        rw [if_neg (by decide)]
        refine wpS_bind (elem_at hyb ?_)
        have J2 := J.pushB hyb (by omega) i2 j2 fun m m1 => by
          have := ua m (i - 1) (by omega) (by omega)
          rw [kn_at hxa] at this
          omega
        by_cases c3 : j - 1 = 1
        · rw [if_pos (by simpa using c3)]
          exact wpS_pure ⟨e2, .inl ⟨_, _, rfl, J2.fb T i2 (by omega) c3⟩⟩
        rw [if_neg (by simpa using c3)]
        split
        · exact wpS_pure ⟨e2, .inr ⟨_, _, _, _, _, rfl, J2, i1, i2, by omega, by omega, by omega⟩⟩
        · exact wpS_pure ⟨e2, _, _, _, _, _, rfl, J2, i1, i2, by omega, by omega, by omega⟩
    · rintro c st2 ⟨e2, i, j, o, ac, bc, rfl, J, i1, i2, j1, j2, hp⟩
      exact ⟨e2, .inr ⟨_, _, _, _, _, rfl, J, i1, i2, j1, j2, by omega⟩⟩
    · rintro c st2 ⟨e2, ⟨r, z, rfl, hr⟩ | ⟨i, j, o, ac, bc, rfl, W⟩⟩
      · exact wpS_pure ⟨e2, r, _, rfl, hr⟩
      dsimp only
      refine wpS_bind (wpS_lift (wpAny_rule ⟨rfl, ?_⟩))
      refine wpS_bind (wpS_mono (wpS_forRange (I := fun y c st' => Ev st st' ∧ ∃ i j o g ac bc, c = (none, i, j, o, g, ac, bc) ∧ At f a b (x + 2) i j o)
        (Q := fun c st' => Ev st st' ∧ ((∃ r z, c = (some r, z) ∧ Fin f a b r) ∨ ∃ i j o g ac bc, c = (none, i, j, o, g, ac, bc) ∧ At f a b (x + 2) i j o)) ?_ ?_ ⟨e2, i, j, o, _, ac, bc, rfl, W⟩) ?_)
      · rintro y c st3 _ hy ⟨e3, i, j, o, g, ac, bc, rfl, J, i1, i2, j1, j2, hp⟩
        have four : ∀ (g ac bc : Nat) (o : Array Keyed) (i j : Nat) (st4 : SortSt) (xa : Keyed), Ev st st4 → At f a b (x + 2) i j o → a[i - 1]? = some xa → (∀ n, n < j → kn f b n ≤ f xa) → wpS M A E s (hi4 a b g ac bc o i j) (R7h f a b st (x + 2)) st4 := by
          rintro g ac bc o i j st4 xa e4 ⟨J, i1, i2, j1, j2, hp⟩ hxa hle
          unfold hi4
          refine wpS_bind (elem_at hxa ?_)
          have J2 := J.pushA hxa i1 i2 j2 hle
          by_cases c3 : i - 1 = 0
          · rw [if_pos (by simpa using c3)]
            exact wpS_pure ⟨e4, .inl ⟨_, _, rfl, J2.dn (by omega) j2 (.inl c3)⟩⟩
          rw [if_neg (by simpa using c3)]
          split
          · exact wpS_pure ⟨e4, .inr ⟨_, _, _, _, _, _, rfl, J2, by omega, by omega, j1, j2, by omega⟩⟩
          · exact wpS_pure ⟨e4, _, _, _, _, _, _, rfl, J2, by omega, by omega, j1, j2, by omega⟩
        have three : ∀ (g ac bc : Nat) (o : Array Keyed) (i j : Nat) (st4 : SortSt) (yb : Keyed), Ev st st4 → At f a b (x + 2) i j o → b[j - 1]? = some yb → (∀ n, n < i → kn f a n ≤ f yb) → wpS M A E s (hi3 a b g ac bc o i j) (R7h f a b st (x + 2)) st4 := by
          rintro g ac bc o i j st4 yb e4 ⟨J, i1, i2, j1, j2, hp⟩ hyb hle
          unfold hi3
          refine wpS_bind (elem_at hyb ?_)
          have J2 := J.pushB hyb (by omega) i2 j2 hle
          by_cases c3 : j - 1 = 1
          · rw [if_pos (by simpa using c3)]
            exact wpS_pure ⟨e4, .inl ⟨_, _, rfl, J2.fb T i2 (by omega) c3⟩⟩
          rw [if_neg (by simpa using c3)]
          obtain ⟨xa, hxa⟩ := at_of (a := a) (i := i - 1) (by omega)
          refine wpS_bind (elem_at hxa ?_)
          refine wpS_bind (gal_yes L (e4.k.trans hk) T.ib (T.ia.get hxa) (by omega) (by omega) (T.ub.sub (by omega)) fun t k1 k2 k3 => ?_)
          dsimp only
          have rest : ∀ n, n < t → kn f b n ≤ f xa := fun n n1 => by
            have := k2 n n1
            rw [Nat.zero_add] at this
            omega
          by_cases hk0 : j - 1 - t > 0
          · rw [if_pos hk0]
            have J3 := J2.chunkB k1 i2 (by omega) fun n m n1 n2 m1 => by
              have z := k3 n n1 n2
              rw [Nat.zero_add] at z
              have z2 := ua m (i - 1) (by omega) (by omega)
              rw [kn_at hxa] at z2
              omega
            by_cases c4 : t = 1
            · rw [if_pos (by simpa using c4)]
              exact wpS_pure ⟨e4, .inl ⟨_, _, rfl, J3.fb T i2 (by omega) c4⟩⟩
            rw [if_neg (by simpa using c4)]
            by_cases c5 : t = 0
            · rw [if_pos (by simpa using c5)]
              exact wpS_pure ⟨e4, .inl ⟨_, _, rfl, J3.dn i2 (by omega) (.inr c5)⟩⟩
            rw [if_neg (by simpa using c5)]
            exact four _ _ _ _ _ _ _ xa e4 ⟨J3, i1, i2, by omega, by omega, by omega⟩ hxa rest
          · rw [if_neg hk0]
            have : t = j - 1 := by omega
            subst this
            exact four _ _ _ _ _ _ _ xa e4 ⟨J2, i1, i2, by omega, by omega, by omega⟩ hxa rest
        have two : ∀ (g ac bc : Nat), wpS M A E s (hi2 a b g ac bc o i j) (R7h f a b st (x + 2)) st3 := by
          intro g ac bc
          unfold hi2
          obtain ⟨yb, hyb⟩ := at_of (a := b) (i := j - 1) (by omega)
          refine wpS_bind (wpS_modify ?_)
          have e4 := e3.setG g
          refine wpS_bind (elem_at hyb ?_)
          refine wpS_bind (gal_no L (e4.k.trans hk) T.ia (T.ib.get hyb) (by omega) (by omega) (T.ua.sub (by omega)) fun t k1 k2 k3 => ?_)
          dsimp only
          have rest : ∀ n, n < t → kn f a n ≤ f yb := fun n n1 => by
            have := k2 n n1
            rw [Nat.zero_add] at this
            exact this
          by_cases hk0 : i - t > 0
          · rw [if_pos hk0]
            have J3 := J.chunkA k1 i2 j2 fun n m n1 n2 m1 => by
              have z := k3 n n1 n2
              rw [Nat.zero_add] at z
              have z2 := ub m (j - 1) (by omega) (by omega)
              rw [kn_at hyb] at z2
              omega
            by_cases c4 : t = 0
            · rw [if_pos (by simpa using c4)]
              exact wpS_pure ⟨e4, .inl ⟨_, _, rfl, J3.dn (by omega) j2 (.inl c4)⟩⟩
            rw [if_neg (by simpa using c4)]
            exact three _ _ _ _ _ _ _ yb e4 ⟨J3, by omega, by omega, j1, j2, by omega⟩ hyb rest
          · rw [if_neg hk0]
            have : t = i := by omega
            subst this
            exact three _ _ _ _ _ _ _ yb e4 ⟨J, i1, i2, j1, j2, hp⟩ hyb rest
        unfold hiB
        dsimp only
        split
        · exact wpS_mono (two _ _ _) fun r st' z => by cases r <;> exact z
        · exact wpS_mono (two _ _ _) fun r st' z => by cases r <;> exact z
      · rintro c st3 ⟨e3, i, j, o, g, ac, bc, rfl, W⟩
        exact ⟨e3, .inr ⟨_, _, _, _, _, _, rfl, W⟩⟩
      · rintro c st3 ⟨e3, ⟨r, z, rfl, hr⟩ | ⟨i, j, o, g, ac, bc, rfl, W⟩⟩
        · exact wpS_pure ⟨e3, r, _, rfl, hr⟩
        · dsimp only
          exact wpS_bind (wpS_modify (wpS_pure ⟨e3.setG _, _, _, _, _, rfl, W⟩))
  · rintro c st1 ⟨e1, i, j, o, g, rfl, J, i1, i2, j1, j2, hp⟩
    omega
  · rintro c st1 ⟨e1, r, z, rfl, hr⟩
    exact wpS_pure (h r st1 e1 hr)
end
end L2S

set_option linter.all false
set_option maxRecDepth 100000
set_option maxHeartbeats 4000000
namespace L2S
open PySem PyProof.Rows
abbrev PT := Nat × Nat × Nat
def layIn (xs m : Array Keyed) (lo : Nat) : Array Keyed := m.toList.zipIdx.foldl (fun a (p, j) => a.setIfInBounds (lo + j) p) xs
theorem mAt_eq (i : Nat) : mergeAt' i = (do
  let z ← get
  let (some (s1, n1, w1), some (s2, n2, _)) := ((pendingOf z)[i]?, (pendingOf z)[i + 1]?) | unsupported "internal:list.sort.pending"
  set (setPending z (((pendingOf z).setIfInBounds i (s1, n1 + n2, w1)).eraseIdxIfInBounds (i + 1)))
  let some k ← gal false (← elem' (arrOf z) s2) (arrOf z) s1 n1 0 | return false
  let (s1, n1) := (s1 + k, n1 - k)
  if n1 == 0 then return true
  let some n2 ← gal true (← elem' (arrOf z) (s1 + n1 - 1)) (arrOf z) s2 n2 (n2 - 1) | return false
  if n2 == 0 then return true
  let x := (arrOf z).extract s1 s2
  let y := (arrOf z).extract s2 (s2 + n2)
  let m ← if n1 ≤ n2 then mLo x y else mHi x y
  modify fun z => setArr z (layIn (arrOf z) m s1)
  return (failedOf (← get)).isNone) := rfl
theorem wpS_set {M : Model} {A : Around} {E : Value → Shared → Prop} {s : Shared} {σ : Type} {x : σ} {Q : PUnit → σ → Prop} {st : σ} (h : Q ⟨⟩ x) : wpS M A E s (set x : StateT σ Sem PUnit) Q st := by
  unfold wpS; rw [StateT.run_set]; exact wpAny_pure ⟨rfl, h⟩
theorem lay_go (lo : Nat) : ∀ (l : List Keyed) (k : Nat) (xs : Array Keyed), lo + k + l.length ≤ xs.size →
    (((l.zipIdx k).foldl (fun a (p : Keyed × Nat) => a.setIfInBounds (lo + p.2) p.1) xs).size = xs.size) ∧ ∀ n, ((l.zipIdx k).foldl (fun a (p : Keyed × Nat) => a.setIfInBounds (lo + p.2) p.1) xs)[n]? = if lo + k ≤ n ∧ n < lo + k + l.length then l[n - (lo + k)]? else xs[n]?
  | [], k, xs, _ => by
    refine ⟨rfl, fun n => ?_⟩
    rw [if_neg (fun z => by rw [List.length_nil] at z; omega)]
    rfl
  | x :: r, k, xs, h => by
    rw [List.length_cons] at h
    rw [List.zipIdx_cons, List.foldl_cons]
    obtain ⟨i1, i2⟩ := lay_go lo r (k + 1) (xs.setIfInBounds (lo + k) x) (by rw [Array.size_setIfInBounds]; omega)
    refine ⟨by rw [i1, Array.size_setIfInBounds], fun n => ?_⟩
    rw [i2, List.length_cons]
    by_cases c1 : lo + (k + 1) ≤ n ∧ n < lo + (k + 1) + r.length
    · rw [if_pos c1, if_pos (by omega), show n - (lo + k) = (n - (lo + (k + 1))) + 1 by omega, List.getElem?_cons_succ]
    · rw [if_neg c1, Array.getElem?_setIfInBounds]
      by_cases c2 : lo + k = n
      · rw [if_pos c2, if_pos (by omega), if_pos (by omega), show n - (lo + k) = 0 by omega]
        rfl
      · rw [if_neg c2, if_neg (by omega)]
theorem lay_get {xs m : Array Keyed} {lo : Nat} (h : lo + m.size ≤ xs.size) (n : Nat) : (layIn xs m lo)[n]? = if lo ≤ n ∧ n < lo + m.size then m[n - lo]? else xs[n]? := by
  have := (lay_go lo m.toList 0 xs (by rw [Array.length_toList]; omega)).2 n
  rw [Array.length_toList, Nat.add_zero, Array.getElem?_toList] at this
  exact this
theorem lay_list {xs m : Array Keyed} {lo : Nat} (h : lo + m.size ≤ xs.size) : (layIn xs m lo).toList = xs.toList.take lo ++ m.toList ++ xs.toList.drop (lo + m.size) := by
  refine List.ext_getElem? fun n => ?_
  rw [Array.getElem?_toList, lay_get h]
  by_cases c1 : n < lo
  · rw [if_neg (by omega), List.append_assoc, List.getElem?_append_left (by rw [List.length_take, Array.length_toList]; omega), List.getElem?_take_of_lt c1, Array.getElem?_toList]
  · by_cases c2 : n < lo + m.size
    · rw [if_pos (by omega), List.append_assoc, List.getElem?_append_right (by rw [List.length_take, Array.length_toList]; omega), List.length_take, Array.length_toList, Nat.min_eq_left (by omega), List.getElem?_append_left (by rw [Array.length_toList]; omega), Array.getElem?_toList]
    · rw [if_neg (by omega), List.getElem?_append_right (by rw [List.length_append, List.length_take, Array.length_toList, Array.length_toList]; omega), List.length_append, List.length_take, Array.length_toList, Array.length_toList, Nat.min_eq_left (by omega), List.getElem?_drop, Array.getElem?_toList]
      congr 1
      omega
section
variable {M : Model} {A : Around} {E : Value → Shared → Prop} {s : Shared} {κ : SortKind} {a₀ : Array Keyed} {f : Keyed → Int}
theorem SB.inA {st : SortSt} (h : SB κ a₀ st) : InA a₀ (arrOf st) := fun x hx => (Array.perm_iff_toList_perm.mp h.perm).mem_iff.mp hx
theorem ext_get {xs : Array Keyed} {i j n : Nat} (h : j ≤ xs.size) (hn : n < j - i) : (xs.extract i j)[n]? = xs[i + n]? := by
  rw [Array.getElem?_extract]
  rw [if_pos (by omega)]
theorem merge_at {st : SortSt} {i sa na w nb v : Nat} {Q : Bool → SortSt → Prop} (L : Asks M A E s κ a₀ f) (hB : SB κ a₀ st) (p1 : (pendingOf st)[i]? = some (sa, na, w)) (p2 : (pendingOf st)[i + 1]? = some (sa + na, nb, v)) (na1 : 1 ≤ na) (nb1 : 1 ≤ nb) (hz : sa + na + nb ≤ a₀.size)
    (ua : Up f (arrOf st) sa na) (ub : Up f (arrOf st) (sa + na) nb)
    (h : ∀ st', SB κ a₀ st' → pendingOf st' = ((pendingOf st).setIfInBounds i (sa, na + nb, w)).eraseIdxIfInBounds (i + 1) → Up f (arrOf st') sa (na + nb) → (∀ k, k < sa ∨ sa + na + nb ≤ k → (arrOf st')[k]? = (arrOf st)[k]?) → Q true st') : wpS M A E s (mergeAt' i) Q st := by
  have hsz := hB.size
  rw [mAt_eq]
  refine wpS_bind (wpS_get ?_)
  rw [p1, p2]
  dsimp only
  refine wpS_bind (wpS_set ?_)
  have hB1 : SB κ a₀ (setPending st (((pendingOf st).setIfInBounds i (sa, na + nb, w)).eraseIdxIfInBounds (i + 1))) := ⟨hB.perm, hB.kind, hB.fail⟩
  obtain ⟨b0, hb0⟩ := at_of (a := arrOf st) (i := sa + na) (by omega)
  refine wpS_bind (elem_at hb0 ?_)
  refine wpS_bind (gal_no L hB1.kind hB.inA (hB.inA.get hb0) (by omega) (by omega) ua fun k k1 k2 k3 => ?_)
  dsimp only
  have lowA : ∀ n, sa ≤ n → n < sa + k → kn f (arrOf st) n ≤ f b0 := fun n n1 n2 => by
    have := k2 (n - sa) (by omega)
    rw [show sa + (n - sa) = n by omega] at this
    exact this
  have fromB : ∀ n, sa + na ≤ n → n < sa + na + nb → f b0 ≤ kn f (arrOf st) n := fun n n1 n2 => by
    have := ub (sa + na) n (Nat.le_refl _) n1 n2
    rw [kn_at hb0] at this
    exact this
  by_cases c1 : na - k = 0
  · rw [if_pos (by simpa using c1)]
    refine wpS_pure (h _ hB1 rfl (fun n m n1 n2 n3 => ?_) fun _ _ => rfl)
    by_cases d1 : m < sa + na
    · exact ua n m n1 n2 d1
    · by_cases d2 : n < sa + na
      · have z1 := lowA n n1 (by omega)
        have z2 := fromB m (by omega) (by omega)
        show kn f (arrOf st) n ≤ kn f (arrOf st) m
        omega
      · exact ub n m (by omega) n2 (by omega)
  rw [if_neg (by simpa using c1)]
  rw [show sa + k + (na - k) - 1 = sa + na - 1 by omega]
  obtain ⟨aN, haN⟩ := at_of (a := arrOf st) (i := sa + na - 1) (by omega)
  refine wpS_bind (elem_at haN ?_)
  refine wpS_bind (gal_yes L hB1.kind hB.inA (hB.inA.get haN) (by omega) (by omega) ub fun t t1 t2 t3 => ?_)
  dsimp only
  have highB : ∀ n, sa + na + t ≤ n → n < sa + na + nb → f aN ≤ kn f (arrOf st) n := fun n n1 n2 => by
    have := t3 (n - (sa + na)) (by omega) (by omega)
    rw [show sa + na + (n - (sa + na)) = n by omega] at this
    exact this
  have toA : ∀ n, sa ≤ n → n < sa + na → kn f (arrOf st) n ≤ f aN := fun n n1 n2 => by
    have := ua n (sa + na - 1) n1 (by omega) (by omega)
    rw [kn_at haN] at this
    exact this
  by_cases c2 : t = 0
  · rw [if_pos (by simpa using c2)]
    refine wpS_pure (h _ hB1 rfl (fun n m n1 n2 n3 => ?_) fun _ _ => rfl)
    by_cases d1 : m < sa + na
    · exact ua n m n1 n2 d1
    · by_cases d2 : n < sa + na
      · have z1 := toA n n1 d2
        have z2 := highB m (by omega) (by omega)
        show kn f (arrOf st) n ≤ kn f (arrOf st) m
        omega
      · exact ub n m (by omega) n2 (by omega)
  rw [if_neg (by simpa using c2)]
  have x1 : ((arrOf st).extract (sa + k) (sa + na)).size = na - k := by rw [Array.size_extract]; omega
  have y1 : ((arrOf st).extract (sa + na) (sa + na + t)).size = t := by rw [Array.size_extract]; omega
  have xg : ∀ n, n < na - k → kn f ((arrOf st).extract (sa + k) (sa + na)) n = kn f (arrOf st) (sa + k + n) := fun n hn => kn_congr (ext_get (by omega) (by omega))
  have yg : ∀ n, n < t → kn f ((arrOf st).extract (sa + na) (sa + na + t)) n = kn f (arrOf st) (sa + na + n) := fun n hn => kn_congr (ext_get (by omega) (by omega))
  have hiA : ∀ n, sa + k ≤ n → n < sa + na → f b0 < kn f (arrOf st) n := fun n n1 n2 => by
    have := k3 (n - sa) (by omega) (by omega)
    rw [show sa + (n - sa) = n by omega] at this
    exact this
  have inx : ∀ (lo hi : Nat), InA a₀ ((arrOf st).extract lo hi) := fun lo hi x hx => by
    rw [Array.toList_extract, List.extract_eq_drop_take] at hx
    exact hB.inA x (List.mem_of_mem_drop (List.mem_of_mem_take hx))
  have T : Two a₀ f ((arrOf st).extract (sa + k) (sa + na)) ((arrOf st).extract (sa + na) (sa + na + t)) := {
    ia := inx _ _
    ib := inx _ _
    ua := fun n m _ n2 n3 => by
      rw [xg n (by omega), xg m (by omega)]
      exact ua _ _ (by omega) (by omega) (by omega)
    ub := fun n m _ n2 n3 => by
      rw [yg n (by omega), yg m (by omega)]
      exact ub _ _ (by omega) (by omega) (by omega)
    na := by omega
    nb := by omega
    lo := fun n hn => by
      rw [xg n (by omega), yg 0 (by omega), Nat.add_zero, kn_at hb0]
      exact Int.le_of_lt (hiA _ (by omega) (by omega))
    hi := fun n hn => by
      rw [x1, xg _ (by omega), yg n (by omega), show sa + k + (na - k - 1) = sa + na - 1 by omega, kn_at haN]
      exact Int.le_of_lt (t2 n (by omega)) }
  have fin : ∀ m st', Ev (setPending st (((pendingOf st).setIfInBounds i (sa, na + nb, w)).eraseIdxIfInBounds (i + 1))) st' → Fin f ((arrOf st).extract (sa + k) (sa + na)) ((arrOf st).extract (sa + na) (sa + na + t)) m →
      wpS M A E s (modify (fun z => setArr z (layIn (arrOf z) m (sa + k))) >>= fun _ => get >>= fun z => pure (failedOf z).isNone) Q st' := by
    intro m st' ev g
    have ea : arrOf st' = arrOf st := ev.a
    have hm : m.size = na - k + t := by
      have := g.1.length_eq
      rw [Array.length_toList, List.length_append, Array.length_toList, Array.length_toList, x1, y1] at this
      exact this
    refine wpS_bind (wpS_modify (wpS_bind (wpS_get (wpS_pure ?_))))
    have hf : failedOf st' = none := ev.f.trans hB.fail
    show Q (failedOf st').isNone _
    rw [hf]
    have hl : sa + k + m.size ≤ (arrOf st).size := by omega
    have mel : ∀ n, n < m.size → ∃ p, sa + k ≤ p ∧ p < sa + na + t ∧ kn f m n = kn f (arrOf st) p := fun n hn => by
      obtain ⟨x, hx⟩ := at_of (a := m) hn
      have hxm : x ∈ m.toList := by
        rw [Array.getElem?_eq_some_iff] at hx
        obtain ⟨_, rfl⟩ := hx
        simp
      have := g.1.mem_iff.mp hxm
      rw [kn_at hx]
      rcases List.mem_append.mp this with z | z
      · obtain ⟨q, q1⟩ := List.getElem?_of_mem z
        rw [Array.getElem?_toList] at q1
        have q2 := (Array.getElem?_eq_some_iff.mp q1).1
        refine ⟨sa + k + q, by omega, by omega, ?_⟩
        rw [← xg q (by omega), kn_at q1]
      · obtain ⟨q, q1⟩ := List.getElem?_of_mem z
        rw [Array.getElem?_toList] at q1
        have q2 := (Array.getElem?_eq_some_iff.mp q1).1
        refine ⟨sa + na + q, by omega, by omega, ?_⟩
        rw [← yg q (by omega), kn_at q1]
    have ms : ∀ n q, n ≤ q → q < m.size → kn f m n ≤ kn f m q := fun n q n1 n2 => by
      by_cases e : n = q
      · rw [e]; exact Int.le_refl _
      · have := List.pairwise_iff_getElem.mp g.2 n q (by rw [Array.length_toList]; omega) (by rw [Array.length_toList]; omega) (by omega)
        rw [kn_at (getElem?_pos m n (by omega)), kn_at (getElem?_pos m q n2)]
        simpa [leK] using this
    have lk : ∀ n, kn f (layIn (arrOf st') m (sa + k)) n = if sa + k ≤ n ∧ n < sa + na + t then kn f m (n - (sa + k)) else kn f (arrOf st) n := fun n => by
      rw [ea]
      have := lay_get hl n
      by_cases e : sa + k ≤ n ∧ n < sa + na + t
      · rw [if_pos e]
        rw [if_pos (by omega)] at this
        exact kn_congr this
      · rw [if_neg e]
        rw [if_neg (by omega)] at this
        exact kn_congr this
    refine h (setArr st' (layIn (arrOf st') m (sa + k))) ⟨?_, ev.k.trans hB.kind, hf⟩ ev.p (fun n q n1 n2 n3 => ?_) fun n hn => ?_
    · show (layIn (arrOf st') m (sa + k)).Perm a₀
      rw [ea]
      refine Array.Perm.trans ?_ hB.perm
      rw [Array.perm_iff_toList_perm, lay_list hl]
      have e1 : (arrOf st).toList = (arrOf st).toList.take (sa + k) ++ (((arrOf st).extract (sa + k) (sa + na)).toList ++ ((arrOf st).extract (sa + na) (sa + na + t)).toList) ++ (arrOf st).toList.drop (sa + k + m.size) := by
        rw [Array.toList_extract, Array.toList_extract, List.extract_eq_drop_take, List.extract_eq_drop_take]
        have s1 : ((arrOf st).toList.drop (sa + k)).take (sa + na - (sa + k)) ++ ((arrOf st).toList.drop (sa + na)).take (sa + na + t - (sa + na)) = ((arrOf st).toList.drop (sa + k)).take m.size := by
          rw [show m.size = (sa + na - (sa + k)) + (sa + na + t - (sa + na)) by omega, List.take_add, List.drop_drop, show sa + k + (sa + na - (sa + k)) = sa + na by omega]
        rw [s1, List.append_assoc, show (arrOf st).toList.drop (sa + k + m.size) = ((arrOf st).toList.drop (sa + k)).drop m.size by rw [List.drop_drop], List.take_append_drop, List.take_append_drop]
      conv => rhs; rw [e1]
      exact List.Perm.append_right _ (List.Perm.append_left _ g.1)
    · show kn f (layIn (arrOf st') m (sa + k)) n ≤ kn f (layIn (arrOf st') m (sa + k)) q
      rw [lk, lk]
      by_cases c3 : sa + k ≤ n ∧ n < sa + na + t
      · rw [if_pos c3]
        by_cases c4 : sa + k ≤ q ∧ q < sa + na + t
        · rw [if_pos c4]
          exact ms _ _ (by omega) (by omega)
        · rw [if_neg c4]
          obtain ⟨p, q1, q2, q3⟩ := mel (n - (sa + k)) (by omega)
          rw [q3]
          by_cases c5 : p < sa + na
          · have z1 := toA p (by omega) c5
            have z2 := highB q (by omega) (by omega)
            omega
          · exact ub p q (by omega) (by omega) (by omega)
      · rw [if_neg c3]
        by_cases c4 : sa + k ≤ q ∧ q < sa + na + t
        · rw [if_pos c4]
          obtain ⟨p, q1, q2, q3⟩ := mel (q - (sa + k)) (by omega)
          rw [q3]
          have z1 := lowA n n1 (by omega)
          by_cases c5 : p < sa + na
          · exact ua n p n1 (by omega) c5
          · have z2 := fromB p (by omega) (by omega)
            omega
        · rw [if_neg c4]
          by_cases c5 : q < sa + na
          · exact ua n q n1 n2 c5
          · by_cases c6 : n < sa + na
            · have z1 := lowA n n1 (by omega)
              have z2 := fromB q (by omega) (by omega)
              omega
            · exact ub n q (by omega) n2 (by omega)
    · show (layIn (arrOf st') m (sa + k))[n]? = (arrOf st)[n]?
      rw [ea, lay_get hl, if_neg (by omega)]
  by_cases c3 : na - k ≤ t
  · rw [if_pos c3]
    exact wpS_bind (mLo_ok L hB1.kind T fin)
  · rw [if_neg c3]
    exact wpS_bind (mHi_ok L hB1.kind T fin)
end
end L2S

set_option linter.all false
set_option maxRecDepth 100000
set_option maxHeartbeats 4000000
namespace L2S
open PySem PyProof.Rows
section
variable {M : Model} {A : Around} {E : Value → Shared → Prop} {s : Shared} {κ : SortKind} {a₀ : Array Keyed} {f : Keyed → Int}
/-- runs end to end -/
def Chn (f : Keyed → Int) (xs : Array Keyed) : Nat → List PT → Nat → Prop
  | a, [], e => a = e
  | a, (b, n, _) :: r, e => b = a ∧ 1 ≤ n ∧ Up f xs a n ∧ Chn f xs (a + n) r e
theorem Chn.le {xs : Array Keyed} : ∀ {l : List PT} {a e : Nat}, Chn f xs a l e → a + l.length ≤ e
  | [], a, e, h => by have : a = e := h; rw [List.length_nil]; omega
  | (b, n, w) :: r, a, e, h => by
    obtain ⟨_, h1, _, h2⟩ := h
    have := h2.le
    rw [List.length_cons]
    omega
theorem Chn.keep {xs ys : Array Keyed} : ∀ {l : List PT} {a e : Nat}, Chn f xs a l e → (∀ k, a ≤ k → k < e → ys[k]? = xs[k]?) → Chn f ys a l e
  | [], a, e, h, _ => h
  | (b, n, w) :: r, a, e, ⟨h0, h1, h2, h3⟩, k => by
    have hl := h3.le
    refine ⟨h0, h1, fun i j z1 z2 z3 => ?_, h3.keep fun m m1 m2 => k m (by omega) m2⟩
    rw [kn_congr (k i z1 (by omega)), kn_congr (k j (by omega) (by omega))]
    exact h2 i j z1 z2 z3
theorem Chn.app {xs : Array Keyed} : ∀ {l m : List PT} {a e : Nat}, Chn f xs a (l ++ m) e ↔ ∃ c, Chn f xs a l c ∧ Chn f xs c m e
  | [], m, a, e => ⟨fun h => ⟨a, rfl, h⟩, fun ⟨c, h1, h2⟩ => by have : a = c := h1; rw [this]; exact h2⟩
  | (b, n, w) :: r, m, a, e => by
    constructor
    · rintro ⟨h0, h1, h2, h3⟩
      obtain ⟨c, h4, h5⟩ := Chn.app.mp h3
      exact ⟨c, ⟨h0, h1, h2, h4⟩, h5⟩
    · rintro ⟨c, ⟨h0, h1, h2, h4⟩, h5⟩
      exact ⟨h0, h1, h2, Chn.app.mpr ⟨c, h4, h5⟩⟩
theorem two_of {l : List PT} {i : Nat} (h : i + 1 < l.length) : ∃ l1 x y l2, l = l1 ++ x :: y :: l2 ∧ l1.length = i := by
  refine ⟨l.take i, l[i], l[i + 1], l.drop (i + 2), ?_, by rw [List.length_take]; omega⟩
  rw [← List.drop_eq_getElem_cons (by omega), ← List.drop_eq_getElem_cons (by omega), List.take_append_drop]
theorem join_of {l1 l2 : List PT} {x y v : PT} {i : Nat} (h : l1.length = i) : ((l1 ++ x :: y :: l2).set i v).eraseIdx (i + 1) = l1 ++ v :: l2 := by
  subst h
  rw [List.set_append_right _ _ (Nat.le_refl _), Nat.sub_self, List.set_cons_zero, List.eraseIdx_append_of_length_le (by omega), show l1.length + 1 - l1.length = 1 by omega]
  rfl
/-- two neighbours of the runs joined -/
theorem join_at {st : SortSt} {i lo : Nat} {Q : Bool → SortSt → Prop} (L : Asks M A E s κ a₀ f) (hB : SB κ a₀ st) (hc : Chn f (arrOf st) 0 (pendingOf st).toList lo) (hlo : lo ≤ a₀.size) (hi : i + 1 < (pendingOf st).size)
    (h : ∀ st', SB κ a₀ st' → Chn f (arrOf st') 0 (pendingOf st').toList lo → (pendingOf st').size + 1 = (pendingOf st).size → (∀ k, lo ≤ k → (arrOf st')[k]? = (arrOf st)[k]?) → Q true st') : wpS M A E s (mergeAt' i) Q st := by
  obtain ⟨l1, ⟨b1, n1, w1⟩, ⟨b2, n2, w2⟩, l2, el, hl⟩ := two_of (l := (pendingOf st).toList) (i := i) (by rw [Array.length_toList]; exact hi)
  have hc' := hc
  rw [el] at hc'
  obtain ⟨c, c1, rfl, c2, c3, rfl, c4, c5, c6⟩ := Chn.app.mp hc'
  have le := c6.le
  have p1 : (pendingOf st)[i]? = some (b1, n1, w1) := by
    rw [← Array.getElem?_toList, el, List.getElem?_append_right (by omega), hl, Nat.sub_self]
    rfl
  have p2 : (pendingOf st)[i + 1]? = some (b1 + n1, n2, w2) := by
    rw [← Array.getElem?_toList, el, List.getElem?_append_right (by omega), show i + 1 - l1.length = 1 by omega]
    rfl
  refine merge_at L hB p1 p2 c2 c4 (by omega) c3 c5 fun st' hB' hp hu hk => ?_
  have e2 : (pendingOf st').toList = l1 ++ (b1, n1 + n2, w1) :: l2 := by
    rw [hp, Array.toList_eraseIdxIfInBounds, Array.toList_setIfInBounds, el]
    exact join_of hl
  refine h st' hB' ?_ ?_ fun k hk2 => hk k (.inr (by omega))
  · rw [e2]
    have le1 := c1.le
    refine Chn.app.mpr ⟨b1, c1.keep fun k k1 k2 => hk k (.inl k2), rfl, by omega, hu, ?_⟩
    rw [show b1 + (n1 + n2) = b1 + n1 + n2 by omega]
    exact c6.keep fun k k1 k2 => hk k (.inr k1)
  · have z1 := congrArg List.length e2
    have z2 := congrArg List.length el
    rw [Array.length_toList, List.length_append, List.length_cons] at z1 z2
    rw [List.length_cons] at z2
    omega
theorem Chn.pow {xs : Array Keyed} {l : List PT} {b n w v a e : Nat} (h : Chn f xs a (l ++ [(b, n, w)]) e) : Chn f xs a (l ++ [(b, n, v)]) e := by
  obtain ⟨c, c1, c2, c3, c4, c5⟩ := Chn.app.mp h
  exact Chn.app.mpr ⟨c, c1, c2, c3, c4, c5⟩
def more (sz pw : Nat) : SM (Option Unit × Unit) := forIn [0:sz] ((none, ()) : Option Unit × Unit) fun _ _ => do
  let z ← get
  match if (pendingOf z).size > 1 then (pendingOf z)[(pendingOf z).size - 2]? else none with
  | some (_, _, old) =>
    if old ≤ pw then pure (ForInStep.done (none, ()))
    else do
      let b ← mergeAt' ((pendingOf z).size - 2)
      if (!b) = true then pure (ForInStep.done (some (), ())) else pure (ForInStep.yield (none, ()))
  | _ => pure (ForInStep.done (none, ()))
def pile (sz lo n : Nat) : SM (ForInStep (Option Unit × Nat)) := do
  let z ← get
  match (pendingOf z).back? with
  | some (s1, n1, _) => do
    let c ← more sz (power' sz (2 * s1 + n1) (2 * s1 + n1 + n1 + n) sz)
    match c.fst with
    | some r => pure (ForInStep.done (some r, lo))
    | none => do
      modify fun z => setPending z ((pendingOf z).modify ((pendingOf z).size - 1) fun x => (x.fst, x.2.fst, power' sz (2 * s1 + n1) (2 * s1 + n1 + n1 + n) sz))
      modify fun z => setPending z ((pendingOf z).push (lo, n, 0))
      pure (ForInStep.yield (none, lo + n))
  | _ => do
    modify fun z => setPending z ((pendingOf z).push (lo, n, 0))
    pure (ForInStep.yield (none, lo + n))
abbrev PQ (κ : SortKind) (a₀ : Array Keyed) (f : Keyed → Int) (lo n : Nat) (st : SortSt) : Prop := SB κ a₀ st ∧ Chn f (arrOf st) 0 (pendingOf st).toList lo ∧ Up f (arrOf st) lo n
theorem more_ok {sz pw lo n : Nat} {st : SortSt} {Q : Option Unit × Unit → SortSt → Prop} (L : Asks M A E s κ a₀ f) (hlo : lo ≤ a₀.size) (hq : PQ κ a₀ f lo n st) (h : ∀ st', PQ κ a₀ f lo n st' → Q (none, ()) st') : wpS M A E s (more sz pw) Q st := by
  unfold more
  refine wpS_forRange (I := fun x c st' => c = (none, ()) ∧ PQ κ a₀ f lo n st') ?_ ?_ ⟨rfl, hq⟩
  · rintro x c st1 _ _ ⟨rfl, hB, hc, hu⟩
    refine wpS_bind (wpS_get ?_)
    by_cases h1 : (pendingOf st1).size > 1
    · rw [if_pos h1, getElem?_pos (pendingOf st1) ((pendingOf st1).size - 2) (by omega)]
      dsimp only
      split
      · exact wpS_pure (h _ ⟨hB, hc, hu⟩)
      · refine wpS_bind (join_at L hB hc hlo (by omega) fun st2 hB2 hc2 _ hk2 => ?_)
        exact wpS_pure ⟨rfl, hB2, hc2, fun i j z1 z2 z3 => by rw [kn_congr (hk2 i z1), kn_congr (hk2 j (by omega))]; exact hu i j z1 z2 z3⟩
    · rw [if_neg h1]
      exact wpS_pure (h _ ⟨hB, hc, hu⟩)
  · rintro c st1 ⟨rfl, hq⟩
    exact h _ hq
theorem modify_last {p : Array PT} {w : Nat} {l : List PT} {b n v : Nat} (h : p.toList = l ++ [(b, n, v)]) : (p.modify (p.size - 1) fun x => (x.fst, x.2.fst, w)).toList = l ++ [(b, n, w)] := by
  have hs : p.size = l.length + 1 := by rw [← Array.length_toList, h, List.length_append]; rfl
  refine List.ext_getElem? fun i => ?_
  rw [Array.getElem?_toList, Array.getElem?_modify]
  rw [← Array.getElem?_toList, h]
  by_cases c : p.size - 1 = i
  · rw [if_pos c, List.getElem?_append_right (by omega), List.getElem?_append_right (by omega), show i - l.length = 0 by omega]
    rfl
  · rw [if_neg c]
    by_cases c2 : i < l.length
    · rw [List.getElem?_append_left c2, List.getElem?_append_left c2]
    · rw [List.getElem?_eq_none (by rw [List.length_append, List.length_singleton]; omega), List.getElem?_eq_none (by rw [List.length_append, List.length_singleton]; omega)]
theorem pile_ok {lo n : Nat} {st : SortSt} {Q : ForInStep (Option Unit × Nat) → SortSt → Prop} (L : Asks M A E s κ a₀ f) (hn : 1 ≤ n) (hln : lo + n ≤ a₀.size) (hq : PQ κ a₀ f lo n st)
    (h : ∀ st', SB κ a₀ st' → Chn f (arrOf st') 0 (pendingOf st').toList (lo + n) → Q (.yield (none, lo + n)) st') : wpS M A E s (pile a₀.size lo n) Q st := by
  have fin : ∀ st3 : SortSt, PQ κ a₀ f lo n st3 → wpS M A E s (modify (fun z => setPending z ((pendingOf z).push (lo, n, 0))) >>= fun _ => pure (ForInStep.yield ((none, lo + n) : Option Unit × Nat))) Q st3 := by
    rintro st3 ⟨hB3, hc3, hu3⟩
    refine wpS_bind (wpS_modify (wpS_pure (h _ ⟨hB3.perm, hB3.kind, hB3.fail⟩ ?_)))
    show Chn f (arrOf st3) 0 ((pendingOf st3).push (lo, n, 0)).toList (lo + n)
    rw [Array.toList_push]
    exact Chn.app.mpr ⟨lo, hc3, rfl, hn, hu3, rfl⟩
  unfold pile
  refine wpS_bind (wpS_get ?_)
  cases hb : (pendingOf st).back? with
  | none => exact fin st hq
  | some t =>
    obtain ⟨s1, n1, w1⟩ := t
    dsimp only
    refine wpS_bind (more_ok L (by omega) hq fun st2 hq2 => ?_)
    dsimp only
    refine wpS_bind (wpS_modify (fin _ ?_))
    obtain ⟨hB2, hc2, hu2⟩ := hq2
    refine ⟨⟨hB2.perm, hB2.kind, hB2.fail⟩, ?_, hu2⟩
    show Chn f (arrOf st2) 0 ((pendingOf st2).modify _ _).toList lo
    rcases List.eq_nil_or_concat (pendingOf st2).toList with e | ⟨l, ⟨b, k, v⟩, e⟩
    · have : pendingOf st2 = #[] := by rw [← Array.toList_inj, e]
      rw [this] at hc2 ⊢
      exact hc2
    · rw [List.concat_eq_append] at e
      rw [modify_last e]
      rw [e] at hc2
      exact hc2.pow
theorem ite_less (c : Prop) [Decidable c] (n : Nat) : (if c then n - 1 else n) ≤ n := by split <;> omega
theorem wpS_cast {α : Type} {m m' : SM α} {Q Q' : α → SortSt → Prop} {st : SortSt} (e : m = m') (h : wpS M A E s m' Q' st) (q : ∀ a st', Q' a st' → Q a st') : wpS M A E s m Q st := by rw [e]; exact wpS_mono h q
theorem sort_runs {st : SortSt} {Q : Unit → SortSt → Prop} (L : Asks M A E s κ a₀ f) (hB : SB κ a₀ st) (hp : pendingOf st = #[]) (h2 : 2 ≤ a₀.size)
    (h : ∀ st', SB κ a₀ st' → Up f (arrOf st') 0 a₀.size → Q () st') : wpS M A E s sortRuns' Q st := by
  rw [sortRuns'_eq]
  refine wpS_bind (wpS_get ?_)
  dsimp only
  rw [hB.size]
  generalize minRun' a₀.size a₀.size 0 = mr
  refine wpS_bind (wpS_mono (wpS_forRange (I := fun x c st' => ∃ lo, c = (none, lo) ∧ SB κ a₀ st' ∧ Chn f (arrOf st') 0 (pendingOf st').toList lo ∧ lo ≤ a₀.size ∧ min x a₀.size ≤ lo)
    (Q := fun c st' => c = (none, a₀.size) ∧ SB κ a₀ st' ∧ Chn f (arrOf st') 0 (pendingOf st').toList a₀.size) ?_ ?_ ⟨0, rfl, hB, by rw [hp]; rfl, by omega, by omega⟩) ?_)
  · rintro x c st1 _ hx ⟨lo, rfl, hB1, hc1, hlo, hxl⟩
    dsimp only
    by_cases hge : lo ≥ a₀.size
    · rw [if_pos hge]
      have : lo = a₀.size := by omega
      subst this
      exact wpS_pure ⟨rfl, hB1, hc1⟩
    rw [if_neg hge]
    refine wpS_bind (count_run L (by omega) (by omega) hB1 fun m st2 hB2 hm1 hm2 hu2 hk2 hp2 => ?_)
    dsimp only
    have hc2 : Chn f (arrOf st2) 0 (pendingOf st2).toList lo := by
      rw [hp2]
      exact hc1.keep fun k _ k2 => hk2 k k2
    have done : ∀ (n : Nat) (st3 : SortSt), 1 ≤ n → lo + n ≤ a₀.size → PQ κ a₀ f lo n st3 → wpS M A E s (pile a₀.size lo n)
        (fun r st' => match r with | .done c' => c' = (none, a₀.size) ∧ SB κ a₀ st' ∧ Chn f (arrOf st') 0 (pendingOf st').toList a₀.size | .yield c' => ∃ lo, c' = (none, lo) ∧ SB κ a₀ st' ∧ Chn f (arrOf st') 0 (pendingOf st').toList lo ∧ lo ≤ a₀.size ∧ min (x + 1) a₀.size ≤ lo) st3 :=
      fun n st3 hn hln hq => pile_ok L hn hln hq fun st' hB' hc' => ⟨lo + n, rfl, hB', hc', hln, by omega⟩
    by_cases hlt : m < mr
    · rw [if_pos hlt]
      refine wpS_bind (wpS_lift (wpAny_rule ⟨rfl, ?_⟩))
      refine wpS_bind (bin_sort L (by omega) (by omega) hB2 hu2 fun st3 hB3 hu3 hk3 hp3 => ?_)
      rw [if_neg (by decide)]
      refine wpS_cast (by
        refine bnd _ fun z => ?_
        cases (pendingOf z).back? with
        | none => rfl
        | some t =>
          obtain ⟨s1, n1, w1⟩ := t
          refine bnd2 (for2 fun _ c => bnd _ fun z2 => ?_) fun c => ?_
          · generalize (if (pendingOf z2).size > 1 then (pendingOf z2)[(pendingOf z2).size - 2]? else none) = t2
            cases t2 with
            | none => rfl
            | some t2 => rfl
          · obtain ⟨r, u⟩ := c
            cases r with
            | none => rfl
            | some r => rfl) (done _ st3 (by omega) (by omega) ⟨hB3, by rw [hp3]; exact hc2.keep fun k _ k2 => hk3 k k2, hu3⟩) fun r st' z => by cases r <;> exact z
    · rw [if_neg hlt]
      refine wpS_cast (by
        refine bnd _ fun z => ?_
        cases (pendingOf z).back? with
        | none => rfl
        | some t =>
          obtain ⟨s1, n1, w1⟩ := t
          refine bnd2 (for2 fun _ c => bnd _ fun z2 => ?_) fun c => ?_
          · generalize (if (pendingOf z2).size > 1 then (pendingOf z2)[(pendingOf z2).size - 2]? else none) = t2
            cases t2 with
            | none => rfl
            | some t2 => rfl
          · obtain ⟨r, u⟩ := c
            cases r with
            | none => rfl
            | some r => rfl) (done m st2 hm1 (by omega) ⟨hB2, hc2, hu2⟩) fun r st' z => by cases r <;> exact z
  · rintro c st1 ⟨lo, rfl, hB1, hc1, hlo, hxl⟩
    have : lo = a₀.size := by omega
    subst this
    exact ⟨rfl, hB1, hc1⟩
  · rintro c st1 ⟨rfl, hB1, hc1⟩
    dsimp only
    refine wpS_bind (wpS_mono (wpS_forRange (I := fun x c st' => c = (none, ()) ∧ SB κ a₀ st' ∧ Chn f (arrOf st') 0 (pendingOf st').toList a₀.size ∧ ((pendingOf st').size + x ≤ a₀.size ∨ (pendingOf st').size ≤ 1))
      (Q := fun c st' => c = (none, ()) ∧ SB κ a₀ st' ∧ Chn f (arrOf st') 0 (pendingOf st').toList a₀.size ∧ (pendingOf st').size ≤ 1) ?_ ?_ ?_) ?_)
    · rintro x c st2 _ hx ⟨rfl, hB2, hc2, hz2⟩
      refine wpS_bind (wpS_get ?_)
      by_cases h1 : (pendingOf st2).size ≤ 1
      · rw [if_pos h1]
        exact wpS_pure ⟨rfl, hB2, hc2, h1⟩
      rw [if_neg h1]
      have go : ∀ i, i + 1 < (pendingOf st2).size → wpS M A E s (mergeAt' i >>= fun b => if (!b) = true then pure (ForInStep.done (some (), ())) else pure (ForInStep.yield ((none, ()) : Option Unit × Unit)))
          (fun r st' => match r with | .done c' => c' = (none, ()) ∧ SB κ a₀ st' ∧ Chn f (arrOf st') 0 (pendingOf st').toList a₀.size ∧ (pendingOf st').size ≤ 1 | .yield c' => c' = (none, ()) ∧ SB κ a₀ st' ∧ Chn f (arrOf st') 0 (pendingOf st').toList a₀.size ∧ ((pendingOf st').size + (x + 1) ≤ a₀.size ∨ (pendingOf st').size ≤ 1)) st2 := fun i hi => by
        refine wpS_bind (join_at L hB2 hc2 (Nat.le_refl _) hi fun st3 hB3 hc3 hz3 _ => ?_)
        exact wpS_pure ⟨rfl, hB3, hc3, by omega⟩
      refine wpS_mono (go _ ?_) fun r st' z => by cases r <;> exact z
      exact Nat.lt_of_le_of_lt (Nat.add_le_add_right (ite_less _ _) 1) (by omega)
    · rintro c st2 ⟨rfl, hB2, hc2, hz2⟩
      exact ⟨rfl, hB2, hc2, by omega⟩
    · refine ⟨rfl, hB1, hc1, .inl ?_⟩
      have := hc1.le
      rw [Array.length_toList] at this
      omega
    · rintro c st2 ⟨rfl, hB2, hc2, hz2⟩
      refine wpS_pure (h st2 hB2 ?_)
      cases e : (pendingOf st2).toList with
      | nil =>
        rw [e] at hc2
        have : 0 = a₀.size := hc2
        omega
      | cons t r =>
        have hl := congrArg List.length e
        rw [Array.length_toList, List.length_cons] at hl
        have hr : r = [] := List.length_eq_zero_iff.mp (by omega)
        subst hr
        obtain ⟨b, n, w⟩ := t
        rw [e] at hc2
        obtain ⟨_, _, hu, hn⟩ := hc2
        have : 0 + n = a₀.size := hn
        rw [Nat.zero_add] at this
        rw [← this]
        exact hu
end
end L2S

set_option linter.all false
set_option maxRecDepth 100000
set_option maxHeartbeats 4000000
namespace L2S
open PySem PyProof.Rows
/-- the heap while a list is sorted -/
abbrev midHeap (h : Heap) (a : Addr) (vs : List Value) : Heap := ((h.update a (Obj.mapSeq fun _ => #[])).push (seqObj "tuple" vs.toArray 0)).push (seqObj "list" #[] 0)
section
variable {prog : Program} {w : World} {A : Around} {E : Value → Shared → Prop} {s : Shared}
theorem mid_old {h : Heap} {a b : Addr} {vs : List Value} {o : Obj} (hb : b ≠ a) (e : h.get? b = some o) : (midHeap h a vs).get? b = some o := by
  refine Heap.get?_push_of_some _ (Heap.get?_push_of_some _ ?_)
  exact (Heap.get?_update_other _ _ (Ne.symm hb)).trans e
theorem sort_any {a : Addr} {vs : List Value} {n : Nat} {κ : SortKind} {f : Keyed → Int} {P : PySem.Fin → Shared → Prop} (ho : s.heap.get? a = some (seqObj "list" vs.toArray n)) (hz : vs.length ≤ 1000)
    (hkind : 2 ≤ vs.length → ∀ Q' : SortKind → Shared → Prop, Q' κ { s with heap := midHeap s.heap a vs } → wpAny (model prog w) A (keyKind' vs.toArray) Q' E { s with heap := midHeap s.heap a vs })
    (hask : 2 ≤ vs.length → Asks (model prog w) A E { s with heap := midHeap s.heap a vs } κ (pairsOf vs) f)
    (h : ∀ out : Array Keyed, out.Perm (pairsOf vs) → Up f out 0 vs.length → P (.done (.ret .none)) { s with heap := sortedHeap s.heap a vs (out.map (·.2)) }) : wpAny (model prog w) A (Builtin.«list.sort» ⟨[.ref a], []⟩) P E s := by
  rw [list_sort_plain]
  have ha : a < s.heap.objs.size := Heap.lt_size ho
  refine wpAny_bind (listItems_at ho rfl ?_)
  refine wpAny_bind (listUpdate_at ho rfl ?_)
  obtain ⟨e1, ho1⟩ : ∃ e1, (s.heap.update a (Obj.mapSeq fun _ => #[])).get? a = some (seqObj "list" #[] e1) := ⟨_, get?_update_seq ho (fun _ => #[])⟩
  refine wpAny_bind (seqEpoch_at ho1 rfl ?_)
  refine wpAny_bind (wpAny_newTuple (wpAny_bind (wpAny_newList (wpAny_holding ?_))))
  have ho6 : (midHeap s.heap a vs).get? a = some (seqObj "list" #[] e1) := Heap.get?_push_of_some _ (Heap.get?_push_of_some _ ho1)
  show wpAny (model prog w) A _ P E { s with heap := midHeap s.heap a vs }
  dsimp only
  have hsz : vs.toArray.size = vs.length := List.size_toArray ..
  have hl : vs.length ≤ sizeLine := Nat.le_trans hz (by decide)
  rw [hsz]
  by_cases h2 : vs.length < 2
  · rw [if_pos h2, if_pos h2]
    refine wpAny_bind (wpAny_pure ?_)
    rw [StateT.run_pure]
    refine wpAny_bind (wpAny_pure ?_)
    dsimp only
    refine wpAny_bind (seqEpoch_at ho6 rfl ?_)
    refine wpAny_bind (listUpdate_at ho6 rfl ?_ (hsz2 := by rw [Array.size_map]; show (pairsOf vs).size ≤ _; rw [pairsOf_size]; omega))
    rw [if_neg (by simp)]
    exact wpAny_pure (h (pairsOf vs) (Array.Perm.refl _) fun i j _ z2 z3 => by rw [show i = j by omega]; exact Int.le_refl _)
  · rw [if_neg h2, if_neg h2]
    refine wpAny_bind (hkind (by omega) _ ?_)
    refine wpAny_bind (wpAny_mono (sort_runs (st := SortSt.mk' κ (vs.toArray.zip vs.toArray) #[] 7 none) (Q := fun _ st' => SB κ (pairsOf vs) st' ∧ Up f (arrOf st') 0 (pairsOf vs).size) (hask (by omega)) ⟨Array.Perm.refl _, rfl, rfl⟩ rfl (by rw [pairsOf_size]; omega) fun st' a1 a2 => ⟨a1, a2⟩) ?_ fun _ _ e => e)
    rintro ⟨⟨⟩, st'⟩ s' ⟨rfl, hB, hu⟩
    dsimp only
    refine wpAny_bind (seqEpoch_at ho6 rfl ?_)
    have hs : (arrOf st').size = (pairsOf vs).size := hB.size
    rw [pairsOf_size] at hs hu
    refine wpAny_bind (listUpdate_at ho6 rfl ?_ (hsz2 := by rw [Array.size_map]; omega))
    rw [hB.fail, if_neg (by simp)]
    exact wpAny_pure (h _ hB.perm hu)
theorem sorted_any {l : Addr} {vs : List Value} {κ : SortKind} {f : Keyed → Int} {Q : Value → Shared → Prop} (hl : s.heap.IsList l vs.toArray) (hz : vs.length ≤ 1000)
    (hkind : ∀ h' : Heap, (∀ b o, s.heap.get? b = some o → h'.get? b = some o) → 2 ≤ vs.length → ∀ (A' : Around) (E' : Value → Shared → Prop) (Q' : SortKind → Shared → Prop), A'.units ≤ A.units + 8 → Q' κ { s with heap := h' } → wpAny (model prog w) A' (keyKind' vs.toArray) Q' E' { s with heap := h' })
    (hask : ∀ h' : Heap, (∀ b o, s.heap.get? b = some o → h'.get? b = some o) → 2 ≤ vs.length → ∀ (A' : Around) (E' : Value → Shared → Prop), A'.units ≤ A.units + 8 → Asks (model prog w) A' E' { s with heap := h' } κ (pairsOf vs) f)
    (h : ∀ out : Array Keyed, out.Perm (pairsOf vs) → Up f out 0 vs.length → Q (.ref (s.heap.objs.size + 1)) { s with heap := sortedAll s.heap vs (out.map (·.2)) }) : wpAny (model prog w) A (call (.builtin "sorted") [.ref l]) Q E s := by
  refine Calls.call_function_entry kind_sorted plain_sorted entry_sorted (args_sorted1 _) ?_
  unfold Builtin.«sorted»
  refine wpAny_bind (m := checkCount "sorted" 1 1 _) (wpAny_pure ?_)
  refine wpAny_bind (collect_list hl ?_ (Nat.le_trans hz (by decide)))
  refine wpAny_bind (wpAny_newList ?_)
  have z1 : ((s.heap.push (seqObj "list" #[] 0)).update s.heap.objs.size (Obj.mapSeq (· ++ vs.toArray))).objs.size = s.heap.objs.size + 1 := (Heap.size_update ..).trans (size_push' ..)
  have g1 : (((s.heap.push (seqObj "list" #[] 0)).update s.heap.objs.size (Obj.mapSeq (· ++ vs.toArray))).push (seqObj "list" vs.toArray 0)).get? (s.heap.objs.size + 1) = some (seqObj "list" vs.toArray 0) := by
    rw [← z1]; exact Heap.get?_push_size _ rfl
  have old : ∀ b o, s.heap.get? b = some o → (midHeap (((s.heap.push (seqObj "list" #[] 0)).update s.heap.objs.size (Obj.mapSeq (· ++ vs.toArray))).push (seqObj "list" vs.toArray 0)) (s.heap.objs.size + 1) vs).get? b = some o := fun b o e => by
    have lt := Heap.lt_size e
    refine mid_old (Nat.ne_of_lt (Nat.lt_succ_of_lt lt)) (Heap.get?_push_of_some _ ?_)
    exact (Heap.get?_update_other _ _ (Nat.ne_of_gt lt)).trans (Heap.get?_push_of_some _ e)
  show wpAny _ _ _ _ _ { s with heap := ((s.heap.push (seqObj "list" #[] 0)).update s.heap.objs.size (Obj.mapSeq (· ++ vs.toArray))).push (seqObj "list" vs.toArray 0) }
  rw [z1]
  refine wpAny_bind (wpAny_holding (wpAny_call_entry slot_list_sort ⟨_, g1, rfl⟩ entry_list_sort (sort_any g1 hz (fun h2 Q' q => hkind _ old h2 _ _ Q' ?_ q) (fun h2 => hask _ old h2 _ _ ?_) fun out a1 a2 => ⟨_, rfl, ?_⟩) (args_list_sort _)))
  · show A.units + 1 + 1 ≤ A.units + 8; omega
  · show A.units + 1 + 1 ≤ A.units + 8; omega
  · exact wpAny_pure ⟨_, rfl, h out a1 a2⟩
end
end L2S

set_option linter.all false
set_option maxRecDepth 100000
set_option maxHeartbeats 4000000
namespace L2
open PySem PySem.Spec PyProof.Rows L2S
theorem kn_K {xs : Array Keyed} {i : Nat} : kn (fun p => numOf p.1) xs i = PyProof.Rows.K xs i := by
  unfold kn PyProof.Rows.K
  cases xs[i]? <;> rfl
section
variable {prog : Program} {w : World} {A : Around} {E : Value → Shared → Prop} {s : Shared}
theorem asks_ints {a₀ : Array Keyed} (h0 : IntKeys a₀) : Asks (model prog w) A E s oneType' a₀ fun p => numOf p.1 where
  lt := fun x y hx hy st Q hk q => by
    obtain ⟨n, t, e1⟩ := h0 x hx
    obtain ⟨m, u, e2⟩ := h0 y hy
    rw [lt'_eq]
    refine wpS_bind (wpS_get ?_)
    rw [hk, keyLt'_oneType]
    rw [e1, e2] at q ⊢
    exact wpS_bind (wpS_lift (wpAny_attempt (oneLt_int ⟨rfl, wpS_pure q⟩)))
theorem kind_of_ints {vs : List Value} {ns : List Int} (hI : IntsAre vs ns) (h2 : 2 ≤ vs.length) : keyKind' vs.toArray = pure oneType' := by
  cases vs with
  | nil => exact absurd h2 (by simp)
  | cons v₁ r =>
    cases r with
    | nil => exact absurd h2 (by simp)
    | cons v₂ r => exact keyKind_ints hI
theorem sorted_intsB {l : Addr} {vs : List Value} {ns : List Int} {Q : Value → Shared → Prop} (hl : s.heap.IsList l vs.toArray) (hI : IntsAre vs ns) (hz : vs.length ≤ 1000)
    (h : ∀ (out : Array Value) (ns' : List Int), IntsAre out.toList ns' → ns'.Perm ns → ns'.Pairwise (· ≤ ·) → Q (.ref (s.heap.objs.size + 1)) { s with heap := sortedAll s.heap vs out }) : wpAny (model prog w) A (call (.builtin "sorted") [.ref l]) Q E s := by
  refine sorted_any (κ := oneType') (f := fun p => numOf p.1) hl hz (fun h' _ h2 A' E' Q' _ q => ?_) (fun h' _ h2 A' E' _ => asks_ints hI.intKeys) fun out hp hu => ?_
  · rw [kind_of_ints hI h2]
    exact wpAny_pure q
  · obtain ⟨ns', a1, a2, a3⟩ := sorted_out hI hp (fun i j z1 z2 => by
      rw [pairsOf_size] at z2
      have := hu i j (Nat.zero_le _) z1 (by omega)
      rw [kn_K, kn_K] at this
      exact this)
    exact h _ ns' a1 a2 a3
end
section
variable {X : Cx}
/-- sorted(ints), up to a thousand -/
theorem call_sortedB : CallR X (.builtin "sorted") (fun xs H Q => ∃ (p : Addr) (ns : List Int), xs = [.ref p] ∧ SqL X.K H p (ns.map V.int) ∧ ns.length ≤ 1000 ∧ ∀ (l : Addr) (ms : List Int), H l = none → ms.Perm ns → ms.Pairwise (· ≤ ·) → Q (.ref l) (upd H l (.lst (ms.map V.int)))) := by
  intro pins s σ H xs us Q I r h
  obtain ⟨p, ns, rfl, hq, hn, q⟩ := h
  obtain ⟨u, rfl, rx⟩ := vals1 r
  cases rx
  obtain ⟨its, r', pl, hz⟩ := I.list hq
  have hlen := r'.length
  rw [List.length_map] at hlen
  refine sorted_intsB pl.isList (intsAre_of r') (by omega) fun out ns' a1 a2 a3 => ?_
  obtain ⟨e, he⟩ := sortedAll_at s.heap its out
  have hl' : ns'.length = ns.length := a2.length_eq
  refine ⟨.ref (s.heap.objs.size + 1), _, I.laid (t' := s.toks) (fun b o e => sortedAll_old e) (Nat.le_succ _) (o := .lst (ns'.map V.int)) ⟨?_, out.toList, e, vals_ints a1, by simpa using he⟩, rfl, q _ ns' (I.hok.fresh (Nat.le_succ _)) a2 a3⟩
  rw [List.length_map]
  exact le_line (by omega)
theorem op_notB : OpR X (compareOp .IsNot) (fun x y H Q => ∃ b c, x = .bl b ∧ y = .bl c ∧ Q (.bl (b != c)) H) := by
  intro pins s σ H x y v u Q I rx ry h
  obtain ⟨b, c, rfl, rfl, q⟩ := h
  cases rx
  cases ry
  exact isnot_bool (fin_bl I q rfl)
theorem op_isB : OpR X (compareOp .Is) (fun x y H Q => ∃ b c, x = .bl b ∧ y = .bl c ∧ Q (.bl (b == c)) H) := by
  intro pins s σ H x y v u Q I rx ry h
  obtain ⟨b, c, rfl, rfl, q⟩ := h
  cases rx
  cases ry
  exact is_bool (fin_bl I q rfl)
end
end L2

set_option linter.all false
set_option maxRecDepth 100000
set_option maxHeartbeats 4000000
namespace L2
open PySem PySem.Spec PyProof.Rows L2S
/-- one pair ahead of another -/
def lxP (x y : Int × Int) : Prop := x.1 < y.1 ∨ (x.1 = y.1 ∧ x.2 < y.2)
instance (x y : Int × Int) : Decidable (lxP x y) := by unfold lxP; exact inferInstance
/-- a pair, where it stands -/
abbrev PrA := Addr × Int × Int
def rankP (zs : List PrA) (v : Int × Int) : Nat := zs.countP fun z => decide (lxP z.2 v)
theorem rank_lt {zs : List PrA} {x : PrA} {v : Int × Int} (hx : x ∈ zs) : rankP zs x.2 < rankP zs v ↔ lxP x.2 v := by
  have mono : ∀ (l : List PrA) (a b : Int × Int), (∀ z : Int × Int, lxP z a → lxP z b) → l.countP (fun z => decide (lxP z.2 a)) ≤ l.countP (fun z => decide (lxP z.2 b)) := fun l a b h =>
    List.countP_mono_left fun z _ e => decide_eq_true (h _ (of_decide_eq_true e))
  constructor
  · intro h
    by_cases e : lxP x.2 v
    · exact e
    · have := mono zs v x.2 fun z hz => by unfold lxP at *; omega
      unfold rankP at h
      omega
  · intro h
    obtain ⟨s, t, rfl⟩ := List.append_of_mem hx
    unfold rankP
    rw [List.countP_append, List.countP_append, List.countP_cons, List.countP_cons]
    have m : ∀ z : Int × Int, lxP z x.2 → lxP z v := fun z hz => by unfold lxP at *; omega
    have h1 := mono s x.2 v m
    have h2 := mono t x.2 v m
    have h3 : decide (lxP x.2 x.2) = false := decide_eq_false (by unfold lxP; omega)
    rw [h3, decide_eq_true h]
    simp only [Bool.false_eq_true, if_false, if_true]
    omega
section
variable {prog : Program} {w : World} {A : Around} {E : Value → Shared → Prop} {s : Shared}
def PairAt (h : Heap) (z : PrA) : Prop := ∃ o t u n, h.get? z.1 = some o ∧ o.cls = .type "tuple" ∧ o.data = .seq #[.int z.2.1 t, .int z.2.2 u] n
theorem PairAt.keep {h h' : Heap} {z : PrA} (p : PairAt h z) (k : ∀ b o, h.get? b = some o → h'.get? b = some o) : PairAt h' z := let ⟨o, t, u, n, a, b, c⟩ := p; ⟨o, t, u, n, k _ _ a, b, c⟩
def valOf (zs : List PrA) : Value → Int × Int
  | .ref a => ((zs.find? fun z => decide (z.1 = a)).map (·.2)).getD (0, 0)
  | _ => (0, 0)
theorem val_of {h : Heap} {zs : List PrA} (hp : ∀ z ∈ zs, PairAt h z) {z : PrA} (hz : z ∈ zs) : valOf zs (.ref z.1) = z.2 := by
  show ((zs.find? fun y => decide (y.1 = z.1)).map (·.2)).getD (0, 0) = z.2
  cases e : zs.find? fun y => decide (y.1 = z.1) with
  | none => exact absurd (List.find?_eq_none.mp e z hz) (by simp)
  | some y =>
    have h1 : y.1 = z.1 := by simpa using List.find?_some e
    have h2 := List.mem_of_find?_eq_some e
    obtain ⟨o, t, u, n, a1, _, a3⟩ := hp y h2
    obtain ⟨o', t', u', n', b1, _, b3⟩ := hp z hz
    rw [h1, b1] at a1
    cases a1
    rw [b3] at a3
    have e1 : y.2 = z.2 := by
      injection a3 with a4 a5
      have a6 := congrArg Array.toList a4
      simp at a6
      exact Prod.ext a6.1.1.symm a6.2.1.symm
    exact e1
theorem kat_ints {a b a' b' : Int} {t u t' u' : Tok} {Q : Bool → Shared → Prop} (h : Q (decide (lxP (a, b) (a', b'))) s) : PySem.W.KatLex prog w A true false Q [(.int a t, .int a' t'), (.int b u, .int b' u')] 0 s := by
  refine PySem.W.kat_cons (wpAny_eqBool_int ?_)
  by_cases e : a = a'
  · rw [show (a == a') = true by simpa using e]
    refine PySem.W.kat_yes (PySem.W.kat_cons (wpAny_eqBool_int ?_))
    by_cases e2 : b = b'
    · rw [show (b == b') = true by simpa using e2]
      refine PySem.W.kat_yes (PySem.W.kat_nil ?_)
      rw [decide_eq_false (by unfold lxP; dsimp only; omega)] at h
      exact h
    · rw [show (b == b') = false by simpa using e2]
      refine PySem.W.kat_no (PySem.W.kat_one _ _ (lt_int ?_))
      have e3 : decide (lxP (a, b) (a', b')) = decide (b < b') := by
        by_cases z : b < b'
        · rw [decide_eq_true z]; exact decide_eq_true (by unfold lxP; dsimp only; omega)
        · rw [decide_eq_false z]; exact decide_eq_false (by unfold lxP; dsimp only; omega)
      rw [e3] at h
      exact h
  · rw [show (a == a') = false by simpa using e]
    refine PySem.W.kat_no ?_
    have e3 : decide (lxP (a, b) (a', b')) = decide (a < a') := by
      by_cases z : a < a'
      · rw [decide_eq_true z]; exact decide_eq_true (by unfold lxP; dsimp only; omega)
      · rw [decide_eq_false z]; exact decide_eq_false (by unfold lxP; dsimp only; omega)
    rw [e3] at h
    exact oneLt_int h
theorem asks_pairs {zs : List PrA} (hp : ∀ z ∈ zs, PairAt s.heap z) : Asks (model prog w) A E s (tuples' true) (pairsOf (zs.map fun z => Value.ref z.1)) fun p => (rankP zs (valOf zs p.1) : Int) where
  lt := fun x y hx hy st Q hk q => by
    have of : ∀ p : Keyed, p ∈ (pairsOf (zs.map fun z => Value.ref z.1)).toList → ∃ z ∈ zs, p.1 = .ref z.1 := fun p hpm => by
      rw [pairsOf_toList] at hpm
      obtain ⟨z, hz, e⟩ := List.mem_map.mp (mem_zip_self hpm).2
      exact ⟨z, hz, e.symm⟩
    obtain ⟨z, hz, ez⟩ := of x hx
    obtain ⟨y', hy', ey⟩ := of y hy
    rw [ez, ey, val_of hp hz, val_of hp hy'] at q
    have er : decide ((rankP zs z.2 : Int) < (rankP zs y'.2 : Int)) = decide (lxP z.2 y'.2) := by
      have := rank_lt (v := y'.2) hz
      by_cases e : lxP z.2 y'.2
      · rw [decide_eq_true e]; exact decide_eq_true (by have := this.mpr e; omega)
      · rw [decide_eq_false e]; exact decide_eq_false (fun c => e (this.mp (by omega)))
    rw [er] at q
    rw [lt'_eq]
    refine wpS_bind (wpS_get ?_)
    rw [hk, ez, ey]
    obtain ⟨o, t, u, n, a1, a2, a3⟩ := hp z hz
    obtain ⟨o', t', u', n', b1, b2, b3⟩ := hp y' hy'
    exact wpS_bind (wpS_lift (wpAny_attempt (PySem.W.kat_lt a1 a3 b1 b3 (kat_ints ⟨rfl, wpS_pure q⟩))))
theorem tups_of {h : Heap} : ∀ {zs : List PrA}, (∀ z ∈ zs, PairAt h z) → ∃ fs, PySem.W.KatTups h (zs.map fun z => Value.ref z.1) fs ∧ fs.length = zs.length ∧ ∀ v ∈ fs, ∃ n t, v = Value.int n t
  | [], _ => ⟨[], trivial, rfl, fun v h => by cases h⟩
  | z :: r, hp => by
    obtain ⟨fs, f1, f2, f3⟩ := tups_of (zs := r) fun y hy => hp y (List.mem_cons_of_mem _ hy)
    obtain ⟨o, t, u, n, a1, a2, a3⟩ := hp z List.mem_cons_self
    refine ⟨.int z.2.1 t :: fs, PySem.W.KatTups.cons a1 a2 a3 rfl f1, by rw [List.length_cons, List.length_cons, f2], fun v hv => ?_⟩
    rcases List.mem_cons.mp hv with e | e
    · exact ⟨_, _, e⟩
    · exact f3 v e
theorem perm_map {α β : Type} (g : α → β) : ∀ {l : List β} {zs : List α}, l.Perm (zs.map g) → ∃ ms : List α, ms.Perm zs ∧ l = ms.map g
  | [], zs, h => by
    have : zs = [] := by
      have := h.length_eq
      rw [List.length_nil, List.length_map] at this
      exact List.length_eq_zero_iff.mp this.symm
    subst this
    exact ⟨[], .nil, rfl⟩
  | x :: r, zs, h => by
    obtain ⟨z, hz, e⟩ := List.mem_map.mp (h.mem_iff.mp List.mem_cons_self)
    obtain ⟨a, b, rfl⟩ := List.append_of_mem hz
    have h2 : (x :: r).Perm (x :: (a ++ b).map g) := by
      refine h.trans ?_
      rw [List.map_append, List.map_cons, e, List.map_append]
      exact List.perm_middle
    obtain ⟨ms, m1, m2⟩ := perm_map g (List.Perm.cons_inv h2)
    exact ⟨z :: ms, (m1.cons z).trans List.perm_middle.symm, by rw [m2, List.map_cons, e]⟩
theorem sorted_pairs {l : Addr} {zs : List PrA} {Q : Value → Shared → Prop} (hl : s.heap.IsList l (zs.map fun z => Value.ref z.1).toArray) (hp : ∀ z ∈ zs, PairAt s.heap z) (hz : zs.length ≤ 1000)
    (h : ∀ (ms : List PrA), ms.Perm zs → ms.Pairwise (fun x y => ¬ lxP y.2 x.2) → Q (.ref (s.heap.objs.size + 1)) { s with heap := sortedAll s.heap (zs.map fun z => Value.ref z.1) (ms.map fun z => Value.ref z.1).toArray }) : wpAny (model prog w) A (call (.builtin "sorted") [.ref l]) Q E s := by
  refine sorted_any (κ := tuples' true) (f := fun p => (rankP zs (valOf zs p.1) : Int)) hl (by rw [List.length_map]; exact hz) (fun h' k h2 A' E' Q' _ q => ?_) (fun h' k h2 A' E' _ => asks_pairs (s := { s with heap := h' }) fun z hz => (hp z hz).keep k) fun out ho hu => ?_
  · obtain ⟨fs, f1, f2, f3⟩ := tups_of (h := h') fun z hz => (hp z hz).keep k
    rw [List.length_map] at h2
    refine PySem.W.kat_kind (T := .type "int") f1 (by omega) (fun v hv => ?_) rfl q
    obtain ⟨n, t, rfl⟩ := f3 v hv
    exact .now
  · have hl2 : out.toList.Perm (zs.map fun z => ((Value.ref z.1, Value.ref z.1) : Keyed)) := by
      have := Array.perm_iff_toList_perm.mp ho
      rw [pairsOf_toList] at this
      rw [show (zs.map fun z => ((Value.ref z.1, Value.ref z.1) : Keyed)) = (zs.map fun z => Value.ref z.1).zip (zs.map fun z => Value.ref z.1) by rw [List.zip_map']]
      exact this
    obtain ⟨ms, m1, m2⟩ := perm_map _ hl2
    have e : out.map (·.2) = (ms.map fun z => Value.ref z.1).toArray := by
      apply Array.toList_inj.mp
      rw [Array.toList_map, m2, List.map_map]
      rfl
    rw [e]
    refine h ms m1 ?_
    rw [List.pairwise_iff_getElem]
    intro i j hi hj hij hlt
    have hln : ms.length = zs.length := m1.length_eq
    have at' : ∀ k (hk : k < ms.length), kn (fun p => (rankP zs (valOf zs p.1) : Int)) out k = rankP zs ms[k].2 := fun k hk => by
      have : out[k]? = some ((Value.ref ms[k].1, Value.ref ms[k].1) : Keyed) := by
        rw [← Array.getElem?_toList, m2, List.getElem?_map, List.getElem?_eq_getElem hk]
        rfl
      rw [kn_at this]
      dsimp only
      rw [val_of hp (m1.mem_iff.mp (List.getElem_mem hk))]
    have z := hu i j (Nat.zero_le _) (Nat.le_of_lt hij) (by rw [List.length_map]; omega)
    rw [at' i hi, at' j hj] at z
    have := (rank_lt (zs := zs) (v := ms[i].2) (m1.mem_iff.mp (List.getElem_mem hj))).mpr hlt
    omega
end
theorem vals_refs : ∀ {zs : List PrA} {its : List Value}, Vals (zs.map fun z => V.ref z.1) its → its = zs.map fun z => Value.ref z.1
  | [], _, .nil => rfl
  | z :: r, _, .cons a b => by
    have e := vals_refs b
    cases a
    rw [e]
    rfl
theorem refs_vals : ∀ ms : List PrA, Vals (ms.map fun z => V.ref z.1) (ms.map fun z => Value.ref z.1)
  | [] => .nil
  | _ :: r => .cons rfl (refs_vals r)
section
variable {X : Cx}
/-- sorted(pairs of ints), up to a thousand -/
theorem call_sortedT : CallR X (.builtin "sorted") (fun xs H Q => ∃ (p : Addr) (zs : List PrA), xs = [.ref p] ∧ SqL X.K H p (zs.map fun z => V.ref z.1) ∧ (∀ z ∈ zs, SqT X.K H z.1 [.int z.2.1, .int z.2.2]) ∧ zs.length ≤ 1000 ∧ ∀ (l : Addr) (ms : List PrA), H l = none → ms.Perm zs → ms.Pairwise (fun x y => ¬ lxP y.2 x.2) → Q (.ref l) (upd H l (.lst (ms.map fun z => V.ref z.1)))) := by
  intro pins s σ H xs us Q I r h
  obtain ⟨p, zs, rfl, hq, hz, hn, q⟩ := h
  obtain ⟨u, rfl, rx⟩ := vals1 r
  cases rx
  obtain ⟨its, r', pl, hzl⟩ := I.list hq
  obtain rfl := vals_refs r'
  have hpa : ∀ z ∈ zs, PairAt s.heap z := fun z hzm => by
    obtain ⟨it, rt, pt, _⟩ := I.tuple (hz z hzm)
    obtain ⟨a, b, rfl, ⟨t, rfl⟩, ⟨t', rfl⟩⟩ := vals2 rt
    obtain ⟨o, ho, hc, n, hd⟩ := pt
    exact ⟨o, t, t', n, ho, hc, hd⟩
  refine sorted_pairs pl.isList hpa hn fun ms m1 m2 => ?_
  obtain ⟨e, he⟩ := sortedAll_at s.heap (zs.map fun z => Value.ref z.1) (ms.map fun z => Value.ref z.1).toArray
  have hln : ms.length = zs.length := m1.length_eq
  refine ⟨.ref (s.heap.objs.size + 1), _, I.laid (t' := s.toks) (fun b o e => sortedAll_old e) (Nat.le_succ _) (o := .lst (ms.map fun z => V.ref z.1)) ⟨?_, (ms.map fun z => Value.ref z.1), e, refs_vals ms, he⟩, rfl, q _ ms (I.hok.fresh (Nat.le_succ _)) m1 m2⟩
  rw [List.length_map]
  exact le_line (by omega)
end
end L2

set_option linter.all false
namespace L2
open PySem
theorem tVar_1 {v : V} {a0 : Option V} {σ : St} {H : Hp} {Q : VK} : tVar 1 (a0 :: some v :: σ) H Q = Q v H := by
  simp only [tVar_s, tVar_0]
theorem tVar_2 {v : V} {a0 a1 : Option V} {σ : St} {H : Hp} {Q : VK} : tVar 2 (a0 :: a1 :: some v :: σ) H Q = Q v H := by
  simp only [tVar_s, tVar_0]
theorem tVar_3 {v : V} {a0 a1 a2 : Option V} {σ : St} {H : Hp} {Q : VK} : tVar 3 (a0 :: a1 :: a2 :: some v :: σ) H Q = Q v H := by
  simp only [tVar_s, tVar_0]
theorem tVar_4 {v : V} {a0 a1 a2 a3 : Option V} {σ : St} {H : Hp} {Q : VK} : tVar 4 (a0 :: a1 :: a2 :: a3 :: some v :: σ) H Q = Q v H := by
  simp only [tVar_s, tVar_0]
theorem tVar_5 {v : V} {a0 a1 a2 a3 a4 : Option V} {σ : St} {H : Hp} {Q : VK} : tVar 5 (a0 :: a1 :: a2 :: a3 :: a4 :: some v :: σ) H Q = Q v H := by
  simp only [tVar_s, tVar_0]
theorem tVar_6 {v : V} {a0 a1 a2 a3 a4 a5 : Option V} {σ : St} {H : Hp} {Q : VK} : tVar 6 (a0 :: a1 :: a2 :: a3 :: a4 :: a5 :: some v :: σ) H Q = Q v H := by
  simp only [tVar_s, tVar_0]
theorem tVar_7 {v : V} {a0 a1 a2 a3 a4 a5 a6 : Option V} {σ : St} {H : Hp} {Q : VK} : tVar 7 (a0 :: a1 :: a2 :: a3 :: a4 :: a5 :: a6 :: some v :: σ) H Q = Q v H := by
  simp only [tVar_s, tVar_0]
theorem tVar_8 {v : V} {a0 a1 a2 a3 a4 a5 a6 a7 : Option V} {σ : St} {H : Hp} {Q : VK} : tVar 8 (a0 :: a1 :: a2 :: a3 :: a4 :: a5 :: a6 :: a7 :: some v :: σ) H Q = Q v H := by
  simp only [tVar_s, tVar_0]
theorem tVar_9 {v : V} {a0 a1 a2 a3 a4 a5 a6 a7 a8 : Option V} {σ : St} {H : Hp} {Q : VK} : tVar 9 (a0 :: a1 :: a2 :: a3 :: a4 :: a5 :: a6 :: a7 :: a8 :: some v :: σ) H Q = Q v H := by
  simp only [tVar_s, tVar_0]
theorem tVar_10 {v : V} {a0 a1 a2 a3 a4 a5 a6 a7 a8 a9 : Option V} {σ : St} {H : Hp} {Q : VK} : tVar 10 (a0 :: a1 :: a2 :: a3 :: a4 :: a5 :: a6 :: a7 :: a8 :: a9 :: some v :: σ) H Q = Q v H := by
  simp only [tVar_s, tVar_0]
theorem tVar_11 {v : V} {a0 a1 a2 a3 a4 a5 a6 a7 a8 a9 a10 : Option V} {σ : St} {H : Hp} {Q : VK} : tVar 11 (a0 :: a1 :: a2 :: a3 :: a4 :: a5 :: a6 :: a7 :: a8 :: a9 :: a10 :: some v :: σ) H Q = Q v H := by
  simp only [tVar_s, tVar_0]
theorem tVar_12 {v : V} {a0 a1 a2 a3 a4 a5 a6 a7 a8 a9 a10 a11 : Option V} {σ : St} {H : Hp} {Q : VK} : tVar 12 (a0 :: a1 :: a2 :: a3 :: a4 :: a5 :: a6 :: a7 :: a8 :: a9 :: a10 :: a11 :: some v :: σ) H Q = Q v H := by
  simp only [tVar_s, tVar_0]
theorem tVar_13 {v : V} {a0 a1 a2 a3 a4 a5 a6 a7 a8 a9 a10 a11 a12 : Option V} {σ : St} {H : Hp} {Q : VK} : tVar 13 (a0 :: a1 :: a2 :: a3 :: a4 :: a5 :: a6 :: a7 :: a8 :: a9 :: a10 :: a11 :: a12 :: some v :: σ) H Q = Q v H := by
  simp only [tVar_s, tVar_0]
theorem tVar_14 {v : V} {a0 a1 a2 a3 a4 a5 a6 a7 a8 a9 a10 a11 a12 a13 : Option V} {σ : St} {H : Hp} {Q : VK} : tVar 14 (a0 :: a1 :: a2 :: a3 :: a4 :: a5 :: a6 :: a7 :: a8 :: a9 :: a10 :: a11 :: a12 :: a13 :: some v :: σ) H Q = Q v H := by
  simp only [tVar_s, tVar_0]
theorem tVar_15 {v : V} {a0 a1 a2 a3 a4 a5 a6 a7 a8 a9 a10 a11 a12 a13 a14 : Option V} {σ : St} {H : Hp} {Q : VK} : tVar 15 (a0 :: a1 :: a2 :: a3 :: a4 :: a5 :: a6 :: a7 :: a8 :: a9 :: a10 :: a11 :: a12 :: a13 :: a14 :: some v :: σ) H Q = Q v H := by
  simp only [tVar_s, tVar_0]
theorem tVar_16 {v : V} {a0 a1 a2 a3 a4 a5 a6 a7 a8 a9 a10 a11 a12 a13 a14 a15 : Option V} {σ : St} {H : Hp} {Q : VK} : tVar 16 (a0 :: a1 :: a2 :: a3 :: a4 :: a5 :: a6 :: a7 :: a8 :: a9 :: a10 :: a11 :: a12 :: a13 :: a14 :: a15 :: some v :: σ) H Q = Q v H := by
  simp only [tVar_s, tVar_0]
theorem tVar_17 {v : V} {a0 a1 a2 a3 a4 a5 a6 a7 a8 a9 a10 a11 a12 a13 a14 a15 a16 : Option V} {σ : St} {H : Hp} {Q : VK} : tVar 17 (a0 :: a1 :: a2 :: a3 :: a4 :: a5 :: a6 :: a7 :: a8 :: a9 :: a10 :: a11 :: a12 :: a13 :: a14 :: a15 :: a16 :: some v :: σ) H Q = Q v H := by
  simp only [tVar_s, tVar_0]
theorem tVar_18 {v : V} {a0 a1 a2 a3 a4 a5 a6 a7 a8 a9 a10 a11 a12 a13 a14 a15 a16 a17 : Option V} {σ : St} {H : Hp} {Q : VK} : tVar 18 (a0 :: a1 :: a2 :: a3 :: a4 :: a5 :: a6 :: a7 :: a8 :: a9 :: a10 :: a11 :: a12 :: a13 :: a14 :: a15 :: a16 :: a17 :: some v :: σ) H Q = Q v H := by
  simp only [tVar_s, tVar_0]
theorem tVar_19 {v : V} {a0 a1 a2 a3 a4 a5 a6 a7 a8 a9 a10 a11 a12 a13 a14 a15 a16 a17 a18 : Option V} {σ : St} {H : Hp} {Q : VK} : tVar 19 (a0 :: a1 :: a2 :: a3 :: a4 :: a5 :: a6 :: a7 :: a8 :: a9 :: a10 :: a11 :: a12 :: a13 :: a14 :: a15 :: a16 :: a17 :: a18 :: some v :: σ) H Q = Q v H := by
  simp only [tVar_s, tVar_0]
theorem tVar_20 {v : V} {a0 a1 a2 a3 a4 a5 a6 a7 a8 a9 a10 a11 a12 a13 a14 a15 a16 a17 a18 a19 : Option V} {σ : St} {H : Hp} {Q : VK} : tVar 20 (a0 :: a1 :: a2 :: a3 :: a4 :: a5 :: a6 :: a7 :: a8 :: a9 :: a10 :: a11 :: a12 :: a13 :: a14 :: a15 :: a16 :: a17 :: a18 :: a19 :: some v :: σ) H Q = Q v H := by
  simp only [tVar_s, tVar_0]
theorem tVar_21 {v : V} {a0 a1 a2 a3 a4 a5 a6 a7 a8 a9 a10 a11 a12 a13 a14 a15 a16 a17 a18 a19 a20 : Option V} {σ : St} {H : Hp} {Q : VK} : tVar 21 (a0 :: a1 :: a2 :: a3 :: a4 :: a5 :: a6 :: a7 :: a8 :: a9 :: a10 :: a11 :: a12 :: a13 :: a14 :: a15 :: a16 :: a17 :: a18 :: a19 :: a20 :: some v :: σ) H Q = Q v H := by
  simp only [tVar_s, tVar_0]
theorem tVar_22 {v : V} {a0 a1 a2 a3 a4 a5 a6 a7 a8 a9 a10 a11 a12 a13 a14 a15 a16 a17 a18 a19 a20 a21 : Option V} {σ : St} {H : Hp} {Q : VK} : tVar 22 (a0 :: a1 :: a2 :: a3 :: a4 :: a5 :: a6 :: a7 :: a8 :: a9 :: a10 :: a11 :: a12 :: a13 :: a14 :: a15 :: a16 :: a17 :: a18 :: a19 :: a20 :: a21 :: some v :: σ) H Q = Q v H := by
  simp only [tVar_s, tVar_0]
theorem tVar_23 {v : V} {a0 a1 a2 a3 a4 a5 a6 a7 a8 a9 a10 a11 a12 a13 a14 a15 a16 a17 a18 a19 a20 a21 a22 : Option V} {σ : St} {H : Hp} {Q : VK} : tVar 23 (a0 :: a1 :: a2 :: a3 :: a4 :: a5 :: a6 :: a7 :: a8 :: a9 :: a10 :: a11 :: a12 :: a13 :: a14 :: a15 :: a16 :: a17 :: a18 :: a19 :: a20 :: a21 :: a22 :: some v :: σ) H Q = Q v H := by
  simp only [tVar_s, tVar_0]
theorem tVar_24 {v : V} {a0 a1 a2 a3 a4 a5 a6 a7 a8 a9 a10 a11 a12 a13 a14 a15 a16 a17 a18 a19 a20 a21 a22 a23 : Option V} {σ : St} {H : Hp} {Q : VK} : tVar 24 (a0 :: a1 :: a2 :: a3 :: a4 :: a5 :: a6 :: a7 :: a8 :: a9 :: a10 :: a11 :: a12 :: a13 :: a14 :: a15 :: a16 :: a17 :: a18 :: a19 :: a20 :: a21 :: a22 :: a23 :: some v :: σ) H Q = Q v H := by
  simp only [tVar_s, tVar_0]
theorem tVar_25 {v : V} {a0 a1 a2 a3 a4 a5 a6 a7 a8 a9 a10 a11 a12 a13 a14 a15 a16 a17 a18 a19 a20 a21 a22 a23 a24 : Option V} {σ : St} {H : Hp} {Q : VK} : tVar 25 (a0 :: a1 :: a2 :: a3 :: a4 :: a5 :: a6 :: a7 :: a8 :: a9 :: a10 :: a11 :: a12 :: a13 :: a14 :: a15 :: a16 :: a17 :: a18 :: a19 :: a20 :: a21 :: a22 :: a23 :: a24 :: some v :: σ) H Q = Q v H := by
  simp only [tVar_s, tVar_0]
theorem tVar_26 {v : V} {a0 a1 a2 a3 a4 a5 a6 a7 a8 a9 a10 a11 a12 a13 a14 a15 a16 a17 a18 a19 a20 a21 a22 a23 a24 a25 : Option V} {σ : St} {H : Hp} {Q : VK} : tVar 26 (a0 :: a1 :: a2 :: a3 :: a4 :: a5 :: a6 :: a7 :: a8 :: a9 :: a10 :: a11 :: a12 :: a13 :: a14 :: a15 :: a16 :: a17 :: a18 :: a19 :: a20 :: a21 :: a22 :: a23 :: a24 :: a25 :: some v :: σ) H Q = Q v H := by
  simp only [tVar_s, tVar_0]
theorem tVar_27 {v : V} {a0 a1 a2 a3 a4 a5 a6 a7 a8 a9 a10 a11 a12 a13 a14 a15 a16 a17 a18 a19 a20 a21 a22 a23 a24 a25 a26 : Option V} {σ : St} {H : Hp} {Q : VK} : tVar 27 (a0 :: a1 :: a2 :: a3 :: a4 :: a5 :: a6 :: a7 :: a8 :: a9 :: a10 :: a11 :: a12 :: a13 :: a14 :: a15 :: a16 :: a17 :: a18 :: a19 :: a20 :: a21 :: a22 :: a23 :: a24 :: a25 :: a26 :: some v :: σ) H Q = Q v H := by
  simp only [tVar_s, tVar_0]
theorem tVar_28 {v : V} {a0 a1 a2 a3 a4 a5 a6 a7 a8 a9 a10 a11 a12 a13 a14 a15 a16 a17 a18 a19 a20 a21 a22 a23 a24 a25 a26 a27 : Option V} {σ : St} {H : Hp} {Q : VK} : tVar 28 (a0 :: a1 :: a2 :: a3 :: a4 :: a5 :: a6 :: a7 :: a8 :: a9 :: a10 :: a11 :: a12 :: a13 :: a14 :: a15 :: a16 :: a17 :: a18 :: a19 :: a20 :: a21 :: a22 :: a23 :: a24 :: a25 :: a26 :: a27 :: some v :: σ) H Q = Q v H := by
  simp only [tVar_s, tVar_0]
theorem tVar_29 {v : V} {a0 a1 a2 a3 a4 a5 a6 a7 a8 a9 a10 a11 a12 a13 a14 a15 a16 a17 a18 a19 a20 a21 a22 a23 a24 a25 a26 a27 a28 : Option V} {σ : St} {H : Hp} {Q : VK} : tVar 29 (a0 :: a1 :: a2 :: a3 :: a4 :: a5 :: a6 :: a7 :: a8 :: a9 :: a10 :: a11 :: a12 :: a13 :: a14 :: a15 :: a16 :: a17 :: a18 :: a19 :: a20 :: a21 :: a22 :: a23 :: a24 :: a25 :: a26 :: a27 :: a28 :: some v :: σ) H Q = Q v H := by
  simp only [tVar_s, tVar_0]
theorem tVar_30 {v : V} {a0 a1 a2 a3 a4 a5 a6 a7 a8 a9 a10 a11 a12 a13 a14 a15 a16 a17 a18 a19 a20 a21 a22 a23 a24 a25 a26 a27 a28 a29 : Option V} {σ : St} {H : Hp} {Q : VK} : tVar 30 (a0 :: a1 :: a2 :: a3 :: a4 :: a5 :: a6 :: a7 :: a8 :: a9 :: a10 :: a11 :: a12 :: a13 :: a14 :: a15 :: a16 :: a17 :: a18 :: a19 :: a20 :: a21 :: a22 :: a23 :: a24 :: a25 :: a26 :: a27 :: a28 :: a29 :: some v :: σ) H Q = Q v H := by
  simp only [tVar_s, tVar_0]
end L2
namespace L2
open PySem
/-- a place where the reading of the program stops until it is asked for -/
def Cut (t : TS) : TS := t
theorem pss_cut {X : Cx} {rest : List Stmt} {u : TS} (h : PSs X rest u) : PSs X rest (Cut u) := h
theorem cut_of {u : TS} {D : Ends} {σ : St} {H : Hp} (h : u D σ H) : Cut u D σ H := h
theorem us0 {l : List Value} (h : l.length = 0) : l = [] := List.length_eq_zero_iff.mp h
theorem us1 {l : List Value} (h : l.length = 1) : ∃ a0, l = [a0] := by
  cases l with
  | nil => cases h
  | cons a l =>
    obtain rfl := us0 (l := l) (Nat.succ.inj h)
    exact ⟨a, rfl⟩
theorem us2 {l : List Value} (h : l.length = 2) : ∃ a0 a1, l = [a0, a1] := by
  cases l with
  | nil => cases h
  | cons a l =>
    obtain ⟨b0, rfl⟩ := us1 (l := l) (Nat.succ.inj h)
    exact ⟨a, b0, rfl⟩
theorem us3 {l : List Value} (h : l.length = 3) : ∃ a0 a1 a2, l = [a0, a1, a2] := by
  cases l with
  | nil => cases h
  | cons a l =>
    obtain ⟨b0, b1, rfl⟩ := us2 (l := l) (Nat.succ.inj h)
    exact ⟨a, b0, b1, rfl⟩
theorem us4 {l : List Value} (h : l.length = 4) : ∃ a0 a1 a2 a3, l = [a0, a1, a2, a3] := by
  cases l with
  | nil => cases h
  | cons a l =>
    obtain ⟨b0, b1, b2, rfl⟩ := us3 (l := l) (Nat.succ.inj h)
    exact ⟨a, b0, b1, b2, rfl⟩
end L2

set_option linter.all false
set_option maxRecDepth 100000
set_option maxHeartbeats 4000000
namespace L2
open PySem PySem.Spec PyProof.Rows
def tMakeN (C : Addr) : TE := fun σ H Q => ∀ x dx, H x = none → H dx = none → dx ≠ x → Q (.ref x) (upd (upd H dx (.own x)) x (.ins C dx []))
def tEither (t u : TE) : TE := fun σ H Q => t σ H Q ∨ u σ H Q
end L2

set_option linter.all false
set_option maxHeartbeats 4000000
namespace Pap
def IsP (p : List Nat) : Prop := p.Perm (List.range p.length)
def at' (p : List Nat) (i : Nat) : Nat := p.getD i 0
def bk (p : List Nat) : List Nat := (List.range p.length).map fun v => p.idxOf v
theorem at_lt {p : List Nat} {i : Nat} (h : i < p.length) : p[i]? = some (at' p i) := by
  unfold at'; rw [List.getD_eq_getElem?_getD, List.getElem?_eq_getElem h]; rfl
theorem at_eq {p : List Nat} {i : Nat} (h : i < p.length) : at' p i = p[i] := by
  unfold at'; rw [List.getD_eq_getElem?_getD, List.getElem?_eq_getElem h]; rfl
theorem IsP.lt {p : List Nat} (h : IsP p) {x : Nat} (hx : x ∈ p) : x < p.length := List.mem_range.mp (h.mem_iff.mp hx)
theorem IsP.mem {p : List Nat} (h : IsP p) {x : Nat} (hx : x < p.length) : x ∈ p := h.mem_iff.mpr (List.mem_range.mpr hx)
theorem IsP.nd {p : List Nat} (h : IsP p) : p.Nodup := h.nodup_iff.mpr List.nodup_range
theorem IsP.at_mem {p : List Nat} {i : Nat} (h : i < p.length) : at' p i ∈ p := by rw [at_eq h]; exact List.getElem_mem h
theorem IsP.at_lt {p : List Nat} (hp : IsP p) {i : Nat} (h : i < p.length) : at' p i < p.length := hp.lt (IsP.at_mem h)
theorem of_nd {p : List Nat} (nd : p.Nodup) (h : ∀ x, x ∈ p ↔ x < p.length) : IsP p := (List.perm_ext_iff_of_nodup nd List.nodup_range).mpr fun a => (h a).trans List.mem_range.symm
theorem idx_lt {p : List Nat} (h : IsP p) {v : Nat} (hv : v < p.length) : p.idxOf v < p.length := List.idxOf_lt_length_iff.mpr (h.mem hv)
theorem at_idx {p : List Nat} (h : IsP p) {v : Nat} (hv : v < p.length) : at' p (p.idxOf v) = v := by rw [at_eq (idx_lt h hv)]; exact List.getElem_idxOf _
theorem idx_at {p : List Nat} (h : IsP p) {i : Nat} (hi : i < p.length) : p.idxOf (at' p i) = i := by rw [at_eq hi]; exact h.nd.idxOf_getElem i hi
theorem at_inj {p : List Nat} (h : IsP p) {i j : Nat} (hi : i < p.length) (hj : j < p.length) (e : at' p i = at' p j) : i = j := by rw [← idx_at h hi, ← idx_at h hj, e]
theorem bk_len (p : List Nat) : (bk p).length = p.length := by unfold bk; rw [List.length_map, List.length_range]
theorem bk_at {p : List Nat} {v : Nat} (hv : v < p.length) : at' (bk p) v = p.idxOf v := by
  unfold bk
  rw [at_eq (by rw [List.length_map, List.length_range]; exact hv), List.getElem_map, List.getElem_range]
theorem ext {p q : List Nat} (hl : p.length = q.length) (h : ∀ i, i < p.length → at' p i = at' q i) : p = q := by
  refine List.ext_getElem? fun i => ?_
  by_cases hi : i < p.length
  · rw [Pap.at_lt hi, Pap.at_lt (hl ▸ hi), h i hi]
  · rw [List.getElem?_eq_none (by omega), List.getElem?_eq_none (by omega)]
/-- sorted, it is straight -/
theorem IsP.sorted {p : List Nat} (hp : IsP p) {ms : List Int} (h : ms.Perm (p.map fun x : Nat => (x : Int))) (hs : ms.Pairwise (· ≤ ·)) : ms = (List.range p.length).map fun x : Nat => (x : Int) := by
  refine List.Perm.eq_of_pairwise (le := (· ≤ ·)) (fun a b _ _ h1 h2 => Int.le_antisymm h1 h2) hs ?_ (h.trans (hp.map _))
  rw [List.pairwise_map]
  exact List.Pairwise.imp (fun h => by omega) List.pairwise_le_range
/-- the spots while the loop goes -/
def spots (p : List Nat) (i : Nat) : List Nat := (List.range p.length).map fun v => if v ∈ p.take i then p.idxOf v else v
theorem spots_len (p : List Nat) (i : Nat) : (spots p i).length = p.length := by unfold spots; rw [List.length_map, List.length_range]
theorem spots_zero (p : List Nat) : spots p 0 = List.range p.length := by
  unfold spots
  rw [List.take_zero]
  refine (List.map_congr_left (g := id) fun x _ => ?_).trans (List.map_id _)
  rw [if_neg (by simp)]; rfl
theorem spots_end {p : List Nat} (hp : IsP p) : spots p p.length = bk p := by
  unfold spots bk
  refine List.map_congr_left fun x hx => ?_
  rw [List.take_length, if_pos (hp.mem (List.mem_range.mp hx))]
theorem spots_step {p : List Nat} (hp : IsP p) {i : Nat} (hi : i < p.length) : (spots p i).set (at' p i) i = spots p (i + 1) := by
  refine ext (by rw [List.length_set, spots_len, spots_len]) fun v hv => ?_
  rw [List.length_set, spots_len] at hv
  have get : ∀ j, at' (spots p j) v = if v ∈ p.take j then p.idxOf v else v := fun j => by
    rw [at_eq (by rw [spots_len]; exact hv)]
    unfold spots
    rw [List.getElem_map, List.getElem_range]
  rw [get, at_eq (by rw [List.length_set, spots_len]; exact hv), List.getElem_set]
  have tk : p.take (i + 1) = p.take i ++ [at' p i] := by rw [List.take_succ, Pap.at_lt hi]; rfl
  split
  · rename_i e
    rw [tk, if_pos (by rw [← e]; simp), ← e, idx_at hp hi]
  · rename_i e
    have h1 := get i
    rw [at_eq (by rw [spots_len]; exact hv)] at h1
    rw [h1, tk]
    by_cases q : v ∈ p.take i
    · rw [if_pos q, if_pos (List.mem_append_left _ q)]
    · rw [if_neg q, if_neg]
      intro z
      rcases List.mem_append.mp z with z | z
      · exact q z
      · exact e (List.mem_singleton.mp z).symm
end Pap

set_option Elab.async false
set_option linter.all false
set_option maxRecDepth 100000
set_option maxHeartbeats 4000000
namespace Law
open PySem L2
local macro_rules | `(tactic| walk_at "rd") => `(tactic| ((try dsimp only [cx_K, tDNewT, tDNotIn, tDIn, tDGet, sDPut, tChain, tForZ_eq, tRevL, tCompR2_eq, sFldAug_eq, cx_cloK, tCallV, startC, tForE_eq, tCompE_eq, tMaxD, tAug_eq, ipI_int, gSub, gCons_eq, gNil_eq, tSeq, tIfS, tTest, tB, tOr, tAnd, tNot, tOp, tUn, tC, tVar_0, tCompZ_eq, tBreak, tPar, tEither, tMakeN, tVar_1, tVar_2, tVar_3, tVar_4, tVar_5, tVar_6, tVar_7, tVar_8, tVar_9, tVar_10, tVar_11, tVar_12, tVar_13, tVar_14, tVar_15, tVar_16, tVar_17, tVar_18, tVar_19, tVar_20, tVar_21, tVar_22, tVar_23, tVar_24, tVar_25, tVar_26, tVar_27, tVar_28, tVar_29, tVar_30, rI0_int, rI_int, rU_int, rEq_int, rNe_int, rEq_bl, rNe_bl, rEq_str, rNe_str, ex_bl, ex_int, tAsg, gName, tRet, tRetN, tDrop, tNext, tNever, tAndV, tOrV, tNotV, tIf, List.set_cons_zero, List.set_cons_succ, tCall, tMeth, tCons, tNil, List.cons_append, List.nil_append, List.append_nil, tCB, tFld_eq, sFld_eq, tForL_eq, tForR1_eq, tForR2_eq, tCompL_eq, tCompR1_eq, tYes, tBM, tBM0, tLst, tTup, tMake, true_and, tSl, tPart, tNoPart, decide_eq_true_eq, Bool.not_eq_true', decide_eq_false_iff_not, L2.start, List.map_cons, List.map_nil, List.length_cons, List.length_nil, Nat.reduceAdd, Nat.reduceSub, Nat.zero_add, Nat.sub_self, List.replicate_zero, List.replicate_succ, if_true, if_false, Bool.false_eq_true, Bool.true_eq_false, Bool.not_true, Bool.not_false]); (try simp only [cx_K, tDNewT, tDNotIn, tDIn, tDGet, sDPut, tChain, tForZ_eq, tRevL, tCompR2_eq, sFldAug_eq, cx_cloK, tCallV, startC, tForE_eq, tCompE_eq, tMaxD, tAug_eq, ipI_int, gSub, gCons_eq, gNil_eq, tSeq, tIfS, tTest, tB, tOr, tAnd, tNot, tOp, tUn, tC, tVar_0, tCompZ_eq, tBreak, tPar, tEither, tMakeN, tVar_1, tVar_2, tVar_3, tVar_4, tVar_5, tVar_6, tVar_7, tVar_8, tVar_9, tVar_10, tVar_11, tVar_12, tVar_13, tVar_14, tVar_15, tVar_16, tVar_17, tVar_18, tVar_19, tVar_20, tVar_21, tVar_22, tVar_23, tVar_24, tVar_25, tVar_26, tVar_27, tVar_28, tVar_29, tVar_30, rI0_int, rI_int, rU_int, rEq_int, rNe_int, rEq_bl, rNe_bl, rEq_str, rNe_str, ex_bl, ex_int, tAsg, gName, tRet, tRetN, tDrop, tNext, tNever, tAndV, tOrV, tNotV, tIf, List.set_cons_zero, List.set_cons_succ, tCall, tMeth, tCons, tNil, List.cons_append, List.nil_append, List.append_nil, tCB, tFld_eq, sFld_eq, tForL_eq, tForR1_eq, tForR2_eq, tCompL_eq, tCompR1_eq, tYes, tBM, tBM0, tLst, tTup, tMake, true_and, tSl, tPart, tNoPart, decide_eq_true_eq, Bool.not_eq_true', decide_eq_false_iff_not, L2.start, List.map_cons, List.map_nil, List.length_cons, List.length_nil, Nat.reduceAdd, Nat.reduceSub, Nat.zero_add, Nat.sub_self, List.replicate_zero, List.replicate_succ, if_true, if_false, Bool.false_eq_true, Bool.true_eq_false, Bool.not_true, Bool.not_false])))
local macro_rules | `(tactic| walk_at "up") => `(tactic| first | assumption | (refine Same.get (by assumption) ?_; walk_at "up"))
local macro_rules | `(tactic| walk_at "lk") => `(tactic| ((repeat (first | rw [lkc, if_pos rfl] | rw [lkc, if_neg (by decide +kernel)])); first | done | rfl))
def top (i : Nat) : Stmt := PySem.Challenge.pw_sorthall_k27_whole_asks_that_show.main.body.getD i (.Pass ⟨0, 0, 0, 0⟩)
abbrev s_straight : Stmt := top 7
abbrev s_is_number : Stmt := top 8
abbrev s_is_paper : Stmt := top 9
abbrev s_check_paper : Stmt := top 10
abbrev s_laid : Stmt := top 11
abbrev s_back : Stmt := top 12
abbrev s_agrees : Stmt := top 13
abbrev s_shows : Stmt := top 14
abbrev s_Asker_init : Stmt := inClass (top 16) 0
abbrev s_Asker_ahead : Stmt := inClass (top 16) 2
abbrev s_Asker_answers : Stmt := inClass (top 16) 3
abbrev s_told_pairs : Stmt := top 18
abbrev s_counted_ranks : Stmt := top 19
abbrev s_are_ranks : Stmt := top 20
abbrev s_flaw_of : Stmt := top 23
abbrev s_ranked : Stmt := top 24
abbrev s_check_at : Stmt := top 29
abbrev s_check_column : Stmt := top 30
abbrev s_KeyRule_init : Stmt := inClass (top 32) 0
abbrev s_KeyRule_before : Stmt := inClass (top 32) 1
abbrev s_cell_at : Stmt := top 34
abbrev s_pairs : Stmt := top 35
abbrev s_turned : Stmt := top 36
abbrev s_reserve : Stmt := top 37
abbrev s_signed : Stmt := top 38
abbrev s_turned_of : Stmt := top 39
abbrev s_known : Stmt := top 40
abbrev s_answers : Stmt := top 41
abbrev s_row_of : Stmt := top 42
abbrev s_asks : Stmt := top 43
abbrev s_law : Stmt := top 44
theorem sc_straight : FnScope ["many"] ["many"] (defScope s_straight) := ⟨rfl, rfl, rfl, by decide +kernel, rfl, by decide +kernel, by decide +kernel⟩
theorem sc_is_number : FnScope ["some"] ["some"] (defScope s_is_number) := ⟨rfl, rfl, rfl, by decide +kernel, rfl, by decide +kernel, by decide +kernel⟩
theorem sc_is_paper : FnScope ["some"] ["some"] (defScope s_is_paper) := ⟨rfl, rfl, rfl, by decide +kernel, rfl, by decide +kernel, by decide +kernel⟩
theorem sc_check_paper : FnScope ["some", "many"] ["some", "many"] (defScope s_check_paper) := ⟨rfl, rfl, rfl, by decide +kernel, rfl, by decide +kernel, by decide +kernel⟩
theorem sc_laid : FnScope ["row", "paper"] ["row", "paper"] (defScope s_laid) := ⟨rfl, rfl, rfl, by decide +kernel, rfl, by decide +kernel, by decide +kernel⟩
theorem sc_back : FnScope ["paper", "spots", "spot", "place"] ["paper"] (defScope s_back) := ⟨rfl, rfl, rfl, by decide +kernel, rfl, by decide +kernel, by decide +kernel⟩
theorem sc_agrees : FnScope ["paper", "answers", "spots"] ["paper", "answers"] (defScope s_agrees) := ⟨rfl, rfl, rfl, by decide +kernel, rfl, by decide +kernel, by decide +kernel⟩
theorem sc_shows : FnScope ["paper", "answers", "asked"] ["paper", "answers"] (defScope s_shows) := ⟨rfl, rfl, rfl, by decide +kernel, rfl, by decide +kernel, by decide +kernel⟩
theorem sc_Asker_init : FnScope ["self", "row", "rule", "most"] ["self", "row", "rule", "most"] (defScope s_Asker_init) := ⟨rfl, rfl, rfl, by decide +kernel, rfl, by decide +kernel, by decide +kernel⟩
theorem sc_Asker_ahead : FnScope ["self", "p", "q", "later", "earlier", "said"] ["self", "p", "q"] (defScope s_Asker_ahead) := ⟨rfl, rfl, rfl, by decide +kernel, rfl, by decide +kernel, by decide +kernel⟩
theorem sc_Asker_answers : FnScope ["self"] ["self"] (defScope s_Asker_answers) := ⟨rfl, rfl, rfl, by decide +kernel, rfl, by decide +kernel, by decide +kernel⟩
theorem sc_told_pairs : FnScope ["row", "rule"] ["row", "rule"] (defScope s_told_pairs) := ⟨rfl, rfl, rfl, by decide +kernel, rfl, by decide +kernel, by decide +kernel⟩
theorem sc_counted_ranks : FnScope ["pairs", "places"] ["pairs"] (defScope s_counted_ranks) := ⟨rfl, rfl, rfl, by decide +kernel, rfl, by decide +kernel, by decide +kernel⟩
theorem sc_are_ranks : FnScope ["pairs", "ranks", "p", "told", "q", "said"] ["pairs", "ranks"] (defScope s_are_ranks) := ⟨rfl, rfl, rfl, by decide +kernel, rfl, by decide +kernel, by decide +kernel⟩
theorem sc_flaw_of : FnScope ["pairs", "p", "told", "q", "said", "found"] ["pairs"] (defScope s_flaw_of) := ⟨rfl, rfl, rfl, by decide +kernel, rfl, by decide +kernel, by decide +kernel⟩
theorem sc_ranked : FnScope ["row", "rule", "pairs", "ranks"] ["row", "rule"] (defScope s_ranked) := ⟨rfl, rfl, rfl, by decide +kernel, rfl, by decide +kernel, by decide +kernel⟩
theorem sc_check_at : FnScope ["at"] ["at"] (defScope s_check_at) := ⟨rfl, rfl, rfl, by decide +kernel, rfl, by decide +kernel, by decide +kernel⟩
theorem sc_check_column : FnScope ["at", "way"] ["at", "way"] (defScope s_check_column) := ⟨rfl, rfl, rfl, by decide +kernel, rfl, by decide +kernel, by decide +kernel⟩
theorem sc_KeyRule_init : FnScope ["self", "columns", "at", "way"] ["self", "columns"] (defScope s_KeyRule_init) := ⟨rfl, rfl, rfl, by decide +kernel, rfl, by decide +kernel, by decide +kernel⟩
theorem sc_KeyRule_before : FnScope ["self", "x", "y", "at", "way"] ["self", "x", "y"] (defScope s_KeyRule_before) := ⟨rfl, rfl, rfl, by decide +kernel, rfl, by decide +kernel, by decide +kernel⟩
theorem sc_cell_at : FnScope ["_law_script", "_law_k"] ["_law_script", "_law_k"] (defScope s_cell_at) := ⟨rfl, rfl, rfl, by decide +kernel, rfl, by decide +kernel, by decide +kernel⟩
theorem sc_pairs : FnScope ["_law_cells", "_law_many", "_law_pairs_here", "_law_cell"] ["_law_cells", "_law_many"] (defScope s_pairs) := ⟨rfl, rfl, rfl, by decide +kernel, rfl, by decide +kernel, by decide +kernel⟩
theorem sc_turned : FnScope ["_law_paper", "_law_cell", "_law_pairs_here", "_law_number", "_law_k", "_law_pair"] ["_law_paper", "_law_cell"] (defScope s_turned) := ⟨rfl, rfl, rfl, by decide +kernel, rfl, by decide +kernel, by decide +kernel⟩
theorem sc_reserve : FnScope ["_law_cell", "_law_k", "_law_number"] ["_law_cell", "_law_k"] (defScope s_reserve) := ⟨rfl, rfl, rfl, by decide +kernel, rfl, by decide +kernel, by decide +kernel⟩
theorem sc_signed : FnScope ["_law_digit"] ["_law_digit"] (defScope s_signed) := ⟨rfl, rfl, rfl, by decide +kernel, rfl, by decide +kernel, by decide +kernel⟩
theorem sc_turned_of : FnScope ["_law_paper", "_law_cell", "_law_pairs_here", "_law_first", "_law_k", "_law_pair"] ["_law_paper", "_law_cell"] (defScope s_turned_of) := ⟨rfl, rfl, rfl, by decide +kernel, rfl, by decide +kernel, by decide +kernel⟩
theorem sc_known : FnScope ["_law_paper", "_law_asked", "_law_k"] ["_law_paper", "_law_asked"] (defScope s_known) := ⟨rfl, rfl, rfl, by decide +kernel, rfl, by decide +kernel, by decide +kernel⟩
theorem sc_answers : FnScope ["_law_asker", "_law_paper", "_law_turn", "_law_asked", "_law_due", "_law_p", "_law_q", "_law_later", "_law_earlier", "_law_told", "_law_found"] ["_law_asker", "_law_paper", "_law_turn", "_law_asked"] (defScope s_answers) := ⟨rfl, rfl, rfl, by decide +kernel, rfl, by decide +kernel, by decide +kernel⟩
theorem sc_row_of : FnScope ["_law_script", "_law_width"] ["_law_script"] (defScope s_row_of) := ⟨rfl, rfl, rfl, by decide +kernel, rfl, by decide +kernel, by decide +kernel⟩
theorem sc_asks : FnScope ["_law_script", "_law_paper", "_law_pairs_here"] ["_law_script", "_law_paper"] (defScope s_asks) := ⟨rfl, rfl, rfl, by decide +kernel, rfl, by decide +kernel, by decide +kernel⟩
theorem sc_law : FnScope ["_law_script", "_law_row", "_law_many", "_law_way", "_law_rule", "_law_found", "_law_paper", "_law_things", "_law_k", "_law_turn", "_law_asker", "_law_asked", "_law_some", "_law_others", "_law_pairs_here", "_law_p", "_law_q", "_law_said"] ["_law_script"] (defScope s_law) := ⟨rfl, rfl, rfl, by decide +kernel, rfl, by decide +kernel, by decide +kernel⟩
structure Bt (K : PySem.W.Frag) (mg : Str → Option Value) (C_Asker C_Rule C_KeyRule : Addr) : Prop where
  b_len : mg "len" = none
  b_range : mg "range" = none
  b_tuple : mg "tuple" = none
  b_list : mg "list" = none
  b_isinstance : mg "isinstance" = none
  b_bool : mg "bool" = none
  b_int : mg "int" = none
  b_max : mg "max" = none
  b_min : mg "min" = none
  b_all : mg "all" = none
  b_sorted : mg "sorted" = none
  b_enumerate : mg "enumerate" = none
  b_zip : mg "zip" = none
  b_dict : mg "dict" = none
  b_ValueError : mg "ValueError" = none
  c_GREATEST_AT : ∃ t, mg "GREATEST_AT" = some (.int 7 t)
  c_UP : ∃ t, mg "UP" = some (.str "up" t)
  c_DOWN : ∃ t, mg "DOWN" = some (.str "down" t)
  m_Asker : mg "Asker" = some (.ref C_Asker)
  cl_Asker : Cls K C_Asker
  n_Asker_row : NoAttr K C_Asker "row"
  n_Asker_rule : NoAttr K C_Asker "rule"
  n_Asker_most : NoAttr K C_Asker "most"
  n_Asker_asked : NoAttr K C_Asker "asked"
  n_Asker_told : NoAttr K C_Asker "told"
  m_Rule : mg "Rule" = some (.ref C_Rule)
  cl_Rule : Cls K C_Rule
  m_KeyRule : mg "KeyRule" = some (.ref C_KeyRule)
  cl_KeyRule : Cls K C_KeyRule
  n_KeyRule_columns : NoAttr K C_KeyRule "columns"
  kit_int_bool : PySem.W.kitOne K (.type "int") (.type "bool") = some false
def spLaw (K : PySem.W.Frag) : Sp := fun vs H Q _ => ∃ (a : Addr) (ns : List Int), vs = [.ref a] ∧ SqL K H a (ns.map V.int) ∧ ns.length ≤ 63 ∧ ∀ H', Q (.bl true) H'
def cellOf (ns : List Int) (k : Int) : Int := if k < (ns.length : Int) then (ns[k.toNat]?).getD 0 else 0
def spCell (K : PySem.W.Frag) : Sp := fun vs H Q _ => ∃ (a : Addr) (ns : List Int) (k : Int), vs = [.ref a, .int k] ∧ SqL K H a (ns.map V.int) ∧ 0 ≤ k ∧ Q (.int (cellOf ns k)) H
theorem smallL {n : Nat} (h : n ≤ 90000) : n < sizeLine := Nat.lt_of_le_of_lt h (by decide)
abbrev fA (rl ru : Addr) (m : V) (n : Int) (tl : Addr) : List (Str × V) := [("told", .ref tl), ("asked", .int n), ("most", m), ("rule", .ref ru), ("row", .ref rl)]
def spAskerInit (CA : Addr) : Sp := fun vs H Q _ => ∃ (x dx r : Addr) (ru : Addr) (m : V) (xs : List V), vs = [.ref x, .ref r, .ref ru, m] ∧ H x = some (.ins CA dx []) ∧ H r = some (.lst xs) ∧
  ∀ rl tl H', (∀ b o, b ≠ x → H b = some o → H' b = some o) → H rl = none → H tl = none → rl ≠ tl → Ins H' x CA (fA rl ru m 0 tl) → H' rl = some (.lst xs) → H' tl = some (.lst []) → Q .non H'
def spAnswers (CA : Addr) : Sp := fun vs H Q _ => ∃ (a rl ru tl : Addr) (m : V) (n : Int) (ts : List V), vs = [.ref a] ∧ Ins H a CA (fA rl ru m n tl) ∧ H tl = some (.lst ts) ∧ ∀ l H', Same H H' → H l = none → H' l = some (.lst ts) → Q (.ref l) H'
/-- ahead, by a rule that changes nothing -/
def spAheadK (CA CR : Addr) (sb : Sp) : Sp := fun vs H Q _ => ∃ (a rl ru tl : Addr) (n p q : Int) (xs ts : List V) (x y : V) (b : Bool), vs = [.ref a, .int p, .int q] ∧ Ins H a CA (fA rl ru .non n tl) ∧ H rl = some (.lst xs) ∧ p ≠ q ∧ 0 ≤ p ∧ 0 ≤ q ∧
  xs[(max p q).toNat]? = some x ∧ xs[(min p q).toNat]? = some y ∧ (∃ dx fs, H ru = some (.ins CR dx fs) ∧ List.lookup ("before" : Str) fs = none) ∧ (∀ Q' : VK, Q' (.bl b) H → sb [.ref ru, x, y] H Q' E0) ∧ H tl = some (.lst ts) ∧ ts.length ≤ 90000 ∧
    ∀ t H2, H t = none → Ins H2 a CA (fA rl ru .non (n + 1) tl) → H2 tl = some (.lst (ts ++ [.ref t])) → H2 t = some (.tup [.int (max p q), .int (min p q), .bl b]) → (∀ c, c ≠ a → c ≠ tl → c ≠ t → H2 c = H c) → Q (.bl (if q < p then b else !b)) H2
theorem fA_canon {rl ru tl : Addr} {m : V} {n : Int} : ∀ f, (putF "told" (.ref tl) (putF "asked" (.int n) (putF "most" m (putF "rule" (.ref ru) (putF "row" (.ref rl) []))))).lookup f = (fA rl ru m n tl).lookup f := fun f => by
  simp only [lookup_putF, lkc]
theorem fA_asked {rl ru tl : Addr} {m : V} {n k : Int} : ∀ f, (putF "asked" (.int k) (fA rl ru m n tl)).lookup f = (fA rl ru m k tl).lookup f := fun f => by
  rw [lookup_putF]
  by_cases h : f = ("asked" : Str)
  · subst h
    rw [if_pos rfl]
    exact (show List.lookup _ (fA rl ru m k tl) = some (.int k) by walk_at "lk").symm
  · simp only [lkc, h, if_false]
def kat (ks : List Int) (p : Nat) : Int := (ks[p]?).getD 0
structure Told (H : Hp) (ks : List Int) (pr : List (Nat × Nat)) (ts : List V) : Prop where
  len : ts.length = pr.length
  get : ∀ (j p q : Nat), pr[j]? = some (p, q) → ∃ t, ts[j]? = some (V.ref t) ∧ H t = some (.tup [.int p, .int q, .bl (decide (kat ks p < kat ks q))])
theorem Told.keep {H H' : Hp} {ks : List Int} {pr : List (Nat × Nat)} {ts : List V} (e : ∀ t x, H t = some (.tup x) → H' t = some (.tup x)) (h : Told H ks pr ts) : Told H' ks pr ts :=
  ⟨h.len, fun j p q hj => let ⟨t, a, b⟩ := h.get j p q hj; ⟨t, a, e _ _ b⟩⟩
theorem Told.snoc {H : Hp} {ks : List Int} {pr : List (Nat × Nat)} {ts : List V} {p q : Nat} {t : Addr} (h : Told H ks pr ts) (ht : H t = some (.tup [.int p, .int q, .bl (decide (kat ks p < kat ks q))])) : Told H ks (pr ++ [(p, q)]) (ts ++ [.ref t]) := by
  refine ⟨by rw [List.length_append, List.length_append, h.len]; rfl, fun j p' q' hj => ?_⟩
  by_cases hl : j < pr.length
  · rw [List.getElem?_append_left hl] at hj
    obtain ⟨t', a, b⟩ := h.get j p' q' hj
    exact ⟨t', by rw [List.getElem?_append_left (by rw [h.len]; exact hl)]; exact a, b⟩
  · have e := (List.getElem?_eq_some_iff.mp hj).1
    rw [List.length_append] at e
    have hj' : j = pr.length := by have : ([(p, q)] : List (Nat × Nat)).length = 1 := rfl; omega
    subst hj'
    rw [List.getElem?_append_right (Nat.le_refl _), Nat.sub_self] at hj
    cases hj
    exact ⟨t, by rw [← h.len, List.getElem?_append_right (Nat.le_refl _), Nat.sub_self]; rfl, ht⟩
def tdD (ks : List Int) (c : Nat × Nat) : PyData := .tuple [.int c.1, .int c.2, .bool (decide (kat ks c.1 < kat ks c.2))]
theorem Told.dp {K : PySem.W.Frag} {H : Hp} {ks : List Int} : ∀ {pr : List (Nat × Nat)} {ts : List V}, Told H ks pr ts → DpAll K H (pr.map (tdD ks)) ts
  | [], ts, h => by
    have : ts = [] := List.length_eq_zero_iff.mp h.len
    subst this
    exact .nil
  | c :: r, [], h => by have := h.len; cases this
  | (p, q) :: r, v :: ts, h => by
    obtain ⟨t, a, b⟩ := h.get 0 p q rfl
    have ev : v = .ref t := Option.some.inj a
    subst ev
    refine .cons (dp_tup (SqT.of b) (.cons (dp_int _) (.two (dp_int _) (dp_bl _)))) (Told.dp ⟨by have := h.len; simpa using this, fun j p' q' hj => ?_⟩)
    obtain ⟨t', a', b'⟩ := h.get (j + 1) p' q' (by simpa using hj)
    exact ⟨t', by simpa using a', b'⟩
theorem td_lay (ks : List Int) : ∀ pr : List (Nat × Nat), PyData.canLayAll0 (pr.map (tdD ks)) = true
  | [] => by unfold PyData.canLayAll0 List.map; rfl
  | c :: r => by
    rw [List.map_cons]
    unfold PyData.canLayAll0
    rw [td_lay ks r]
    unfold tdD PyData.canLay0 PyData.canLayAll0 PyData.canLayAll0 PyData.canLayAll0 PyData.canLayAll0 PyData.canLay0
    rfl
theorem td_dep (ks : List Int) : ∀ pr : List (Nat × Nat), PyData.depthAll (pr.map (tdD ks)) ≤ 1
  | [] => by unfold List.map PyData.depthAll; decide
  | c :: r => by
    rw [List.map_cons]
    unfold PyData.depthAll
    have h1 := td_dep ks r
    have h2 : (tdD ks c).depth ≤ 1 := by unfold tdD PyData.depth PyData.depthAll PyData.depthAll PyData.depthAll PyData.depthAll PyData.depth; decide
    omega
theorem told_ne {K : PySem.W.Frag} {H : Hp} {ks : List Int} {pr : List (Nat × Nat)} {ts ts' : List V} {x y : Addr} {Q : VK} (hx : H x = some (.lst ts)) (hy : H y = some (.lst ts')) (h : Told H ks pr ts) (h' : Told H ks pr ts') (q : Q (.bl false) H) : rNeD K (.ref x) (.ref y) H Q :=
  neD_refl (d := .list (pr.map (tdD ks))) (dp_lst (SqL.of hx) h.dp) (dp_lst (SqL.of hy) h'.dp) (by unfold PyData.canLay0; exact td_lay ks pr) (by unfold PyData.depth; have := td_dep ks pr; omega) q
def at0 (xs : List Int) (a : Int) : Int := (xs[a.toNat]?).getD 0
def keyB : List (Int × Bool) → List Int → List Int → Bool
  | [], _, _ => false
  | (a, u) :: r, x, y => if at0 x a = at0 y a then keyB r x y else if u = true then decide (at0 x a < at0 y a) else decide (at0 y a < at0 x a)
def wayS (u : Bool) : Str := if u = true then "up" else "down"
def colD (c : Int × Bool) : PyData := .tuple [.int c.1, .str (wayS c.2)]
theorem wayS_up {u : Bool} : wayS u = ("up" : Str) ↔ u = true := by
  cases u
  · exact ⟨fun h => absurd h (by decide +kernel), fun h => by cases h⟩
  · exact ⟨fun _ => rfl, fun _ => rfl⟩
theorem wayS_ok (u : Bool) : wayS u = ("up" : Str) ∨ wayS u = ("down" : Str) := by
  cases u
  · exact .inr rfl
  · exact .inl rfl
theorem at0_get {xs : List Int} {a : Int} (h0 : 0 ≤ a) (h : a < (xs.length : Int)) : xs[a.toNat]? = some (at0 xs a) := by
  unfold at0
  rw [List.getElem?_eq_getElem (by omega)]
  rfl
theorem dp_col {K : PySem.W.Frag} {H : Hp} {c : Int × Bool} {v : V} (h : Dp K H (colD c) v) : ∃ t, v = .ref t ∧ SqT K H t [.int c.1, .str (wayS c.2)] := by
  unfold colD at h
  obtain ⟨t, xs, rfl, hs, hd⟩ := h.asT
  unfold DpAll at hd
  obtain ⟨v1, r1, rfl, d1, hd⟩ := hd
  unfold DpAll at hd
  obtain ⟨v2, r2, rfl, d2, hd⟩ := hd
  unfold DpAll at hd
  subst hd
  rw [d1.asI, d2.asS] at hs
  exact ⟨t, rfl, hs⟩
theorem col_at {K : PySem.W.Frag} {H : Hp} {cols : List (Int × Bool)} {xs : List V} {i : Nat} {v : V} (h : DpAll K H (cols.map colD) xs) (e : xs[i]? = some v) : ∃ c t, cols[i]? = some c ∧ v = .ref t ∧ SqT K H t [.int c.1, .str (wayS c.2)] := by
  obtain ⟨d, hd, dd⟩ := h.of_get e
  rw [List.getElem?_map] at hd
  cases ec : cols[i]? with
  | none => rw [ec] at hd; cases hd
  | some c =>
    rw [ec] at hd
    have hd' : colD c = d := Option.some.inj hd
    subst hd'
    obtain ⟨t, rfl, ht⟩ := dp_col dd
    exact ⟨c, t, rfl, rfl, ht⟩
theorem keyB_drop {cols : List (Int × Bool)} {i : Nat} {c : Int × Bool} (e : cols[i]? = some c) (x y : List Int) : keyB (cols.drop i) x y = if at0 x c.1 = at0 y c.1 then keyB (cols.drop (i + 1)) x y else if c.2 = true then decide (at0 x c.1 < at0 y c.1) else decide (at0 y c.1 < at0 x c.1) := by
  obtain ⟨hi, he⟩ := List.getElem?_eq_some_iff.mp e
  rw [List.drop_eq_getElem_cons hi, he]
  rfl

def spCheck : Sp := fun vs H Q _ => ∃ i : Int, vs = [.int i] ∧ 0 ≤ i ∧ i ≤ 7 ∧ Q .non H
def spCheckCol : Sp := fun vs H Q _ => ∃ (i : Int) (u : Bool), vs = [.int i, .str (wayS u)] ∧ 0 ≤ i ∧ i ≤ 7 ∧ Q .non H
def spKeyInit (K : PySem.W.Frag) (C : Addr) : Sp := fun vs H Q _ => ∃ (p dx c : Addr) (xs : List V) (cols : List (Int × Bool)), vs = [.ref p, .ref c] ∧ H p = some (.ins C dx []) ∧ SqL K H c xs ∧ DpAll K H (cols.map colD) xs ∧ (∀ c ∈ cols, 0 ≤ c.1 ∧ c.1 ≤ 7) ∧
  ∀ l, H l = none → Q .non (upd (upd H l (.lst xs)) p (.ins C dx (putF "columns" (.ref l) [])))
def spKeyBefore (K : PySem.W.Frag) (C : Addr) : Sp := fun vs H Q _ => ∃ (p dx c x y : Addr) (xs : List V) (cols : List (Int × Bool)) (xi yi : List Int), vs = [.ref p, .ref x, .ref y] ∧ H p = some (.ins C dx (putF "columns" (.ref c) [])) ∧ SqL K H c xs ∧ DpAll K H (cols.map colD) xs ∧
  SqT K H x (xi.map V.int) ∧ SqT K H y (yi.map V.int) ∧ (∀ c ∈ cols, 0 ≤ c.1 ∧ c.1 < (xi.length : Int) ∧ c.1 < (yi.length : Int)) ∧ Q (.bl (keyB cols xi yi)) H
theorem putF1 {f : Str} {v : V} : (putF f v []).lookup f = some v := by rw [lookup_putF, if_pos rfl]
theorem putF1n {f g : Str} {v : V} (h : ¬ g = f) : (putF f v []).lookup g = none := by
  rw [lookup_putF, if_neg h]
  rfl
theorem keyB_irr (cols : List (Int × Bool)) (x : List Int) : keyB cols x x = false := by
  induction cols with
  | nil => rfl
  | cons c r ih =>
    obtain ⟨a, u⟩ := c
    unfold keyB
    rw [if_pos rfl]
    exact ih
theorem keyB_neg (cols : List (Int × Bool)) (c a b : List Int) (h : keyB cols c b = true) : keyB cols c a = true ∨ keyB cols a b = true := by
  induction cols with
  | nil => cases h
  | cons k r ih =>
    obtain ⟨n, u⟩ := k
    unfold keyB at h ⊢
    generalize at0 c n = x at h ⊢
    generalize at0 a n = y
    generalize at0 b n = z at h ⊢
    by_cases h1 : x = z
    · rw [if_pos h1] at h
      by_cases h2 : x = y
      · rw [if_pos h2, if_pos (h2.symm.trans h1)]
        exact ih h
      · rw [if_neg h2, if_neg (show ¬ y = z by omega)]
        cases u with
        | true =>
          rw [if_pos rfl, if_pos rfl]
          by_cases h3 : x < y
          · exact .inl (decide_eq_true h3)
          · exact .inr (decide_eq_true (by omega))
        | false =>
          rw [if_neg Bool.false_ne_true, if_neg Bool.false_ne_true]
          by_cases h3 : y < x
          · exact .inl (decide_eq_true h3)
          · exact .inr (decide_eq_true (by omega))
    · rw [if_neg h1] at h
      cases u with
      | true =>
        rw [if_pos rfl] at h
        have h' := of_decide_eq_true h
        by_cases h3 : x < y
        · left
          rw [if_neg (by omega), if_pos rfl]
          exact decide_eq_true h3
        · right
          rw [if_neg (by omega), if_pos rfl]
          exact decide_eq_true (by omega)
      | false =>
        rw [if_neg Bool.false_ne_true] at h
        have h' := of_decide_eq_true h
        by_cases h3 : y < x
        · left
          rw [if_neg (by omega), if_neg Bool.false_ne_true]
          exact decide_eq_true h3
        · right
          rw [if_neg (by omega), if_neg Bool.false_ne_true]
          exact decide_eq_true (by omega)
theorem keyB_asym (cols : List (Int × Bool)) (a b : List Int) (h : keyB cols a b = true) : keyB cols b a = false := by
  cases e : keyB cols b a with
  | false => rfl
  | true =>
    induction cols with
    | nil => cases h
    | cons k r ih =>
      obtain ⟨n, u⟩ := k
      unfold keyB at h e
      generalize at0 a n = x at h e
      generalize at0 b n = y at h e
      by_cases h1 : x = y
      · rw [if_pos h1] at h
        rw [if_pos h1.symm] at e
        exact ih h e
      · rw [if_neg h1] at h
        rw [if_neg (fun z => h1 z.symm)] at e
        cases u with
        | true =>
          rw [if_pos rfl] at h e
          have := of_decide_eq_true h
          have := of_decide_eq_true e
          omega
        | false =>
          rw [if_neg Bool.false_ne_true] at h e
          have := of_decide_eq_true h
          have := of_decide_eq_true e
          omega
def rk (cols : List (Int × Bool)) (ts : List (List Int)) (y : List Int) : Nat := ts.countP fun x => keyB cols x y
theorem countP_le {α : Type} {p q : α → Bool} (h : ∀ x, p x = true → q x = true) : ∀ l : List α, l.countP p ≤ l.countP q
  | [] => Nat.le_refl _
  | x :: r => by
    rw [List.countP_cons, List.countP_cons]
    have ih := countP_le h r
    cases e : p x with
    | false => simp only [Bool.false_eq_true, if_false]; omega
    | true => simp only [h x e, if_true]; omega
theorem countP_lt {α : Type} {p q : α → Bool} (h : ∀ x, p x = true → q x = true) {z : α} (z1 : q z = true) (z2 : p z = false) : ∀ l : List α, z ∈ l → l.countP p < l.countP q
  | x :: r, hz => by
    rw [List.countP_cons, List.countP_cons]
    have ih := countP_le h r
    rcases List.mem_cons.mp hz with e | hz
    · subst e
      simp only [z1, z2, Bool.false_eq_true, if_false, if_true]
      omega
    · have ih2 := countP_lt h z1 z2 r hz
      cases e : p x with
      | false => simp only [Bool.false_eq_true, if_false]; omega
      | true => simp only [h x e, if_true]; omega
theorem key_rank (cols : List (Int × Bool)) {ts : List (List Int)} {x : List Int} (hx : x ∈ ts) (y : List Int) : keyB cols x y = decide (rk cols ts x < rk cols ts y) := by
  cases e : keyB cols x y with
  | true =>
    refine (decide_eq_true ?_).symm
    refine countP_lt (p := fun z => keyB cols z x) (q := fun z => keyB cols z y) (fun z hz => ?_) e (keyB_irr cols x) ts hx
    rcases keyB_neg cols z y x hz with q | q
    · exact q
    · rw [keyB_asym cols x y e] at q
      cases q
  | false =>
    refine (decide_eq_false ?_).symm
    have q := countP_le (p := fun z => keyB cols z y) (q := fun z => keyB cols z x) (fun z hz => ?_) ts
    · show ¬ ts.countP _ < ts.countP _
      omega
    · rcases keyB_neg cols z x y hz with q | q
      · exact q
      · rw [e] at q
        cases q
abbrev NL (gs : List Nat) : List V := (gs.map fun g : Nat => (g : Int)).map V.int
theorem NL_len (gs : List Nat) : (NL gs).length = gs.length := by simp
theorem NL_at {p : List Nat} {i : Nat} (h : i < p.length) : (NL p)[i]? = some (.int (Pap.at' p i)) := by
  rw [List.getElem?_map, List.getElem?_map, Pap.at_lt h]; rfl
theorem NL_get {p : List Nat} {i : Nat} {v : V} (h : (NL p)[i]? = some v) : i < p.length ∧ v = .int (Pap.at' p i) := by
  have hi : i < p.length := by have := (List.getElem?_eq_some_iff.mp h).1; rwa [NL_len] at this
  rw [NL_at hi] at h
  exact ⟨hi, (Option.some.inj h).symm⟩
theorem NL_ix {p : List Nat} {i : Nat} {k : Int} (h : i < p.length) (e : k = i) : atI (NL p) k = some (.int (Pap.at' p i)) := by
  subst e
  exact atI_of (by omega) (by rw [Int.toNat_natCast]; exact NL_at h)
theorem rints_range (n : Nat) : (rints 0 n).map V.int = NL (List.range n) := by
  unfold rints
  simp
def spStraight : Sp := fun vs H Q _ => ∃ n : Nat, vs = [.int n] ∧ n ≤ 1000 ∧ ∀ l H', Same H H' → H l = none → H' l = some (.lst (NL (List.range n))) → Q (.ref l) H'
def spIsNumber : Sp := fun vs H Q _ => ∃ i : Int, vs = [.int i] ∧ Q (.bl true) H
def spIsPaper : Sp := fun vs H Q _ => ∃ (a : Addr) (p : List Nat), vs = [.ref a] ∧ H a = some (.lst (NL p)) ∧ Pap.IsP p ∧ p.length ≤ 200 ∧ ∀ H', Same H H' → Q (.bl true) H'
def spCheckPaper : Sp := fun vs H Q _ => ∃ (a : Addr) (p : List Nat), vs = [.ref a, .int p.length] ∧ H a = some (.lst (NL p)) ∧ Pap.IsP p ∧ p.length ≤ 200 ∧ ∀ H', Same H H' → Q .non H'
def spLaid : Sp := fun vs H Q _ => ∃ (r a : Addr) (xs : List V) (p : List Nat), vs = [.ref r, .ref a] ∧ H r = some (.lst xs) ∧ H a = some (.lst (NL p)) ∧ Pap.IsP p ∧ p.length ≤ 200 ∧ xs.length = p.length ∧
  ∀ l H', Same H H' → H l = none → H' l = some (.lst (p.map fun i => xs.getD i .non)) → Q (.ref l) H'
def spBack : Sp := fun vs H Q _ => ∃ (a : Addr) (p : List Nat), vs = [.ref a] ∧ H a = some (.lst (NL p)) ∧ Pap.IsP p ∧ p.length ≤ 200 ∧ ∀ l H', Same H H' → H l = none → H' l = some (.lst (NL (Pap.bk p))) → Q (.ref l) H'
theorem all_true (n : Nat) : (List.replicate n true).all id = true := by
  induction n with
  | zero => rfl
  | succ n ih => rw [List.replicate_succ, List.all_cons, ih]; rfl
theorem eq_rep {ys : List V} {n : Nat} {v : V} (hl : ys.length = n) (h : ∀ (j : Nat) y, ys[j]? = some y → y = v) : ys = List.replicate n v := by
  subst hl
  refine List.ext_getElem? fun j => ?_
  by_cases hj : j < ys.length
  · rw [List.getElem?_eq_getElem hj, List.getElem?_replicate, if_pos hj, h j _ (List.getElem?_eq_getElem hj)]
  · rw [List.getElem?_eq_none (by omega), List.getElem?_eq_none (by rw [List.length_replicate]; omega)]
theorem cutV_tail (xs : List V) : cutV xs (some 1) none = xs.drop 1 := by
  unfold cutV
  rw [HT.sIx_none, show (some (1 : Int)) = some ((1 : Nat) : Int) from rfl, HT.sIx_nat]
  cases xs with
  | nil => rfl
  | cons x r =>
    rw [show min 1 (x :: r).length = 1 by rw [List.length_cons]; omega]
    exact List.take_of_length_le (by rw [List.length_drop]; exact Nat.le_refl _)
/-- answers that are told: later place, earlier place, what was said -/
structure Ans (H : Hp) (cs : List (Nat × Nat × Bool)) (ws : List V) : Prop where
  len : ws.length = cs.length
  get : ∀ (j p q : Nat) (b : Bool), cs[j]? = some (p, q, b) → ∃ t, ws[j]? = some (V.ref t) ∧ H t = some (.tup [.int p, .int q, .bl b])
theorem Ans.keep {H H' : Hp} {cs : List (Nat × Nat × Bool)} {ws : List V} (h : Ans H cs ws) (e : Same H H') : Ans H' cs ws :=
  ⟨h.len, fun j p q b hj => let ⟨t, a, c⟩ := h.get j p q b hj; ⟨t, a, e _ _ c⟩⟩
theorem compL_big {K : PySem.W.Frag} {a : Addr} {xs : List V} {g : TG} {tt : TT} {te : TE} {Q : VK} {σ0 : St} {H : Hp} (h : SqL K H a xs) (hz : xs.length ≤ 90000) (P : Nat → List V → St → Hp → Prop) (h0 : P 0 [] σ0 H) (hl : ∀ i ys σ H, i ≤ xs.length → P i ys σ H → SqL K H a xs ∧ ys.length ≤ i)
    (hs : ∀ i ys x σ H, i < xs.length → xs[i]? = some x → P i ys σ H → g x σ H fun σ2 H2 => tt σ2 H2 fun b H3 => if b = true then te σ2 H3 fun y H4 => Nxt P xs.length i (ys ++ [y]) σ2 H4 else Nxt P xs.length i ys σ2 H3)
    (hd : ∀ ys σ H, P xs.length ys σ H → ∀ p, H p = none → Q (.ref p) (upd H p (.lst ys))) : compL K g tt te σ0 Q (.ref a) H := ⟨a, rfl, ⟨xs, h⟩, comp_list P h0 hl (Nat.le_of_lt (smallL hz)) hs hd⟩
def agB (p : List Nat) (cs : List (Nat × Nat × Bool)) : Bool := cs.all fun c => decide (Pap.at' (Pap.bk p) c.1 < Pap.at' (Pap.bk p) c.2.1) == c.2.2
abbrev kP2 (p q : Nat) : List Key := [Sum.inl (p : Int), Sum.inl (q : Int)]
def askB (cs : List (Nat × Nat × Bool)) (p q : Nat) : Bool := cs.any fun c => decide (kP2 c.1 c.2.1 = kP2 (max p q) (min p q))
def shB (p : List Nat) (cs : List (Nat × Nat × Bool)) : Bool := ((List.range (p.length - 1)).map fun i => askB cs (Pap.at' p i) (Pap.at' p (i + 1))).all id
theorem valV_putAll (k : List Key) : ∀ (ps : List PQ) (m : List (List Key × V)), (valV (putAll m ps) k).isSome = ((valV m k).isSome || ps.any fun q => decide (q.2.2.1 = k))
  | [], m => by rw [show putAll m [] = m from rfl]; simp
  | q :: r, m => by
    rw [show putAll m (q :: r) = putAll (putK m q.2.2.1 q.2.2.2) r from rfl, valV_putAll k r, valV_put, List.any_cons]
    by_cases e : q.2.2.1 = k
    · rw [if_pos e.symm, decide_eq_true e]; simp
    · rw [if_neg (fun z => e z.symm), decide_eq_false e]; simp
theorem said_b (a b : Nat) (c : Bool) : decide (decide ((a : Int) < b) = c) = (decide (a < b) == c) := by
  have e : decide ((a : Int) < b) = decide (a < b) := by rw [decide_eq_decide]; omega
  rw [e]
  cases decide (a < b) <;> cases c <;> rfl
def spAgrees : Sp := fun vs H Q _ => ∃ (a w : Addr) (p : List Nat) (cs : List (Nat × Nat × Bool)) (ws : List V), vs = [.ref a, .ref w] ∧ H a = some (.lst (NL p)) ∧ Pap.IsP p ∧ p.length ≤ 200 ∧ H w = some (.lst ws) ∧ Ans H cs ws ∧ (∀ c ∈ cs, c.1 < p.length ∧ c.2.1 < p.length) ∧ cs.length ≤ 20000 ∧ ∀ H', Same H H' → Q (.bl (agB p cs)) H'
def spShows : Sp := fun vs H Q _ => ∃ (a w : Addr) (p : List Nat) (cs : List (Nat × Nat × Bool)) (ws : List V), vs = [.ref a, .ref w] ∧ H a = some (.lst (NL p)) ∧ Pap.IsP p ∧ p.length ≤ 200 ∧ H w = some (.lst ws) ∧ Ans H cs ws ∧ (∀ c ∈ cs, c.1 < p.length ∧ c.2.1 < p.length) ∧ cs.length ≤ 20000 ∧ ∀ H', Same H H' → Q (.bl (agB p cs && shB p cs)) H'
theorem take_snoc {α : Type} {l : List α} {i : Nat} {x : α} (h : l[i]? = some x) : l.take (i + 1) = l.take i ++ [x] := by
  rw [List.take_add_one, h]; rfl
/-- a list of places -/
abbrev nL (l : List Nat) : List V := l.map fun (x : Nat) => V.int (x : Int)
theorem nL_ints (l : List Nat) : nL l = (l.map fun (x : Nat) => (x : Int)).map V.int := by rw [List.map_map]; rfl
/-- the one order of places -/
def lx (ks : List Int) (x y : Nat) : Prop := kat ks x < kat ks y ∨ (kat ks x = kat ks y ∧ x < y)
/-- an order of the places from first on, up to place -/
structure OrdN (ks : List Int) (first place : Nat) (os : List Nat) : Prop where
  len : os.length = place - first
  mem : ∀ x, x ∈ os ↔ first ≤ x ∧ x < place
  srt : os.Pairwise (lx ks)
def Things (H : Hp) (ks : List Int) (xs : List V) : Prop := xs.length = ks.length ∧ ∀ (i : Nat) k, ks[i]? = some k → ∃ r, xs[i]? = some (V.ref r) ∧ H r = some (.tup [.int k, .int i])
theorem Things.zz {H : Hp} {ks : List Int} {xs : List V} (h : Things H ks xs) : ∃ zz : List PrA, xs = zz.map (fun z => V.ref z.1) ∧ zz.length = ks.length ∧ ∀ (i : Nat) z, zz[i]? = some z → z.2 = (kat ks i, (i : Int)) ∧ H z.1 = some (.tup [.int (kat ks i), .int i]) := by
  have key : ∀ n, n ≤ ks.length → ∃ zz : List PrA, xs.take n = zz.map (fun z => V.ref z.1) ∧ zz.length = n ∧ ∀ (i : Nat) z, zz[i]? = some z → z.2 = (kat ks i, (i : Int)) ∧ H z.1 = some (.tup [.int (kat ks i), .int i]) := by
    intro n
    induction n with
    | zero => intro _; exact ⟨[], rfl, rfl, fun i z e => by simp at e⟩
    | succ n ih =>
      intro hn
      obtain ⟨zz, a1, a2, a3⟩ := ih (by omega)
      obtain ⟨r, b1, b2⟩ := h.2 n _ (List.getElem?_eq_getElem (show n < ks.length by omega))
      have ek : ks[n] = kat ks n := by unfold kat; rw [List.getElem?_eq_getElem (show n < ks.length by omega)]; rfl
      rw [ek] at b2
      refine ⟨zz ++ [(r, kat ks n, (n : Int))], ?_, by rw [List.length_append, a2]; rfl, fun i z e => ?_⟩
      · rw [List.take_add_one, b1, a1, List.map_append]
        rfl
      · by_cases hi : i < zz.length
        · rw [List.getElem?_append_left hi] at e
          exact a3 i z e
        · have h1 := (List.getElem?_eq_some_iff.mp e).1
          rw [List.length_append, List.length_singleton] at h1
          have : i = n := by omega
          subst this
          rw [List.getElem?_append_right (by omega), show i - zz.length = 0 by omega] at e
          cases e
          exact ⟨rfl, b2⟩
  obtain ⟨zz, a1, a2, a3⟩ := key ks.length (Nat.le_refl _)
  rw [List.take_of_length_le (by rw [h.1]; exact Nat.le_refl _)] at a1
  exact ⟨zz, a1, a2, a3⟩
def saidC (ks : List Int) (c : Nat × Nat) : Nat × Nat × Bool := (c.1, c.2, decide (kat ks c.1 < kat ks c.2))
theorem Told.ans {H : Hp} {ks : List Int} {pr : List (Nat × Nat)} {ws : List V} (h : Told H ks pr ws) : Ans H (pr.map (saidC ks)) ws := by
  refine ⟨by rw [List.length_map]; exact h.len, fun j p q b hj => ?_⟩
  rw [List.getElem?_map] at hj
  obtain ⟨⟨p', q'⟩, hc, e⟩ := Option.map_eq_some_iff.mp hj
  cases e
  exact h.get j p' q' hc
theorem OrdN.isP {ks : List Int} {n : Nat} {os : List Nat} (o : OrdN ks 0 n os) : Pap.IsP os := by
  have hl : os.length = n := by rw [o.len]; omega
  refine Pap.of_nd (o.srt.imp fun {x y} h e => by subst e; unfold lx at h; omega) fun x => ?_
  rw [o.mem, hl]; omega
theorem OrdN.idx {ks : List Int} {n : Nat} {os : List Nat} (o : OrdN ks 0 n os) {x y : Nat} (hx : x < n) (hy : y < n) (h : os.idxOf x < os.idxOf y) : lx ks x y := by
  have hl : os.length = n := by rw [o.len]; omega
  have p := o.isP
  have h1 := Pap.idx_lt p (v := x) (by omega)
  have h2 := Pap.idx_lt p (v := y) (by omega)
  have g := List.pairwise_iff_getElem.mp o.srt _ _ h1 h2 h
  rw [List.getElem_idxOf, List.getElem_idxOf] at g
  exact g
theorem ag_true {ks : List Int} {n : Nat} {os : List Nat} {l : List (Nat × Nat)} (o : OrdN ks 0 n os) (hl : ∀ c ∈ l, c.2 < c.1) (hin : ∀ c ∈ l, c.1 < n) : agB os (l.map (saidC ks)) = true := by
  have hln : os.length = n := by rw [o.len]; omega
  unfold agB
  rw [List.all_map, List.all_eq_true]
  intro c hc
  have h1 := hl c hc
  have h2 := hin c hc
  show (decide (Pap.at' (Pap.bk os) c.1 < Pap.at' (Pap.bk os) c.2) == decide (kat ks c.1 < kat ks c.2)) = true
  rw [Pap.bk_at (by omega), Pap.bk_at (by omega), beq_iff_eq, decide_eq_decide]
  constructor
  · intro h
    have := o.idx (by omega) (by omega) h
    unfold lx at this
    omega
  · intro h
    rcases Nat.lt_trichotomy (os.idxOf c.1) (os.idxOf c.2) with z | z | z
    · exact z
    · have e1 := Pap.at_idx o.isP (v := c.1) (by omega)
      have e2 := Pap.at_idx o.isP (v := c.2) (by omega)
      rw [z, e2] at e1
      omega
    · have := o.idx (by omega) (by omega) z
      unfold lx at this
      omega
theorem NL_nL (l : List Nat) : NL l = nL l := by rw [nL_ints]
/-- things that are tuples of ints -/
def Rw (H : Hp) (ts : List (List Int)) (xs : List V) : Prop := xs.length = ts.length ∧ ∀ (i : Nat) t, ts[i]? = some t → ∃ r, xs[i]? = some (V.ref r) ∧ H r = some (.tup (t.map V.int))
theorem Rw.keep {H H' : Hp} {ts : List (List Int)} {xs : List V} (h : Rw H ts xs) (e : Same H H') : Rw H' ts xs := ⟨h.1, fun i t ht => let ⟨r, a, b⟩ := h.2 i t ht; ⟨r, a, e _ _ b⟩⟩
theorem Rw.at {K : PySem.W.Frag} {H : Hp} {ts : List (List Int)} {xs : List V} {i : Nat} {v : V} (h : Rw H ts xs) (e : xs[i]? = some v) : ∃ t a, ts[i]? = some t ∧ v = .ref a ∧ SqT K H a (t.map V.int) := by
  have hi := (List.getElem?_eq_some_iff.mp e).1
  have hj : i < ts.length := by rw [← h.1]; exact hi
  obtain ⟨r, a, b⟩ := h.2 i _ (List.getElem?_eq_getElem hj)
  rw [e] at a
  exact ⟨_, r, List.getElem?_eq_getElem hj, Option.some.inj a, SqT.of b⟩
def RuleAt (K : PySem.W.Frag) (CK : Addr) (H : Hp) (ru : Addr) (cols : List (Int × Bool)) : Prop :=
  ∃ dx c xs, H ru = some (.ins CK dx (putF "columns" (.ref c) [])) ∧ SqL K H c xs ∧ DpAll K H (cols.map colD) xs
theorem RuleAt.mono {K : PySem.W.Frag} {CK : Addr} {H H' : Hp} {ru : Addr} {cols : List (Int × Bool)} (h : RuleAt K CK H ru cols) (e : Same H H') : RuleAt K CK H' ru cols :=
  let ⟨dx, c, xs, h1, h2, h3⟩ := h; ⟨dx, c, xs, e _ _ h1, e.seq h2, h3.mono e⟩
def spTold27 (K : PySem.W.Frag) (CK : Addr) : Sp := fun vs H Q _ => ∃ (rw ru : Addr) (xs : List V) (ts : List (List Int)) (cols : List (Int × Bool)), vs = [.ref rw, .ref ru] ∧ SqL K H rw xs ∧ Rw H ts xs ∧ (∀ t ∈ ts, t.length = 2) ∧ (∀ c ∈ cols, 0 ≤ c.1 ∧ c.1 < 2) ∧ RuleAt K CK H ru cols ∧ ts.length ≤ 100 ∧
  ∀ l (rs : List V) H', Same H H' → H l = none → H' l = some (.lst rs) → rs.length = ts.length → (∀ (p : Nat) t, ts[p]? = some t → ∃ r, rs[p]? = some (V.ref r) ∧ H' r = some (.lst (ts.map fun y => V.bl (keyB cols t y)))) → Q (.ref l) H'
def Mx (H : Hp) (l : Addr) (ts : List (List Int)) (cols : List (Int × Bool)) : Prop := ∃ rs : List V, H l = some (.lst rs) ∧ rs.length = ts.length ∧ ∀ (p : Nat) t, ts[p]? = some t → ∃ r, rs[p]? = some (V.ref r) ∧ H r = some (.lst (ts.map fun y => V.bl (keyB cols t y)))
def rkL (cols : List (Int × Bool)) (ts : List (List Int)) : List Nat := ts.map (rk cols ts)
def spCounted : Sp := fun vs H Q _ => ∃ (l : Addr) (ts : List (List Int)) (cols : List (Int × Bool)), vs = [.ref l] ∧ Mx H l ts cols ∧ ts.length ≤ 100 ∧ ∀ l2 H', Same H H' → H l2 = none → H' l2 = some (.lst ((rkL cols ts).map fun (n : Nat) => V.int n)) → Q (.ref l2) H'
def spAreRanks : Sp := fun vs H Q _ => ∃ (l l2 : Addr) (ts : List (List Int)) (cols : List (Int × Bool)), vs = [.ref l, .ref l2] ∧ Mx H l ts cols ∧ ts.length ≤ 100 ∧ H l2 = some (.lst ((rkL cols ts).map fun (n : Nat) => V.int n)) ∧ ∀ H', Same H H' → Q (.bl true) H'
def spRanked27 (K : PySem.W.Frag) (CK : Addr) : Sp := fun vs H Q _ => ∃ (rw ru : Addr) (xs : List V) (ts : List (List Int)) (cols : List (Int × Bool)), vs = [.ref rw, .ref ru] ∧ SqL K H rw xs ∧ Rw H ts xs ∧ (∀ t ∈ ts, t.length = 2) ∧ (∀ c ∈ cols, 0 ≤ c.1 ∧ c.1 < 2) ∧ RuleAt K CK H ru cols ∧ ts.length ≤ 100 ∧
  ∀ t l2 H', Same H H' → H t = none → H l2 = none → H' t = some (.tup [.str "ranks", .ref l2]) → H' l2 = some (.lst ((rkL cols ts).map fun (n : Nat) => V.int n)) → Q (.ref t) H'
def spNever : Sp := fun vs _ _ _ => ∃ l : Addr, vs = [.ref l] ∧ (1 : Nat) = 2
theorem rep_NL (n : Nat) : (List.replicate n [V.int 0]).flatten = NL (List.replicate n 0) := by
  induction n with
  | zero => rfl
  | succ n ih => rw [List.replicate_succ, List.flatten_cons, ih, List.replicate_succ]; rfl
/-- the spots of the first i places, nought elsewhere -/
def zsp (p : List Nat) (i : Nat) : List Nat := (List.range p.length).map fun v => if v ∈ p.take i then p.idxOf v else 0
theorem zsp_len (p : List Nat) (i : Nat) : (zsp p i).length = p.length := by unfold zsp; rw [List.length_map, List.length_range]
theorem zsp_zero (p : List Nat) : zsp p 0 = List.replicate p.length 0 := by
  unfold zsp
  refine List.eq_replicate_iff.mpr ⟨by rw [List.length_map, List.length_range], fun b hb => ?_⟩
  obtain ⟨v, _, rfl⟩ := List.mem_map.mp hb
  simp
theorem zsp_end {p : List Nat} (hp : Pap.IsP p) : zsp p p.length = Pap.bk p := by
  unfold zsp Pap.bk
  refine List.map_congr_left fun v hv => ?_
  rw [List.take_of_length_le (Nat.le_refl _), if_pos (hp.mem (List.mem_range.mp hv))]
theorem zsp_step {p : List Nat} (hp : Pap.IsP p) {i : Nat} (hi : i < p.length) : (zsp p i).set (Pap.at' p i) i = zsp p (i + 1) := by
  refine List.ext_getElem? fun v => ?_
  by_cases hv : v < p.length
  · rw [List.getElem?_set, zsp_len]
    have g : ∀ j, (zsp p j)[v]? = some (if v ∈ p.take j then p.idxOf v else 0) := fun j => by
      unfold zsp
      rw [List.getElem?_map, List.getElem?_range hv]; rfl
    rw [g, g]
    have e : p.take (i + 1) = p.take i ++ [Pap.at' p i] := by rw [List.take_add_one, Pap.at_lt hi]; rfl
    by_cases h1 : Pap.at' p i = v
    · rw [if_pos h1, if_pos (by rw [h1]; exact hv), e, if_pos (List.mem_append_right _ (by rw [h1]; exact List.mem_cons_self)), ← h1, Pap.idx_at hp hi]
    · rw [if_neg h1, e]
      congr 1
      by_cases h2 : v ∈ p.take i
      · rw [if_pos h2, if_pos (List.mem_append_left _ h2)]
      · rw [if_neg h2, if_neg]
        intro z
        rcases List.mem_append.mp z with z | z
        · exact h2 z
        · exact h1 (List.mem_singleton.mp z).symm
  · rw [List.getElem?_eq_none (by rw [List.length_set, zsp_len]; omega), List.getElem?_eq_none (by rw [zsp_len]; omega)]
theorem onceX {α : Type} {P : TS} {D : Ends} (σ : α → St) (X : α → Hp) (p : α → Prop) {G : Prop} (h : (∀ x, p x → Cut P D (σ x) (X x)) → G) (t : ∀ x, p x → Cut P D (σ x) (X x)) : G := h t
theorem onceS {α : Type} {P : TS} {D : Ends} {H : Hp} (σ : α → St) (p : α → Prop) {G : Prop} (h : (∀ x, p x → Cut P D (σ x) H) → G) (t : ∀ x, p x → Cut P D (σ x) H) : G := h t
/-- pairs of places -/
structure Prs (H : Hp) (ps : List (Nat × Nat)) (ws : List V) : Prop where
  len : ws.length = ps.length
  get : ∀ (j x y : Nat), ps[j]? = some (x, y) → ∃ t, ws[j]? = some (V.ref t) ∧ H t = some (.tup [.int x, .int y])
theorem Prs.nil {H : Hp} : Prs H [] [] := ⟨rfl, fun j x y h => by simp at h⟩
theorem Prs.keep {H H' : Hp} {ps : List (Nat × Nat)} {ws : List V} (h : Prs H ps ws) (e : ∀ t x, H t = some (.tup x) → H' t = some (.tup x)) : Prs H' ps ws :=
  ⟨h.len, fun j x y hj => let ⟨t, a, c⟩ := h.get j x y hj; ⟨t, a, e _ _ c⟩⟩
theorem Prs.upd {H : Hp} {ps : List (Nat × Nat)} {ws us us' : List V} {l : Addr} (h : Prs H ps ws) (hl : H l = some (.lst us)) : Prs (L2.upd H l (.lst us')) ps ws :=
  h.keep fun t x c => by rw [upd_ne (fun e => by rw [e, hl] at c; cases c)]; exact c
theorem Prs.app {H : Hp} {ps qs : List (Nat × Nat)} {ws us : List V} (h : Prs H ps ws) (g : Prs H qs us) : Prs H (ps ++ qs) (ws ++ us) := by
  refine ⟨by rw [List.length_append, List.length_append, h.len, g.len], fun j x y hj => ?_⟩
  by_cases hl : j < ps.length
  · rw [List.getElem?_append_left hl] at hj
    rw [List.getElem?_append_left (by rw [h.len]; exact hl)]
    exact h.get j x y hj
  · rw [List.getElem?_append_right (by omega)] at hj
    rw [List.getElem?_append_right (by rw [h.len]; omega), h.len]
    exact g.get _ x y hj
theorem Prs.one {H : Hp} {x y : Nat} {t : Addr} (ht : H t = some (.tup [.int x, .int y])) : Prs H [(x, y)] [.ref t] := ⟨rfl, fun j a b hj => by
  cases j with
  | zero => cases hj; exact ⟨t, rfl, ht⟩
  | succ j => simp at hj⟩
theorem Prs.take {H : Hp} {ps : List (Nat × Nat)} {ws : List V} (h : Prs H ps ws) (r : Nat) : Prs H (ps.take r) (ws.take r) := by
  refine ⟨by rw [List.length_take, List.length_take, h.len], fun j x y hj => ?_⟩
  have hlt := (List.getElem?_eq_some_iff.mp hj).1
  rw [List.length_take] at hlt
  rw [List.getElem?_take_of_lt (by omega)] at hj
  rw [List.getElem?_take_of_lt (by omega)]
  exact h.get j x y hj
theorem Prs.drop {H : Hp} {ps : List (Nat × Nat)} {ws : List V} (h : Prs H ps ws) (r : Nat) : Prs H (ps.drop r) (ws.drop r) := by
  refine ⟨by rw [List.length_drop, List.length_drop, h.len], fun j x y hj => ?_⟩
  rw [List.getElem?_drop] at hj
  rw [List.getElem?_drop]
  exact h.get _ x y hj
theorem Prs.ins {H : Hp} {ps : List (Nat × Nat)} {ws : List V} {x y : Nat} {t : Addr} (h : Prs H ps ws) (ht : H t = some (.tup [.int x, .int y])) (r : Nat) : Prs H (ps.take r ++ (x, y) :: ps.drop r) (ws.take r ++ .ref t :: ws.drop r) :=
  (h.take r).app (Prs.app (Prs.one ht) (h.drop r))
def prD (c : Nat × Nat) : PyData := .tuple [.int c.1, .int c.2]
theorem Prs.dp {K : PySem.W.Frag} {H : Hp} : ∀ {ps : List (Nat × Nat)} {ws : List V}, Prs H ps ws → DpAll K H (ps.map prD) ws
  | [], ws, h => by
    have : ws = [] := List.length_eq_zero_iff.mp h.len
    subst this
    exact .nil
  | c :: r, [], h => by have := h.len; cases this
  | (x, y) :: r, v :: ws, h => by
    obtain ⟨t, a, b⟩ := h.get 0 x y rfl
    have ev : v = .ref t := Option.some.inj a
    subst ev
    refine .cons (dp_tup (SqT.of b) (.two (dp_int _) (dp_int _))) (Prs.dp ⟨by have := h.len; simpa using this, fun j p' q' hj => ?_⟩)
    obtain ⟨t', a', b'⟩ := h.get (j + 1) p' q' (by simpa using hj)
    exact ⟨t', by simpa using a', b'⟩
theorem encN : Enc (fun n : Nat => PyData.int n) 0 := ⟨fun a b => by rw [Enc.int.eq, decide_eq_decide]; omega, fun a => Enc.int.lay a, fun a => Enc.int.dep a⟩
theorem enc_pr : Enc prD 1 := Enc.two encN encN
def Okp (n : Nat) (ps : List (Nat × Nat)) : Prop := ∀ c ∈ ps, c.1 ≠ c.2 ∧ c.1 < n ∧ c.2 < n
theorem Okp.ins {n : Nat} {ps : List (Nat × Nat)} {x y : Nat} (h : Okp n ps) (hn : x ≠ y) (hx : x < n) (hy : y < n) (r : Nat) : Okp n (ps.take r ++ (x, y) :: ps.drop r) := fun c hc => by
  rcases List.mem_append.mp hc with z | z
  · exact h c (List.mem_of_mem_take z)
  · rcases List.mem_cons.mp z with z | z
    · rw [z]; exact ⟨hn, hx, hy⟩
    · exact h c (List.mem_of_mem_drop z)
theorem mem_ins {α : Type} {ps : List α} {x c : α} {r : Nat} : c ∈ ps.take r ++ x :: ps.drop r ↔ c = x ∨ c ∈ ps := by
  rw [List.mem_append, List.mem_cons]
  constructor
  · rintro (z | z | z)
    · exact .inr (List.mem_of_mem_take z)
    · exact .inl z
    · exact .inr (List.mem_of_mem_drop z)
  · rintro (z | z)
    · exact .inr (.inl z)
    · rw [← List.take_append_drop r ps] at z
      rcases List.mem_append.mp z with z | z
      · exact .inl z
      · exact .inr (.inr z)
/-- neighbours of the first m spots, asked either way -/
def Nb (p : List Nat) (m : Nat) (ps : List (Nat × Nat)) : Prop := ∀ k, k < m → (Pap.at' p k, Pap.at' p (k + 1)) ∈ ps ∨ (Pap.at' p (k + 1), Pap.at' p k) ∈ ps
def knB (p : List Nat) (ps : List (Nat × Nat)) : Bool := (List.range (p.length - 1)).all fun k => decide ((Pap.at' p k, Pap.at' p (k + 1)) ∈ ps) || decide ((Pap.at' p (k + 1), Pap.at' p k) ∈ ps)
def mm (c : Nat × Nat) : Nat × Nat := (max c.1 c.2, min c.1 c.2)
theorem kn_sh (ks : List Int) (p : List Nat) (ps : List (Nat × Nat)) : shB p ((ps.map mm).map (saidC ks)) = knB p ps := by
  unfold shB knB
  rw [List.all_map, Bool.eq_iff_iff, List.all_eq_true, List.all_eq_true]
  refine forall_congr' fun k => forall_congr' fun hk => ?_
  show askB _ (Pap.at' p k) (Pap.at' p (k + 1)) = true ↔ _
  unfold askB
  rw [List.map_map, List.any_map, List.any_eq_true, Bool.or_eq_true, decide_eq_true_iff, decide_eq_true_iff]
  generalize Pap.at' p k = x
  generalize Pap.at' p (k + 1) = y
  constructor
  · rintro ⟨⟨a, b⟩, hc, e⟩
    have e' := of_decide_eq_true (show decide (kP2 (max a b) (min a b) = kP2 (max x y) (min x y)) = true from e)
    injection e' with e1 e2
    injection e2 with e2 _
    injection e1 with e1
    injection e2 with e2
    have : (a = x ∧ b = y) ∨ (a = y ∧ b = x) := by omega
    rcases this with ⟨rfl, rfl⟩ | ⟨rfl, rfl⟩
    · exact .inl hc
    · exact .inr hc
  · rintro (h | h)
    · exact ⟨_, h, decide_eq_true rfl⟩
    · refine ⟨_, h, decide_eq_true ?_⟩
      show kP2 (max y x) (min y x) = _
      rw [Nat.max_comm, Nat.min_comm]
theorem kn_all {p : List Nat} {ps : List (Nat × Nat)} (h : Nb p (p.length - 1) ps) : knB p ps = true := by
  unfold knB
  rw [List.all_eq_true]
  intro k hk
  rw [Bool.or_eq_true, decide_eq_true_iff, decide_eq_true_iff]
  exact h k (List.mem_range.mp hk)
theorem ord_lx {ks : List Int} {n : Nat} {os : List Nat} (o : OrdN ks 0 n os) {x y : Nat} (hx : x < n) (hy : y < n) (hxy : x ≠ y) : Pap.at' (Pap.bk os) x < Pap.at' (Pap.bk os) y ↔ lx ks x y := by
  have hln : os.length = n := by rw [o.len]; omega
  rw [Pap.bk_at (by omega), Pap.bk_at (by omega)]
  constructor
  · exact o.idx hx hy
  · intro h
    rcases Nat.lt_trichotomy (os.idxOf x) (os.idxOf y) with z | z | z
    · exact z
    · have e1 := Pap.at_idx o.isP (v := x) (by omega)
      have e2 := Pap.at_idx o.isP (v := y) (by omega)
      rw [z, e2] at e1
      omega
    · have := o.idx hy hx z
      unfold lx at this h
      omega
def spPairs27 (K : PySem.W.Frag) : Sp := fun vs H Q _ => ∃ (a : Addr) (ns : List Int) (n : Nat), vs = [.ref a, .int n] ∧ n ≤ 63 ∧ SqL K H a (ns.map V.int) ∧ ns.length ≤ 63 ∧ ∀ l H' ps ws, Same H H' → H l = none → H' l = some (.lst ws) → Prs H' ps ws → Okp n ps → ps.length ≤ 63 → Q (.ref l) H'
def spTurned27 : Sp := fun vs H Q _ => ∃ (a : Addr) (p : List Nat) (c : Int), vs = [.ref a, .int c] ∧ H a = some (.lst (NL p)) ∧ Pap.IsP p ∧ p.length ≤ 63 ∧ ∀ l H' ps ws, Same H H' → H l = none → H' l = some (.lst ws) → Prs H' ps ws → Okp p.length ps → Nb p (p.length - 1) ps → ps.length ≤ 63 → Q (.ref l) H'
def spKnown27 : Sp := fun vs H Q _ => ∃ (a w : Addr) (p : List Nat) (ps : List (Nat × Nat)) (ws : List V), vs = [.ref a, .ref w] ∧ H a = some (.lst (NL p)) ∧ H w = some (.lst ws) ∧ Prs H ps ws ∧ p.length ≤ 200 ∧ ∀ H', Same H H' → Q (.bl (knB p ps)) H'
def spReserve : Sp := fun vs H Q _ => ∃ (c k : Int), vs = [.int c, .int k] ∧ 0 ≤ k ∧ k ≤ 1000 ∧ ∀ z, 1 ≤ z → z < 4000000000 → Q (.int z) H
def spSigned27 : Sp := fun vs H Q _ => ∃ (d : Int), vs = [.int d] ∧ ∀ z : Int, Q (.int z) H
def spRowOf27 (K : PySem.W.Frag) : Sp := fun vs H Q _ => ∃ (a : Addr) (ns : List Int), vs = [.ref a] ∧ SqL K H a (ns.map V.int) ∧ ns.length ≤ 63 ∧ ∀ l H' ts xs, Same H H' → H l = none → H' l = some (.lst xs) → Rw H' ts xs → (∀ t ∈ ts, t.length = 2) → ts.length ≤ 63 → Q (.ref l) H'
def spAsks27 (K : PySem.W.Frag) : Sp := fun vs H Q _ => ∃ (a b : Addr) (ns : List Int) (p : List Nat), vs = [.ref a, .ref b] ∧ SqL K H a (ns.map V.int) ∧ ns.length ≤ 63 ∧ H b = some (.lst (NL p)) ∧ Pap.IsP p ∧ p.length ≤ 63 ∧
  ∀ l l1 l2 H' ps ws qs us, Same H H' → H l = none → H l1 = none → H l2 = none → H' l = some (.lst [.ref l1, .ref l2]) → H' l1 = some (.lst ws) → H' l2 = some (.lst us) → Prs H' ps ws → Prs H' qs us → Okp p.length ps → Okp p.length qs → Nb p (p.length - 1) qs → ps.length ≤ 63 → qs.length ≤ 63 → Q (.ref l) H'
theorem insV_at {ws : List V} {y : Int} {x : V} (h0 : 0 ≤ y) (h1 : y ≤ ws.length) : insV ws y x = ws.take y.toNat ++ x :: ws.drop y.toNat := by
  unfold insV
  rw [if_neg (by omega), Nat.min_eq_left (by omega)]
/-- the pair of a spot, either way -/
def Pr1 (p : List Nat) (i : Nat) (c : Nat × Nat) : Prop := c = (Pap.at' p i, Pap.at' p (i + 1)) ∨ c = (Pap.at' p (i + 1), Pap.at' p i)
theorem Pr1.ok {p : List Nat} {i : Nat} {c : Nat × Nat} (h : Pr1 p i c) (hp : Pap.IsP p) (hi : i + 1 < p.length) : c.1 ≠ c.2 ∧ c.1 < p.length ∧ c.2 < p.length := by
  have n1 := hp.at_lt (show i < p.length by omega)
  have n2 := hp.at_lt hi
  have n3 : Pap.at' p i ≠ Pap.at' p (i + 1) := fun e => by have := Pap.at_inj hp (by omega) hi e; omega
  rcases h with h | h
  · rw [h]; exact ⟨n3, n1, n2⟩
  · rw [h]; exact ⟨Ne.symm n3, n2, n1⟩
theorem Nb.ins {p : List Nat} {i : Nat} {ps : List (Nat × Nat)} {c : Nat × Nat} (h : Nb p i ps) (hc : Pr1 p i c) (r : Nat) : Nb p (i + 1) (ps.take r ++ c :: ps.drop r) := fun k hk => by
  by_cases e : k = i
  · rw [e]
    rcases hc with hc | hc
    · exact .inl (mem_ins.mpr (.inl hc.symm))
    · exact .inr (mem_ins.mpr (.inl hc.symm))
  · rcases h k (by omega) with z | z
    · exact .inl (mem_ins.mpr (.inr z))
    · exact .inr (mem_ins.mpr (.inr z))
theorem Rw.snoc {H : Hp} {ts : List (List Int)} {xs : List V} {u : List Int} {t : Addr} (h : Rw H ts xs) (ht : H t = some (.tup (u.map V.int))) : Rw H (ts ++ [u]) (xs ++ [.ref t]) := by
  refine ⟨by rw [List.length_append, List.length_append, h.1]; rfl, fun j v hj => ?_⟩
  by_cases hl : j < ts.length
  · rw [List.getElem?_append_left hl] at hj
    rw [List.getElem?_append_left (by rw [h.1]; exact hl)]
    exact h.2 j v hj
  · rw [List.getElem?_append_right (by omega)] at hj
    rw [List.getElem?_append_right (by rw [h.1]; omega), h.1]
    cases hk : j - ts.length with
    | zero => rw [hk] at hj; cases hj; exact ⟨t, rfl, ht⟩
    | succ m => rw [hk] at hj; simp at hj
theorem Rw.nil {H : Hp} : Rw H [] [] := ⟨rfl, fun i t h => by simp at h⟩
/-- an asker of things by one column -/
structure Sit27 (CA CR : Addr) (H : Hp) (u : Bool) (ts : List (List Int)) (ks : List Int) (xs : List V) (a rl ru tl cl : Addr) (pr : List (Nat × Nat)) : Prop where
  ha : Ins H a CA (fA rl ru .non pr.length tl)
  hrl : H rl = some (.lst xs)
  hru : ∃ dr, H ru = some (.ins CR dr (putF "columns" (.ref cl) []))
  hcl : ∃ t, H cl = some (.lst [.ref t]) ∧ H t = some (.tup [.int 0, .str (wayS u)])
  len : ts.length = ks.length
  row : Rw H ts xs
  two : ∀ t ∈ ts, t.length = 2
  key : ∀ (i j : Nat) t t', ts[i]? = some t → ts[j]? = some t' → keyB [(0, u)] t t' = decide (kat ks i < kat ks j)
  htl : ∃ ws, H tl = some (.lst ws) ∧ Told H ks pr ws
  ne : rl ∉ [a, tl] ∧ cl ∉ [a, tl] ∧ ru ≠ a
section
variable {CA CR : Addr} {H H' : Hp} {u : Bool} {ts : List (List Int)} {ks : List Int} {xs : List V} {a rl ru tl cl : Addr} {pr : List (Nat × Nat)}
theorem Sit27.tupS (h : Sit27 CA CR H u ts ks xs a rl ru tl cl pr) {b : Addr} {o : HO} (hb : H b = some o) (n1 : ∀ x, o ≠ .lst x) (n2 : ∀ C d f, o ≠ .ins C d f) : b ∉ [a, tl] := by
  obtain ⟨ws, htl, _⟩ := h.htl
  intro z
  rcases List.mem_cons.mp z with z | z
  · exact h.ha.ne hb n2 z
  · rw [List.mem_singleton.mp z, htl] at hb; exact n1 _ (Option.some.inj hb).symm
theorem Sit27.ruS (h : Sit27 CA CR H u ts ks xs a rl ru tl cl pr) : ru ∉ [a, tl] := by
  obtain ⟨ws, htl, _⟩ := h.htl
  obtain ⟨dr, hr⟩ := h.hru
  intro z
  rcases List.mem_cons.mp z with z | z
  · exact h.ne.2.2 z
  · rw [List.mem_singleton.mp z, htl] at hr; cases hr
theorem Sit27.keep (h : Sit27 CA CR H u ts ks xs a rl ru tl cl pr) (e : Fr [a, tl] H H') {pr' : List (Nat × Nat)} {ws' : List V} (h1 : Ins H' a CA (fA rl ru .non pr'.length tl)) (h2 : H' tl = some (.lst ws')) (h3 : Told H' ks pr' ws') : Sit27 CA CR H' u ts ks xs a rl ru tl cl pr' where
  ha := h1
  hrl := e _ _ h.ne.1 h.hrl
  hru := let ⟨dr, hr⟩ := h.hru; ⟨dr, e _ _ h.ruS hr⟩
  hcl := let ⟨t, a1, a2⟩ := h.hcl; ⟨t, e _ _ h.ne.2.1 a1, e _ _ (h.tupS a2 (fun _ z => by cases z) (fun _ _ _ z => by cases z)) a2⟩
  len := h.len
  row := ⟨h.row.1, fun i k hk => let ⟨r, a1, a2⟩ := h.row.2 i k hk; ⟨r, a1, e _ _ (h.tupS a2 (fun _ z => by cases z) (fun _ _ _ z => by cases z)) a2⟩⟩
  two := h.two
  key := h.key
  htl := ⟨_, h2, h3⟩
  ne := h.ne
theorem Sit27.mono (h : Sit27 CA CR H u ts ks xs a rl ru tl cl pr) (e : Same H H') : Sit27 CA CR H' u ts ks xs a rl ru tl cl pr :=
  let ⟨_, h2, h3⟩ := h.htl; h.keep e.fr (h.ha.mono e) (e _ _ h2) (h3.keep fun _ _ z => e _ _ z)
theorem Sit27.ahead {K : PySem.W.Frag} (h : Sit27 CA CR H u ts ks xs a rl ru tl cl pr) {p q : Nat} (hpq : p ≠ q) (hp : p < ks.length) (hq : q < ks.length) (hpr : pr.length ≤ 800) {Q : VK}
    (fin : ∀ H', Fr [a, tl] H H' → Sit27 CA CR H' u ts ks xs a rl ru tl cl (pr ++ [(max p q, min p q)]) → Q (.bl (if q < p then decide (kat ks p < kat ks q) else !decide (kat ks q < kat ks p))) H') : spAheadK CA CR (spKeyBefore K CR) [.ref a, .int p, .int q] H Q E0 := by
  obtain ⟨ws, htl, hts⟩ := h.htl
  obtain ⟨dr, hru⟩ := h.hru
  obtain ⟨ct, hcl, hct⟩ := h.hcl
  have hmx : max p q < ts.length := by have := h.len; omega
  have hmn : min p q < ts.length := by have := h.len; omega
  obtain ⟨x, hx, tx⟩ := h.row.2 (max p q) _ (List.getElem?_eq_getElem hmx)
  obtain ⟨y, hy, ty⟩ := h.row.2 (min p q) _ (List.getElem?_eq_getElem hmn)
  have emx : (max (p : Int) q).toNat = max p q := by omega
  have emn : (min (p : Int) q).toNat = min p q := by omega
  have hk := h.key _ _ _ _ (List.getElem?_eq_getElem hmx) (List.getElem?_eq_getElem hmn)
  have w1 := h.two _ (List.getElem_mem hmx)
  have w2 := h.two _ (List.getElem_mem hmn)
  refine ⟨a, rl, ru, tl, pr.length, p, q, xs, ws, .ref x, .ref y, decide (kat ks (max p q) < kat ks (min p q)), rfl, h.ha, h.hrl, by omega, by omega, by omega, by rw [emx]; exact hx, by rw [emn]; exact hy, ⟨dr, _, hru, putF1n (by decide)⟩, fun Q' hQ' => ?_, htl, by rw [hts.len]; omega, fun t H2 hn ha2 htl2 ht2 k2 => ?_⟩
  · refine ⟨ru, dr, cl, x, y, [.ref ct], [(0, u)], _, _, rfl, hru, SqL.of hcl, DpAll.one (dp_tup (SqT.of hct) (.two (dp_int _) (dp_str _))), SqT.of tx, SqT.of ty, fun c hc => ?_, ?_⟩
    · rw [List.mem_singleton.mp hc]; exact ⟨(show (0 : Int) ≤ 0 by decide), (show (0 : Int) < _ by omega), (show (0 : Int) < _ by omega)⟩
    · rw [hk]
      exact hQ'
  · have nta : t ≠ a := h.ha.neN hn
    have ntl : tl ≠ t := ne_of_none htl hn
    have fr : Fr [a, tl] H H2 := fun b o n hb => by
      rw [k2 b (fun z => n (by rw [z]; exact List.mem_cons_self)) (fun z => n (by rw [z]; exact List.mem_cons_of_mem _ List.mem_cons_self)) (ne_of_none hb hn)]
      exact hb
    have told : Told H2 ks (pr ++ [(max p q, min p q)]) (ws ++ [.ref t]) := (hts.keep fun b x hb => fr _ _ (h.tupS hb (fun _ z => by cases z) (fun _ _ _ z => by cases z)) hb).snoc (by
      rw [show (((max p q : Nat) : Int)) = max (p : Int) q by omega, show (((min p q : Nat) : Int)) = min (p : Int) q by omega]
      exact ht2)
    have st := h.keep fr (pr' := pr ++ [(max p q, min p q)]) (by rw [List.length_append]; exact ha2) htl2 told
    have g := fin H2 fr st
    by_cases hlt : q < p
    · rw [if_pos hlt] at g
      rw [if_pos (by omega), show max p q = p by omega, show min p q = q by omega]
      exact g
    · rw [if_neg hlt] at g
      rw [if_neg (by omega), show max p q = q by omega, show min p q = p by omega]
      exact g
end
theorem ahead_ord {ks : List Int} {n : Nat} {os : List Nat} (o : OrdN ks 0 n os) {p q : Nat} (hp : p < n) (hq : q < n) (hpq : p ≠ q) : (if q < p then decide (kat ks p < kat ks q) else !decide (kat ks q < kat ks p)) = decide (Pap.at' (Pap.bk os) p < Pap.at' (Pap.bk os) q) := by
  have h := ord_lx o hp hq hpq
  unfold lx at h
  by_cases hlt : q < p
  · rw [if_pos hlt, decide_eq_decide, h]; omega
  · rw [if_neg hlt, ← decide_not, decide_eq_decide, h]; omega
def spAns27 (CA CR : Addr) : Sp := fun vs H Q _ => ∃ (u : Bool) (ts : List (List Int)) (ks : List Int) (xs : List V) (ak rl ru tl cl pa tn aw : Addr) (os : List Nat) (ps : List (Nat × Nat)) (ws : List V), vs = [.ref ak, .ref pa, .ref tn, .ref aw] ∧ Sit27 CA CR H u ts ks xs ak rl ru tl cl (ps.map mm) ∧ H pa = some (.lst (NL os)) ∧ OrdN ks 0 ks.length os ∧ H tn = some (.lst (NL (Pap.bk os))) ∧ H aw = some (.lst ws) ∧ Prs H ps ws ∧ Okp ks.length ps ∧ ps.length ≤ 200 ∧ ks.length ≤ 63 ∧ ∀ H', Same H H' → Q (.bl true) H'
theorem mxN (x y : Nat) : (if (y : Int) > x then (y : Int) else x) = ((max x y : Nat) : Int) := by split <;> omega
theorem mnN (x y : Nat) : (if (y : Int) < x then (y : Int) else x) = ((min x y : Nat) : Int) := by split <;> omega
theorem chk27 {u : Bool} {ts : List (List Int)} {ks : List Int} (key : ∀ (i j : Nat) t t', ts[i]? = some t → ts[j]? = some t' → keyB [(0, u)] t t' = decide (kat ks i < kat ks j)) {x y : Nat} {t t' : List Int} (ht : ts[x]? = some t) (ht' : ts[y]? = some t') (h : lx ks x y) :
    (at0 t 0 ≠ at0 t' 0 → decide (at0 t 0 > at0 t' 0) ≠ u) ∧ (at0 t 0 = at0 t' 0 → x < y) := by
  have k1 := key _ _ _ _ ht ht'
  have k2 := key _ _ _ _ ht' ht
  unfold lx at h
  simp only [keyB] at k1 k2
  constructor
  · intro ne e
    rw [if_neg (Ne.symm ne)] at k2
    cases u
    · rw [if_neg (by decide)] at k2
      have e' := of_decide_eq_false e
      have : decide (at0 t 0 < at0 t' 0) = true := decide_eq_true (by omega)
      rw [this] at k2
      have := of_decide_eq_true k2.symm
      omega
    · rw [if_pos rfl] at k2
      have e' := of_decide_eq_true e
      have : decide (at0 t' 0 < at0 t 0) = true := decide_eq_true (by omega)
      rw [this] at k2
      have := of_decide_eq_true k2.symm
      omega
  · intro e
    rw [if_pos e] at k1
    rw [if_pos e.symm] at k2
    have := of_decide_eq_false k1.symm
    have := of_decide_eq_false k2.symm
    omega
theorem Sit27.apart {CA CR : Addr} {H H' : Hp} {u : Bool} {ts : List (List Int)} {ks : List Int} {xs : List V} {a rl ru tl cl w : Addr} {pr : List (Nat × Nat)} (h : Sit27 CA CR H u ts ks xs a rl ru tl cl pr) (e : ∀ b, b ≠ w → H' b = H b) (hw : ∃ l, H w = some (.lst l)) (n : rl ≠ w ∧ tl ≠ w ∧ cl ≠ w) : Sit27 CA CR H' u ts ks xs a rl ru tl cl pr := by
  obtain ⟨l, hl⟩ := hw
  have k : ∀ {b : Addr} {o : HO}, H b = some o → (∀ l, o ≠ .lst l) → H' b = some o := fun {b o} hb z => by
    rw [e b (fun m => by rw [m, hl] at hb; exact z _ (Option.some.inj hb).symm)]; exact hb
  have ki : ∀ {b C : Addr} {fl : List (Str × V)}, Ins H b C fl → Ins H' b C fl := fun hi => let ⟨dx, fs, h1, h2, h3⟩ := hi.ex; ⟨dx, fs, k h1 (fun _ z => by cases z), h2, h3⟩
  obtain ⟨us, h6, h7⟩ := h.htl
  obtain ⟨dr, hr⟩ := h.hru
  obtain ⟨t, a1, a2⟩ := h.hcl
  exact ⟨ki h.ha, by rw [e _ n.1]; exact h.hrl, ⟨dr, k hr (fun _ z => by cases z)⟩, ⟨t, by rw [e _ n.2.2]; exact a1, k a2 (fun _ z => by cases z)⟩, h.len, ⟨h.row.1, fun i t ht => let ⟨r, b1, b2⟩ := h.row.2 i t ht; ⟨r, b1, k b2 (fun _ z => by cases z)⟩⟩, h.two, h.key, ⟨us, by rw [e _ n.2.1]; exact h6, h7.keep fun _ _ z => k z (fun _ y => by cases y)⟩, h.ne⟩
theorem atW (n : Int) : atI [V.str "up", V.str "down"] (n % 2) = some (.str (wayS (decide (n % 2 = 0)))) := by
  have : n % 2 = 0 ∨ n % 2 = 1 := by omega
  rcases this with e | e <;> rw [e] <;> exact atI_of (by decide) rfl
section
variable {P : Program} {w : World} {K : PySem.W.Frag} {mg : Str → Option Value} {base : Heap} {C_Asker C_Rule C_KeyRule : Addr}
theorem ok_straight {f : Addr} {fd : FuncData} (F : Fun K "straight" "straight" s_straight f fd) (T : Bt K mg C_Asker C_Rule C_KeyRule)
    : FnOk P w K mg base CX0 1 f fd ["many"] (spStraight) := by
  refine F.ok sc_straight (fun vs H Q E h => ?_) (fun cdv A outer s H vs Q E hr h => ?_)
  · obtain ⟨n, rfl, hn, q⟩ := h
    rfl
  obtain ⟨n, rfl, hn, q⟩ := h
  refine ⟨_, (pss_one (ps_ret (pe_callTy (call_list_rng rfl) rfl T.b_list PyProof.Rows.boot_list (pa_cons (pe_callTy call_rng1 rfl T.b_range PyProof.Rows.boot_range (pa_cons (pv 0) pa_nil)) pa_nil)))), ?_⟩
  walk_at "rd"
  refine ⟨n, rfl, fun p hp => ⟨p, 0, n, rfl, upd_same, by omega, fun l hl => ?_⟩⟩
  exact q l _ ((same_new hp _).new hl) ((same_new hp _).free hl) (by rw [upd_same, rints_range])
theorem ok_is_number {f : Addr} {fd : FuncData} (F : Fun K "is_number" "is_number" s_is_number f fd) (T : Bt K mg C_Asker C_Rule C_KeyRule)
    : FnOk P w K mg base CX0 1 f fd ["some"] (spIsNumber) := by
  refine F.ok sc_is_number (fun vs H Q E h => ?_) (fun cdv A outer s H vs Q E hr h => ?_)
  · obtain ⟨i, rfl, q⟩ := h
    rfl
  obtain ⟨i, rfl, q⟩ := h
  refine ⟨_, (pss_one (ps_ret (pe_and (pe_callB call_isinst rfl T.b_isinstance PyProof.Rows.boot_isinstance (pa_cons (pv 0) (pa_cons (pe_bty rfl T.b_int PyProof.Rows.boot_int) pa_nil))) (pe_one (pe_not (pe_callB call_isinst rfl T.b_isinstance PyProof.Rows.boot_isinstance (pa_cons (pv 0) (pa_cons (pe_bty rfl T.b_bool PyProof.Rows.boot_bool) pa_nil)))))))), ?_⟩
  walk_at "rd"
  refine inst_int ?_
  walk_at "rd"
  refine inst_int_bl T.kit_int_bool ?_
  walk_at "rd"
  exact q
theorem ok_is_paper {f : Addr} {fd : FuncData} (F : Fun K "is_paper" "is_paper" s_is_paper f fd) (T : Bt K mg C_Asker C_Rule C_KeyRule)
    (f_straight : Fn P w K mg base CX0 "straight" 1 ["many"] (spStraight))
    (f_is_number : Fn P w K mg base CX0 "is_number" 1 ["some"] (spIsNumber))
    : FnOk P w K mg base CX0 2 f fd ["some"] (spIsPaper) := by
  refine F.ok sc_is_paper (fun vs H Q E h => ?_) (fun cdv A outer s H vs Q E hr h => ?_)
  · obtain ⟨a, p, rfl, ha, hp, hl, q⟩ := h
    rfl
  obtain ⟨a, p, rfl, ha, hp, hl, q⟩ := h
  refine ⟨_, (pss_cons (ps_if (PW.pt (pw_or (pt_not (pt_val (pe_callB call_isinst rfl T.b_isinstance PyProof.Rows.boot_isinstance (pa_cons (pv 0) (pa_cons (pe_bty rfl T.b_list PyProof.Rows.boot_list) pa_nil))))) (pw_or1 (pt_not (pt_val (pe_callB (call_all rfl) rfl T.b_all PyProof.Rows.boot_all (pa_cons (pe_comp rfl (k := 1) (js := []) (N' := ["number"]) (by rfl) (pi_list (pv 0)) (fun _ _ _ _ => pg_name (i := 0) (show (["number"] : List Str).Nodup by decide +kernel) rfl (by first | exact Or.inl rfl | exact Or.inr rfl)) (fun _ _ _ _ => pifs_nil) (fun _ _ _ _ => (pe_fn f_is_number (hr.mono (by decide)) rfl pass0 (pa_cons (pv 0) pa_nil)))) pa_nil)))))))
      (pss_one (ps_ret pe_bl)) pss_nil)
    (pss_one (ps_ret (pe_cmpR (op_eqD hr.units) (pe_callB call_sortedB rfl T.b_sorted PyProof.Rows.boot_sorted (pa_cons (pv 0) pa_nil)) (pe_fn f_straight (hr.mono (by decide)) rfl pass0 (pa_cons (pe_callB call_len_seq rfl T.b_len PySem.boot_len (pa_cons (pv 0) pa_nil)) pa_nil)) (nomark _))))), ?_⟩
  walk_at "rd"
  refine inst_lst ha ?_
  walk_at "rd"
  refine compL_gen (SqL.of ha) (by rw [NL_len]; omega) rfl (fun _ y _ => y = .bl true) (fun _ _ _ _ _ q => q) (fun i x H' hx e Q' k => ?_) fun ys H' l hyl hR e hn => ?_
  · obtain ⟨_, rfl⟩ := NL_get hx
    walk_at "rd"
    exact ⟨_, rfl, k _ _ (.refl _) rfl⟩
  have hys : ys = (List.replicate p.length true).map V.bl := by
    rw [List.map_replicate]
    refine eq_rep (by rw [hyl, NL_len]) fun j y hy => ?_
    have hj : j < ys.length := (List.getElem?_eq_some_iff.mp hy).1
    exact hR j _ y (NL_at (by rw [hyl, NL_len] at hj; exact hj)) hy
  refine ⟨l, List.replicate p.length true, rfl, SqL.of (by rw [upd_same, hys]), ?_⟩
  rw [if_neg (by rw [all_true]; simp)]
  have s1 := e.new (o := .lst ys) hn
  refine ⟨a, p.map fun x : Nat => (x : Int), rfl, SqL.of (s1 _ _ ha), by rw [List.length_map]; omega, fun l2 ms hl2 hperm hsort => ?_⟩
  obtain rfl := hp.sorted hperm hsort
  have s2 := s1.new (o := .lst (NL (List.range p.length))) hl2
  refine ⟨a, NL p, rfl, .inl (SqL.of (s2 _ _ ha)), ?_⟩
  rw [NL_len]
  refine ⟨p.length, rfl, by omega, fun l3 H3 s3 hn3 h3 => ?_⟩
  refine eqD_of Enc.int.list (by decide) (dp_ints (SqL.of (s3 _ _ upd_same))) (dp_ints (SqL.of h3)) ?_
  rw [decide_eq_true rfl]
  exact q _ (s2.trans s3)
theorem ok_check_paper {f : Addr} {fd : FuncData} (F : Fun K "check_paper" "check_paper" s_check_paper f fd) (T : Bt K mg C_Asker C_Rule C_KeyRule)
    (f_is_paper : Fn P w K mg base CX0 "is_paper" 2 ["some"] (spIsPaper))
    : FnOk P w K mg base CX0 3 f fd ["some", "many"] (spCheckPaper) := by
  refine F.ok sc_check_paper (fun vs H Q E h => ?_) (fun cdv A outer s H vs Q E hr h => ?_)
  · obtain ⟨a, p, rfl, ha, hp, hl, q⟩ := h
    rfl
  obtain ⟨a, p, rfl, ha, hp, hl, q⟩ := h
  refine ⟨_, (pss_one (ps_if (PW.pt (pw_or (pt_not (pt_val (pe_fn f_is_paper (hr.mono (by decide)) rfl pass0 (pa_cons (pv 0) pa_nil)))) (pw_or1 (pt_cmpR op_ne (pe_callB call_len_seq rfl T.b_len PySem.boot_len (pa_cons (pv 0) pa_nil)) (pv 1) (nomark _)))))
      (pss_one (ps_never)) pss_nil)), ?_⟩
  walk_at "rd"
  refine ⟨a, p, rfl, ha, hp, hl, fun H' s' => ⟨true, rfl, ?_⟩⟩
  walk_at "rd"
  refine ⟨a, NL p, rfl, .inl (SqL.of (s' _ _ ha)), ?_⟩
  rw [NL_len, if_neg (by simp)]
  exact q _ s'
theorem ok_laid {f : Addr} {fd : FuncData} (F : Fun K "laid" "laid" s_laid f fd) (T : Bt K mg C_Asker C_Rule C_KeyRule)
    (f_check_paper : Fn P w K mg base CX0 "check_paper" 3 ["some", "many"] (spCheckPaper))
    : FnOk P w K mg base CX0 4 f fd ["row", "paper"] (spLaid) := by
  refine F.ok sc_laid (fun vs H Q E h => ?_) (fun cdv A outer s H vs Q E hr h => ?_)
  · obtain ⟨r, a, xs, p, rfl, hr', ha, hp, hl, hx, q⟩ := h
    rfl
  obtain ⟨r, a, xs, p, rfl, hr', ha, hp, hl, hx, q⟩ := h
  refine ⟨_, (pss_cons (ps_expr (pe_fn f_check_paper (hr.mono (by decide)) rfl pass0 (pa_cons (pv 1) (pa_cons (pe_callB call_len_seq rfl T.b_len PySem.boot_len (pa_cons (pv 0) pa_nil)) pa_nil))))
    (pss_one (ps_ret (pe_comp rfl (k := 1) (js := [0]) (N' := ["place", "row"]) (by rfl) (pi_list (pv 1)) (fun _ _ _ _ => pg_name (i := 0) (show (["place", "row"] : List Str).Nodup by decide +kernel) rfl (by first | exact Or.inl rfl | exact Or.inr rfl)) (fun _ _ _ _ => pifs_nil) (fun _ _ _ _ => (pe_ix (ix_listK K) (pv 1) (pv 0) (fun _ _ => rfl))))))), ?_⟩
  walk_at "rd"
  refine ⟨r, xs, rfl, .inl (SqL.of hr'), ?_⟩
  rw [hx]
  refine ⟨a, p, rfl, ha, hp, hl, fun H1 s1 => ?_⟩
  refine compL_gen (rest := [some (.ref r)]) (SqL.of (s1 _ _ ha)) (by rw [NL_len]; omega) rfl (fun x y _ => ∀ i : Nat, x = .int i → y = xs.getD i .non) (fun _ _ _ _ _ q => q) (fun i x H' hx' e Q' k => ?_) fun ys H' l hyl hR e hn => ?_
  · obtain ⟨hi, rfl⟩ := NL_get hx'
    walk_at "rd"
    have hlt := hp.at_lt hi
    refine ixL_of (SqL.of (e _ _ (s1 _ _ hr'))) (atI_of (Int.natCast_nonneg _) (v := xs.getD (Pap.at' p i) .non) ?_) (k _ _ (.refl _) fun j hj => ?_)
    · rw [Int.toNat_natCast, List.getD_eq_getElem?_getD, List.getElem?_eq_getElem (by omega)]; rfl
    · have : ((Pap.at' p i : Nat) : Int) = j := by injection hj
      rw [show Pap.at' p i = j by omega]
  refine q l _ ((s1.trans e).new hn) ((s1.trans e).free hn) ?_
  rw [upd_same]
  have : ys = p.map fun i => xs.getD i .non := by
    refine List.ext_getElem? fun j => ?_
    rw [NL_len] at hyl
    by_cases hj : j < p.length
    · rw [List.getElem?_map, Pap.at_lt hj, List.getElem?_eq_getElem (by omega)]
      exact congrArg some (hR j _ _ (NL_at hj) (List.getElem?_eq_getElem (by omega)) _ rfl)
    · rw [List.getElem?_eq_none (by omega), List.getElem?_eq_none (by rw [List.length_map]; omega)]
  rw [this]
theorem ok_back {f : Addr} {fd : FuncData} (F : Fun K "back" "back" s_back f fd) (T : Bt K mg C_Asker C_Rule C_KeyRule)
    (f_check_paper : Fn P w K mg base CX0 "check_paper" 3 ["some", "many"] (spCheckPaper))
    (f_straight : Fn P w K mg base CX0 "straight" 1 ["many"] (spStraight))
    : FnOk P w K mg base CX0 4 f fd ["paper"] (spBack) := by
  refine F.ok sc_back (fun vs H Q E h => ?_) (fun cdv A outer s H vs Q E hr h => ?_)
  · obtain ⟨a, p, rfl, ha, hp, hl, q⟩ := h
    rfl
  obtain ⟨a, p, rfl, ha, hp, hl, q⟩ := h
  refine ⟨_, (pss_cons (ps_expr (pe_fn f_check_paper (hr.mono (by decide)) rfl pass0 (pa_cons (pv 0) (pa_cons (pe_callB call_len_seq rfl T.b_len PySem.boot_len (pa_cons (pv 0) pa_nil)) pa_nil))))
    (pss_cons (ps_set (i := 1) sc_back.nd rfl (by first | exact Or.inl rfl | exact Or.inr rfl) (pe_fn f_straight (hr.mono (by decide)) rfl pass0 (pa_cons (pe_callB call_len_seq rfl T.b_len PySem.boot_len (pa_cons (pv 0) pa_nil)) pa_nil)))
    (pss_cons (ps_for PassesOwn.never rfl (pi_enum rfl T.b_enumerate (pa_cons (pv 0) pa_nil)) (pg_tup (n := 2) rfl (pgs_cons (pg_name (i := 2) sc_back.nd rfl (by first | exact Or.inl rfl | exact Or.inr rfl)) (pgs_cons (pg_name (i := 3) sc_back.nd rfl (by first | exact Or.inl rfl | exact Or.inr rfl)) pgs_nil)))
      (pss_one (ps_asg (pv 2) (pg_sub (pv 1) (pv 3) set_list))))
    (pss_one (ps_ret (pv 1)))))), ?_⟩
  walk_at "rd"
  refine ⟨a, NL p, rfl, .inl (SqL.of ha), ?_⟩
  rw [NL_len]
  refine ⟨a, p, rfl, ha, hp, hl, fun H1 s1 => ⟨a, NL p, rfl, .inl (SqL.of (s1 _ _ ha)), ?_⟩⟩
  rw [NL_len]
  refine ⟨p.length, rfl, by omega, fun l H2 s2 hl2 h2 => ?_⟩
  have hal : a ≠ l := ne_of_none (s1 _ _ ha) hl2
  have hln : H l = none := s1.free hl2
  refine forE_of (SqL.of (s2 _ _ (s1 _ _ ha))) (fun i σ H' => ∃ v2 v3, σ = [some (.ref a), some (.ref l), v2, v3] ∧ H' a = some (.lst (NL p)) ∧ H' l = some (.lst (NL (Pap.spots p i))) ∧ Same H H') ⟨_, _, rfl, s2 _ _ (s1 _ _ ha), by rw [Pap.spots_zero]; exact h2, s1.trans s2⟩ (fun i σ H' _ ⟨_, _, _, h, _⟩ => SqL.of h) ?_ ?_
  · rintro i x σ H' t hx ⟨v2, v3, rfl, h3, h4, h5⟩ ht
    obtain ⟨hi, rfl⟩ := NL_get hx
    refine gTup_of (SqT.of upd_same) rfl ?_
    walk_at "rd"
    have h3' := (same_new ht (.tup [.int i, .int (Pap.at' p i)])) _ _ h3
    have h4' := (same_new ht (.tup [.int i, .int (Pap.at' p i)])) _ _ h4
    have hlt := hp.at_lt hi
    refine ⟨l, _, _, _, rfl, rfl, h4', ixN_of (by omega) (by rw [NL_len, Pap.spots_len]; omega), ?_⟩
    refine ⟨_, _, rfl, by rw [upd_ne hal]; exact h3', ?_, (h5.new ht).upd hln⟩
    rw [upd_same, Int.toNat_natCast, ← Pap.spots_step hp hi, NL, NL, List.map_set, List.map_set]
  · rintro σ H' ⟨v2, v3, rfl, h3, h4, h5⟩
    rw [NL_len, Pap.spots_end hp] at h4
    walk_at "rd"
    exact q l _ h5 hln h4
theorem ok_agrees {f : Addr} {fd : FuncData} (F : Fun K "agrees" "agrees" s_agrees f fd) (T : Bt K mg C_Asker C_Rule C_KeyRule)
    (f_back : Fn P w K mg base CX0 "back" 4 ["paper"] (spBack))
    : FnOk P w K mg base CX0 5 f fd ["paper", "answers"] (spAgrees) := by
  refine F.ok sc_agrees (fun vs H Q E h => ?_) (fun cdv A outer s H vs Q E hr h => ?_)
  · obtain ⟨a, w, p, cs, ws, rfl, ha, hp, hl, hw, hA, hcs, hcl, q⟩ := h
    rfl
  obtain ⟨a, w, p, cs, ws, rfl, ha, hp, hl, hw, hA, hcs, hcl, q⟩ := h
  refine ⟨_, (pss_cons (ps_set (i := 2) sc_agrees.nd rfl (by first | exact Or.inl rfl | exact Or.inr rfl) (pe_fn f_back (hr.mono (by decide)) rfl pass0 (pa_cons (pv 0) pa_nil)))
    (pss_one (ps_ret (pe_callB (call_all rfl) rfl T.b_all PyProof.Rows.boot_all (pa_cons (pe_comp rfl (k := 3) (js := [2]) (N' := ["later", "earlier", "said", "spots"]) (by rfl) (pi_list (pv 1)) (fun _ _ _ _ => pg_tupK (n := 3) K rfl (pgs_cons (pg_name (i := 0) (show (["later", "earlier", "said", "spots"] : List Str).Nodup by decide +kernel) rfl (by first | exact Or.inl rfl | exact Or.inr rfl)) (pgs_cons (pg_name (i := 1) (show (["later", "earlier", "said", "spots"] : List Str).Nodup by decide +kernel) rfl (by first | exact Or.inl rfl | exact Or.inr rfl)) (pgs_cons (pg_name (i := 2) (show (["later", "earlier", "said", "spots"] : List Str).Nodup by decide +kernel) rfl (by first | exact Or.inl rfl | exact Or.inr rfl)) pgs_nil)))) (fun _ _ _ _ => pifs_nil) (fun _ _ _ _ => (pe_cmpR op_eq (pe_cmpR op_lt (pe_ix (ix_listK K) (pv 3) (pv 0) (fun _ _ => rfl)) (pe_ix (ix_listK K) (pv 3) (pv 1) (fun _ _ => rfl)) (nomark _)) (pv 2) (nomark _)))) pa_nil))))), ?_⟩
  walk_at "rd"
  refine ⟨a, p, rfl, ha, hp, hl, fun sp H1 s1 hsp0 hsp => ?_⟩
  have hA1 := hA.keep s1
  refine compL_big (SqL.of (s1 _ _ hw)) (by rw [hA.len]; omega) (fun i ys σ H' => ∃ v1 v2 v3, σ = [v1, v2, v3, some (.ref sp)] ∧ Same H1 H' ∧ ys = ((cs.take i).map fun c => decide (Pap.at' (Pap.bk p) c.1 < Pap.at' (Pap.bk p) c.2.1) == c.2.2).map V.bl) ⟨_, _, _, rfl, .refl _, rfl⟩ (fun i ys σ H' hi ⟨_, _, _, _, e, e2⟩ => ⟨SqL.of (e _ _ (s1 _ _ hw)), by rw [e2, List.length_map, List.length_map, List.length_take]; omega⟩) ?_ ?_
  · rintro i ys x σ H' hi hx ⟨v1, v2, v3, rfl, s2, rfl⟩
    rw [hA.len] at hi
    obtain ⟨⟨p1, q1, b1⟩, hc⟩ : ∃ c, cs[i]? = some c := ⟨_, List.getElem?_eq_getElem hi⟩
    obtain ⟨t, ht1, ht2⟩ := hA1.get i p1 q1 b1 hc
    rw [hx] at ht1
    cases ht1
    obtain ⟨b2, b3⟩ := hcs _ (List.mem_of_getElem? hc)
    refine gTup_of (SqT.of (s2 _ _ ht2)) rfl ?_
    walk_at "rd"
    have hsp2 := s2 _ _ hsp
    refine ixL_of (SqL.of hsp2) (NL_ix (by rw [Pap.bk_len]; exact b2) rfl) (ixL_of (SqL.of hsp2) (NL_ix (by rw [Pap.bk_len]; exact b3) rfl) ?_)
    walk_at "rd"
    refine Nxt.of (by rw [hA.len]; exact hi) ⟨_, _, _, rfl, s2, ?_⟩
    rw [take_snoc hc, List.map_append, List.map_append, said_b (Pap.at' (Pap.bk p) p1) (Pap.at' (Pap.bk p) q1) b1]
    rfl
  rintro ys σ H2 ⟨v1, v2, v3, rfl, s2, rfl⟩ l hl0
  refine ⟨l, _, rfl, SqL.of upd_same, ?_⟩
  have e : ((cs.take ws.length).map fun c => decide (Pap.at' (Pap.bk p) c.1 < Pap.at' (Pap.bk p) c.2.1) == c.2.2).all id = agB p cs := by
    rw [hA.len, List.take_of_length_le (Nat.le_refl _), List.all_map]; rfl
  rw [e]
  exact q _ (s1.trans (s2.new hl0))
theorem ok_shows {f : Addr} {fd : FuncData} (F : Fun K "shows" "shows" s_shows f fd) (T : Bt K mg C_Asker C_Rule C_KeyRule)
    (f_agrees : Fn P w K mg base CX0 "agrees" 5 ["paper", "answers"] (spAgrees))
    : FnOk P w K mg base CX0 6 f fd ["paper", "answers"] (spShows) := by
  refine F.ok sc_shows (fun vs H Q E h => ?_) (fun cdv A outer s H vs Q E hr h => ?_)
  · obtain ⟨a, w, p, cs, ws, rfl, ha, hp, hl, hw, hA, hcs, hcl, q⟩ := h
    rfl
  obtain ⟨a, w, p, cs, ws, rfl, ha, hp, hl, hw, hA, hcs, hcl, q⟩ := h
  refine ⟨_, (pss_cons (ps_if (pt_not (pt_val (pe_fn f_agrees (hr.mono (by decide)) rfl pass0 (pa_cons (pv 0) (pa_cons (pv 1) pa_nil)))))
      (pss_one (ps_ret pe_bl)) pss_nil)
    (pss_cons (ps_set (i := 2) sc_shows.nd rfl (by first | exact Or.inl rfl | exact Or.inr rfl) (pe_callTy (call_dictP rfl hr.units) rfl T.b_dict PyProof.Rows.boot_dict (pa_cons (pe_comp rfl (k := 3) (js := []) (N' := ["later", "earlier", "said"]) (by rfl) (pi_list (pv 1)) (fun _ _ _ _ => pg_tupK (n := 3) K rfl (pgs_cons (pg_name (i := 0) (show (["later", "earlier", "said"] : List Str).Nodup by decide +kernel) rfl (by first | exact Or.inl rfl | exact Or.inr rfl)) (pgs_cons (pg_name (i := 1) (show (["later", "earlier", "said"] : List Str).Nodup by decide +kernel) rfl (by first | exact Or.inl rfl | exact Or.inr rfl)) (pgs_cons (pg_name (i := 2) (show (["later", "earlier", "said"] : List Str).Nodup by decide +kernel) rfl (by first | exact Or.inl rfl | exact Or.inr rfl)) pgs_nil)))) (fun _ _ _ _ => pifs_nil) (fun _ _ _ _ => (pe_tup (pa_cons (pe_tup (pa_cons (pv 0) (pa_cons (pv 1) pa_nil))) (pa_cons pe_bl pa_nil))))) pa_nil)))
    (pss_one (ps_ret (pe_callB (call_all rfl) rfl T.b_all PyProof.Rows.boot_all (pa_cons (pe_comp rfl (k := 1) (js := [2]) (N' := ["pair", "asked"]) (by rfl) (pi_zipN rfl T.b_zip (pa_cons (pv 0) (pa_cons (pe_slice sl_list (pv 0) (po_some pe_int) po_none) pa_nil))) (fun _ _ _ _ => pg_name (i := 0) (show (["pair", "asked"] : List Str).Nodup by decide +kernel) rfl (by first | exact Or.inl rfl | exact Or.inr rfl)) (fun _ _ _ _ => pifs_nil) (fun _ _ _ _ => (pe_cmp (pc_din (hu_of hr) (pe_tup (pa_cons (pe_callB (call_maxTK K rfl) rfl T.b_max PyProof.Rows.boot_max (pa_cons (pv 0) pa_nil)) (pa_cons (pe_callB (call_minTK K rfl) rfl T.b_min PyProof.Rows.boot_min (pa_cons (pv 0) pa_nil)) pa_nil))) (pv 1))))) pa_nil)))))), ?_⟩
  walk_at "rd"
  refine ⟨a, w, p, cs, ws, rfl, ha, hp, hl, hw, hA, hcs, hcl, fun H1 s1 => ⟨_, rfl, ?_⟩⟩
  by_cases hag : agB p cs = true
  · rw [if_neg (by rw [hag]; simp)]
    rw [hag, Bool.true_and] at q
    walk_at "rd"
    have hA1 := hA.keep s1
    have hw1 := s1 _ _ hw
    have ha1 := s1 _ _ ha
    refine compL_big (SqL.of hw1) (by rw [hA.len]; omega) (fun i ys σ H' => ∃ v1 v2 v3 ps, σ = [v1, v2, v3] ∧ Same H1 H' ∧ ys = ps.map (fun q : PQ => V.ref q.1) ∧ ps.map (fun q : PQ => q.2.2) = (cs.take i).map (fun c => (kP2 c.1 c.2.1, V.bl true)) ∧ ∀ q ∈ ps, H' q.1 = some (.tup [.ref q.2.1, q.2.2.2]) ∧ H' q.2.1 = some (.tup (q.2.2.1.map kV))) ⟨_, _, _, [], rfl, .refl _, rfl, rfl, fun q hq => (by cases hq)⟩ (fun i ys σ H' hi ⟨_, _, _, ps, _, e, e2, e3, _⟩ => ⟨SqL.of (e _ _ hw1), by
      rw [e2, List.length_map]
      have := congrArg List.length e3
      rw [List.length_map, List.length_map, List.length_take] at this
      omega⟩) ?_ ?_
    · rintro i ys x σ H' hi hx ⟨v1, v2, v3, ps, rfl, s2, rfl, e3, hps⟩
      rw [hA.len] at hi
      obtain ⟨⟨p1, q1, b1⟩, hc⟩ : ∃ c, cs[i]? = some c := ⟨_, List.getElem?_eq_getElem hi⟩
      obtain ⟨t, ht1, ht2⟩ := hA1.get i p1 q1 b1 hc
      rw [hx] at ht1
      cases ht1
      refine gTup_of (SqT.of (s2 _ _ ht2)) rfl ?_
      walk_at "rd"
      refine ⟨le_line (by decide), fun k1 hk1 => ?_⟩
      obtain ⟨HA, eA, sA, hkA⟩ := newH hk1 (.tup [.int p1, .int q1])
      rw [eA]; clear eA
      refine ⟨le_line (by decide), fun k2 hk2 => ?_⟩
      obtain ⟨HB, eB, sB, hkB⟩ := newH hk2 (.tup [.ref k1, .bl true])
      rw [eB]; clear eB
      refine Nxt.of (by rw [hA.len]; exact hi) ⟨_, _, _, ps ++ [(k2, k1, kP2 p1 q1, .bl true)], rfl, s2.trans (sA.trans sB), by rw [List.map_append]; rfl, by rw [List.map_append, e3, take_snoc hc, List.map_append]; rfl, fun q hq => ?_⟩
      rcases List.mem_append.mp hq with z | z
      · exact ⟨sB _ _ (sA _ _ (hps q z).1), sB _ _ (sA _ _ (hps q z).2)⟩
      · rw [List.mem_singleton.mp z]; exact ⟨hkB, sB _ _ hkA⟩
    rintro ys σ H2 ⟨v1, v2, v3, ps, rfl, s2, rfl, e3, hps⟩ l hl0
    obtain ⟨H3, e4, s3, h3⟩ := newH hl0 (.lst (ps.map fun q : PQ => V.ref q.1))
    rw [e4]; clear e4
    rw [hA.len, List.take_of_length_le (Nat.le_refl _)] at e3
    refine ⟨l, ps, rfl, h3, fun q hq => ⟨s3 _ _ (hps q hq).1, s3 _ _ (hps q hq).2⟩, fun d hd => ?_⟩
    obtain ⟨H4, e4, s4, h4⟩ := newH hd (.dT (putAll [] ps))
    rw [e4]; clear e4
    have S4 : Same H H4 := s1.trans (s2.trans (s3.trans s4))
    have ha4 := S4 _ _ ha
    have hval : ∀ x y : Nat, (valV (putAll [] ps) (kP2 (max x y) (min x y))).isSome = askB cs x y := fun x y => by
      rw [valV_putAll, valV_nil, Option.isSome_none, Bool.false_or]
      have e5 : ps.any (fun q => decide (q.2.2.1 = kP2 (max x y) (min x y))) = (ps.map fun q : PQ => q.2.2).any (fun c => decide (c.1 = kP2 (max x y) (min x y))) := by rw [List.any_map]; rfl
      rw [e5, e3, List.any_map]
      rfl
    walk_at "rd"
    refine slL_of (SqL.of ha4) fun sl hsl => ?_
    rw [cutV_tail]
    obtain ⟨H5, e5, s5, h5⟩ := newH hsl (.lst ((NL p).drop 1))
    rw [e5]; clear e5
    refine compZ_of (SqL.of (s5 _ _ ha4)) (SqL.of h5) (by rw [NL_len]; omega) (fun i ys σ H' => ∃ v1, σ = [v1, some (.ref d)] ∧ Same H5 H' ∧ ys = ((List.range i).map fun j => askB cs (Pap.at' p j) (Pap.at' p (j + 1))).map V.bl) ⟨_, rfl, .refl _, rfl⟩ (fun i ys σ H' hi ⟨_, _, e, e2⟩ => ⟨SqL.of (e _ _ (s5 _ _ ha4)), SqL.of (e _ _ h5), by rw [e2, List.length_map, List.length_map, List.length_range]; exact Nat.le_refl _⟩) ?_ ?_
    · rintro i ys x y σ H' pp hi hx hy ⟨v1, rfl, s6, rfl⟩ hpp
      rw [List.length_drop, NL_len] at hi
      obtain ⟨hi1, rfl⟩ := NL_get hx
      rw [List.getElem?_drop, Nat.add_comm] at hy
      obtain ⟨hi2, rfl⟩ := NL_get hy
      obtain ⟨H7, e7, s7, h7⟩ := newH hpp (.tup [.int (Pap.at' p i), .int (Pap.at' p (i + 1))])
      rw [e7]; clear e7
      walk_at "rd"
      generalize hxx : Pap.at' p i = x at h7 ⊢
      generalize hyy : Pap.at' p (i + 1) = y at h7 ⊢
      refine ⟨pp, [(x : Int), (y : Int)], rfl, SqT.of h7, by simp, fun M hM hM2 => ⟨pp, [(x : Int), (y : Int)], rfl, SqT.of h7, by simp, fun m hm hm2 => ⟨le_line (by decide), fun t ht => ?_⟩⟩⟩
      have a1 := hM2 x List.mem_cons_self
      have a2 := hM2 y (List.mem_cons_of_mem _ List.mem_cons_self)
      have a3 := hm2 x List.mem_cons_self
      have a4 := hm2 y (List.mem_cons_of_mem _ List.mem_cons_self)
      have eM : M = ((max x y : Nat) : Int) := by
        rcases List.mem_cons.mp hM with z | z
        · omega
        · have := List.mem_singleton.mp z; omega
      have em : m = ((min x y : Nat) : Int) := by
        rcases List.mem_cons.mp hm with z | z
        · omega
        · have := List.mem_singleton.mp z; omega
      subst eM em
      refine ⟨d, _, rfl, DGet.t (k := kP2 (max x y) (min x y)) (same_new ht _ _ _ (s7 _ _ (s6 _ _ (s5 _ _ h4)))) upd_same, ?_⟩
      rw [hval]
      refine Nxt.of (by rw [NL_len, List.length_drop, NL_len]; exact hi) ⟨_, rfl, (s6.trans s7).new ht, ?_⟩
      rw [List.range_succ, List.map_append, List.map_append]
      show _ = _ ++ [V.bl (askB cs (Pap.at' p i) (Pap.at' p (i + 1)))]
      rw [hxx, hyy]
    rintro ys σ H6 ⟨v1, rfl, s6, rfl⟩ r hr0
    refine ⟨r, _, rfl, SqL.of upd_same, ?_⟩
    rw [List.length_drop, NL_len, Nat.min_eq_right (by omega)]
    exact q _ (S4.trans (s5.trans (s6.new hr0)))
  · rw [if_pos (by simpa using hag)]
    rw [show agB p cs = false by simpa using hag, Bool.false_and] at q
    exact q _ s1
theorem ok_cell_at {f : Addr} {fd : FuncData} (F : Fun K "_law_cell_at" "_law_cell_at" s_cell_at f fd) (T : Bt K mg C_Asker C_Rule C_KeyRule)
    : FnOk P w K mg base CX0 1 f fd ["_law_script", "_law_k"] (spCell K) := by
  refine F.ok sc_cell_at (fun vs H Q E h => ?_) (fun cdv A outer s H vs Q E hr h => ?_)
  · obtain ⟨a, ns, k, rfl, hS, h0, q⟩ := h
    rfl
  obtain ⟨a, ns, k, rfl, hS, h0, q⟩ := h
  refine ⟨_, (pss_cons (ps_if (pt_cmpR op_lt (pv 1) (pe_callB call_len_seq rfl T.b_len PySem.boot_len (pa_cons (pv 0) pa_nil)) (nomark _))
      (pss_one (ps_ret (pe_ix ix_list (pv 0) (pv 1) (fun _ _ => rfl)))) pss_nil)
    (pss_one (ps_ret pe_int))), ?_⟩
  walk_at "rd"
  refine ⟨a, _, rfl, .inl hS, ?_⟩
  walk_at "rd"
  rw [List.length_map]
  unfold cellOf at q
  split
  · rename_i hk
    rw [if_pos hk] at q
    have hk' : k.toNat < ns.length := by omega
    refine ixL_of hS (atI_ints h0 (List.getElem?_eq_getElem hk')) ?_
    rw [List.getElem?_eq_getElem hk'] at q
    exact q
  · rename_i hk
    rw [if_neg hk] at q
    exact q
theorem ok_check_at {f : Addr} {fd : FuncData} (F : Fun K "check_at" "check_at" s_check_at f fd) (T : Bt K mg C_Asker C_Rule C_KeyRule)
    : FnOk P w K mg base CX0 1 f fd ["at"] (spCheck) := by
  refine F.ok sc_check_at (fun vs H Q E h => ?_) (fun cdv A outer s H vs Q E hr h => ?_)
  · obtain ⟨i, rfl, h0, h7, q⟩ := h
    rfl
  obtain ⟨i, rfl, h0, h7, q⟩ := h
  refine ⟨_, (pss_one (ps_if (PW.pt (pw_or (pt_cmpR op_lt (pv 0) pe_int (nomark _)) (pw_or1 (pt_cmpR op_gt (pv 0) (pe_gint rfl T.c_GREATEST_AT) (nomark _)))))
      (pss_one (ps_never)) pss_nil)), ?_⟩
  walk_at "rd"
  rw [if_neg (by omega), if_neg (by omega)]
  exact q
theorem ok_check_column {f : Addr} {fd : FuncData} (F : Fun K "check_column" "check_column" s_check_column f fd) (T : Bt K mg C_Asker C_Rule C_KeyRule)
    (f_check_at : Fn P w K mg base CX0 "check_at" 1 ["at"] (spCheck))
    : FnOk P w K mg base CX0 2 f fd ["at", "way"] (spCheckCol) := by
  refine F.ok sc_check_column (fun vs H Q E h => ?_) (fun cdv A outer s H vs Q E hr h => ?_)
  · obtain ⟨i, u, rfl, h0, h7, q⟩ := h
    rfl
  obtain ⟨i, u, rfl, h0, h7, q⟩ := h
  refine ⟨_, (pss_cons (ps_expr (pe_fn f_check_at (hr.mono (by decide)) rfl pass0 (pa_cons (pv 0) pa_nil)))
    (pss_one (ps_if (PW.pt (pw_and (pt_cmpR op_ne (pv 1) (pe_gstr rfl T.c_UP) (nomark _)) (pw_and1 (pt_cmpR op_ne (pv 1) (pe_gstr rfl T.c_DOWN) (nomark _)))))
      (pss_one (ps_never)) pss_nil))), ?_⟩
  walk_at "rd"
  refine ⟨i, rfl, h0, h7, ?_⟩
  walk_at "rd"
  split
  · rename_i h1
    rw [if_neg (fun h2 => (wayS_ok u).elim h1 h2)]
    exact q
  · exact q
theorem ok_KeyRule_init {f : Addr} {fd : FuncData} (F : Fun K "__init__" "KeyRule.__init__" s_KeyRule_init f fd) (T : Bt K mg C_Asker C_Rule C_KeyRule)
    (f_check_column : Fn P w K mg base CX0 "check_column" 2 ["at", "way"] (spCheckCol))
    : FnOk P w K mg base CX0 3 f fd ["self", "columns"] (spKeyInit K C_KeyRule) := by
  refine F.ok sc_KeyRule_init (fun vs H Q E h => ?_) (fun cdv A outer s H vs Q E hr h => ?_)
  · obtain ⟨p, dx, c, xs, cols, rfl, hp, hc, hd, hb, q⟩ := h
    rfl
  obtain ⟨p, dx, c, xs, cols, rfl, hp, hc, hd, hb, q⟩ := h
  refine ⟨_, (pss_cons (ps_for PassesOwn.never rfl (pi_list (pv 1)) (pg_tup (n := 2) rfl (pgs_cons (pg_name (i := 2) sc_KeyRule_init.nd rfl (by first | exact Or.inl rfl | exact Or.inr rfl)) (pgs_cons (pg_name (i := 3) sc_KeyRule_init.nd rfl (by first | exact Or.inl rfl | exact Or.inr rfl)) pgs_nil)))
      (pss_one (ps_expr (pe_fn f_check_column (hr.mono (by decide)) rfl pass0 (pa_cons (pv 2) (pa_cons (pv 3) pa_nil))))))
    (pss_one (ps_fld (pv 0) (pe_callTy call_list_of rfl T.b_list PyProof.Rows.boot_list (pa_cons (pv 1) pa_nil)) rfl))), ?_⟩
  walk_at "rd"
  refine forL_of hc (fun i σ H' => H' = H ∧ ∃ v2 v3, σ = [some (.ref p), some (.ref c), v2, v3]) ⟨rfl, _, _, rfl⟩ (fun i σ H' _ h => by rw [h.1]; exact hc) ?_ ?_
  · rintro i x σ H' hx ⟨rfl, v2, v3, rfl⟩
    obtain ⟨c', t, ec, rfl, ht⟩ := col_at hd hx
    have hb' := hb c' (List.mem_of_getElem? ec)
    refine gTup_of ht rfl ?_
    walk_at "rd"
    exact ⟨c'.1, c'.2, rfl, hb'.1, hb'.2, rfl, _, _, rfl⟩
  · rintro σ H' ⟨rfl, v2, v3, rfl⟩
    walk_at "rd"
    refine ⟨c, xs, rfl, .inl hc, fun l hl => ?_⟩
    exact setF_of (upd_fresh hl hp) T.cl_KeyRule T.n_KeyRule_columns (by decide) (q l hl)
theorem ok_KeyRule_before {f : Addr} {fd : FuncData} (F : Fun K "before" "KeyRule.before" s_KeyRule_before f fd) (T : Bt K mg C_Asker C_Rule C_KeyRule)
    : FnOk P w K mg base CX0 1 f fd ["self", "x", "y"] (spKeyBefore K C_KeyRule) := by
  refine F.ok sc_KeyRule_before (fun vs H Q E h => ?_) (fun cdv A outer s H vs Q E hr h => ?_)
  · obtain ⟨p, dx, c, x, y, xs, cols, xi, yi, rfl, hp, hc, hd, hx, hy, hb, q⟩ := h
    rfl
  obtain ⟨p, dx, c, x, y, xs, cols, xi, yi, rfl, hp, hc, hd, hx, hy, hb, q⟩ := h
  refine ⟨_, (pss_cons (ps_for PassesOwn.never rfl (pi_list (pe_fld (pv 0) rfl)) (pg_tup (n := 2) rfl (pgs_cons (pg_name (i := 3) sc_KeyRule_before.nd rfl (by first | exact Or.inl rfl | exact Or.inr rfl)) (pgs_cons (pg_name (i := 4) sc_KeyRule_before.nd rfl (by first | exact Or.inl rfl | exact Or.inr rfl)) pgs_nil)))
      (pss_one (ps_if (pt_cmpR op_ne (pe_ix ix_tup (pv 1) (pv 3) (fun _ _ => rfl)) (pe_ix ix_tup (pv 2) (pv 3) (fun _ _ => rfl)) (nomark _))
        (pss_one (ps_ret (pe_ifExp (pt_cmpR op_eq (pv 4) (pe_gstr rfl T.c_UP) (nomark _)) (pe_cmpR op_lt (pe_ix ix_tup (pv 1) (pv 3) (fun _ _ => rfl)) (pe_ix ix_tup (pv 2) (pv 3) (fun _ _ => rfl)) (nomark _)) (pe_cmpR op_gt (pe_ix ix_tup (pv 1) (pv 3) (fun _ _ => rfl)) (pe_ix ix_tup (pv 2) (pv 3) (fun _ _ => rfl)) (nomark _))))) pss_nil)))
    (pss_one (ps_ret pe_bl))), ?_⟩
  walk_at "rd"
  refine getF_of hp T.cl_KeyRule T.n_KeyRule_columns putF1 ?_
  refine forL_of hc (fun i σ H' => H' = H ∧ keyB cols xi yi = keyB (cols.drop i) xi yi ∧ ∃ v3 v4, σ = [some (.ref p), some (.ref x), some (.ref y), v3, v4]) ⟨rfl, rfl, _, _, rfl⟩ (fun i σ H' _ h => by rw [h.1]; exact hc) ?_ ?_
  · rintro i v σ H' hv ⟨rfl, ek, v3, v4, rfl⟩
    obtain ⟨c', t, ec, rfl, ht⟩ := col_at hd hv
    obtain ⟨h0, hxl, hyl⟩ := hb c' (List.mem_of_getElem? ec)
    have ax := atI_ints h0 (at0_get h0 hxl)
    have ay := atI_ints h0 (at0_get h0 hyl)
    rw [keyB_drop ec] at ek
    refine gTup_of ht rfl ?_
    walk_at "rd"
    refine ixT_of hx ax (ixT_of hy ay ?_)
    walk_at "rd"
    split
    · rename_i hne
      rw [if_neg hne] at ek
      split
      · rename_i hu
        rw [if_pos (wayS_up.mp hu)] at ek
        refine ixT_of hx ax (ixT_of hy ay ?_)
        walk_at "rd"
        rw [← ek]
        exact q
      · rename_i hu
        rw [if_neg (fun z => hu (wayS_up.mpr z))] at ek
        refine ixT_of hx ax (ixT_of hy ay ?_)
        walk_at "rd"
        rw [← ek]
        exact q
    · rename_i he
      rw [if_pos (Decidable.of_not_not he)] at ek
      exact ⟨ek, _, _, rfl⟩
  · rintro σ H' ⟨rfl, ek, v3, v4, rfl⟩
    have hl : xs.length = cols.length := by rw [hd.length, List.length_map]
    rw [hl, List.drop_length] at ek
    walk_at "rd"
    rw [show false = keyB cols xi yi by rw [ek]; rfl]
    exact q
theorem ok_Asker_init {f : Addr} {fd : FuncData} {dv : List Value} (F : FunD K "__init__" "Asker.__init__" s_Asker_init f fd dv) (T : Bt K mg C_Asker C_Rule C_KeyRule)
    : FnOk P w K mg base CX0 1 f fd ["self", "row", "rule", "most"] (spAskerInit C_Asker) := by
  refine F.ok sc_Asker_init (fun vs H Q E h => ?_) (fun cdv A outer s H vs Q E hr h => ?_)
  · obtain ⟨x, dx, r, ru, m, xs, rfl, hx, hr', q⟩ := h
    rfl
  obtain ⟨x, dx, r, ru, m, xs, rfl, hx, hr', q⟩ := h
  refine ⟨_, (pss_cons (ps_fld (pv 0) (pe_callTy call_list_of rfl T.b_list PyProof.Rows.boot_list (pa_cons (pv 1) pa_nil)) rfl)
    (pss_cons (ps_fld (pv 0) (pv 2) rfl)
    (pss_cons (ps_fld (pv 0) (pv 3) rfl)
    (pss_cons (ps_fld (pv 0) pe_int rfl)
    (pss_one (ps_fld (pv 0) (pe_lst pa_nil) rfl)))))), ?_⟩
  walk_at "rd"
  refine ⟨r, xs, rfl, .inl (SqL.of hr'), fun rl hrl => ?_⟩
  have hxr : x ≠ rl := ne_of_none hx hrl
  obtain ⟨H1, e1, s1, h1⟩ := newH hrl (.lst xs)
  rw [e1]; clear e1
  refine setX (s1 _ _ hx) T.cl_Asker T.n_Asker_row (by decide) fun H2 x2 k2 => ?_
  walk_at "rd"
  refine setX x2 T.cl_Asker T.n_Asker_rule putL1 fun H3 x3 k3 => ?_
  walk_at "rd"
  refine setX x3 T.cl_Asker T.n_Asker_most putL2 fun H4 x4 k4 => ?_
  walk_at "rd"
  refine setX x4 T.cl_Asker T.n_Asker_asked putL3 fun H5 x5 k5 => ?_
  walk_at "rd"
  refine ⟨le_line (by decide), fun tl htl => ?_⟩
  obtain ⟨H6, e6, s6, h6⟩ := newH htl (.lst [])
  rw [e6]; clear e6
  have hxt : x ≠ tl := ne_of_none x5 htl
  refine setX (s6 _ _ x5) T.cl_Asker T.n_Asker_told putL4 fun H7 x7 k7 => ?_
  have up : ∀ b o, b ≠ x → H b = some o → H5 b = some o := fun b o n e => by rw [k5 b n, k4 b n, k3 b n, k2 b n]; exact s1 b o e
  have h5 : H5 rl = some (.lst xs) := by rw [k5 rl (Ne.symm hxr), k4 rl (Ne.symm hxr), k3 rl (Ne.symm hxr), k2 rl (Ne.symm hxr)]; exact h1
  refine q rl tl H7 (fun b o n e => by rw [k7 b n]; exact s6 _ _ (up b o n e)) hrl ?_ (ne_of_none h5 htl) ((Ins.of x7 (Nat.le_trans putL5 (by decide))).congr fA_canon) (by rw [k7 rl (Ne.symm hxr)]; exact s6 _ _ h5) (by rw [k7 tl (Ne.symm hxt)]; exact h6)
  cases e : H tl with
  | none => rfl
  | some o => rw [up tl o (Ne.symm hxt) e] at htl; cases htl
theorem ok_Asker_answers {f : Addr} {fd : FuncData} (F : Fun K "answers" "Asker.answers" s_Asker_answers f fd) (T : Bt K mg C_Asker C_Rule C_KeyRule)
    : FnOk P w K mg base CX0 1 f fd ["self"] (spAnswers C_Asker) := by
  refine F.ok sc_Asker_answers (fun vs H Q E h => ?_) (fun cdv A outer s H vs Q E hr h => ?_)
  · obtain ⟨a, rl, ru, tl, m, n, ts, rfl, ha, htl, q⟩ := h
    rfl
  obtain ⟨a, rl, ru, tl, m, n, ts, rfl, ha, htl, q⟩ := h
  refine ⟨_, (pss_one (ps_ret (pe_callTy call_list_of rfl T.b_list PyProof.Rows.boot_list (pa_cons (pe_fld (pv 0) rfl) pa_nil)))), ?_⟩
  walk_at "rd"
  refine ha.get T.cl_Asker T.n_Asker_told (by walk_at "lk") ⟨tl, ts, rfl, .inl (SqL.of htl), fun l hl => ?_⟩
  exact q l _ (same_new hl _) hl upd_same
theorem ok_Asker_ahead {f : Addr} {fd : FuncData} (F : Fun K "ahead" "Asker.ahead" s_Asker_ahead f fd) (T : Bt K mg C_Asker C_Rule C_KeyRule)
    (t_KeyRule_before : Mt P w K mg base CX0 C_KeyRule "before" 1 ["self", "x", "y"] (spKeyBefore K C_KeyRule))
    : FnOk P w K mg base CX0 2 f fd ["self", "p", "q"] (spAheadK C_Asker C_KeyRule (spKeyBefore K C_KeyRule)) := by
  refine F.ok sc_Asker_ahead (fun vs H Q E h => ?_) (fun cdv A outer s H vs Q E hr h => ?_)
  · obtain ⟨a, rl, ru, tl, n, p, q, xs, ts, x, y, b, rfl, ha, hrl, hpq, hp0, hq0, hx, hy, hru, hsb, htl, hts, hq⟩ := h
    rfl
  obtain ⟨a, rl, ru, tl, n, p, q, xs, ts, x, y, b, rfl, ha, hrl, hpq, hp0, hq0, hx, hy, hru, hsb, htl, hts, hq⟩ := h
  refine ⟨_, (pss_cons (ps_if (PW.pt (pw_and (pt_cmpR op_notN (pe_fld (pv 0) rfl) pe_non (nomark _)) (pw_and1 (pt_cmpR op_ge (pe_fld (pv 0) rfl) (pe_fld (pv 0) rfl) (nomark _)))))
      (pss_one (ps_never)) pss_nil)
    (pss_cons (ps_set (i := 3) sc_Asker_ahead.nd rfl (by first | exact Or.inl rfl | exact Or.inr rfl) (pe_callB (call_max2 rfl) rfl T.b_max PyProof.Rows.boot_max (pa_cons (pv 1) (pa_cons (pv 2) pa_nil))))
    (pss_cons (ps_set (i := 4) sc_Asker_ahead.nd rfl (by first | exact Or.inl rfl | exact Or.inr rfl) (pe_callB (call_min2 rfl) rfl T.b_min PyProof.Rows.boot_min (pa_cons (pv 1) (pa_cons (pv 2) pa_nil))))
    (pss_cons (ps_set (i := 5) sc_Asker_ahead.nd rfl (by first | exact Or.inl rfl | exact Or.inr rfl) (pe_mt t_KeyRule_before (hr.mono (by decide)) pass0 (pe_fld (pv 0) rfl) (pa_cons (pe_ix ix_list (pe_fld (pv 0) rfl) (pv 3) (fun _ _ => rfl)) (pa_cons (pe_ix ix_list (pe_fld (pv 0) rfl) (pv 4) (fun _ _ => rfl)) pa_nil))))
    (pss_cons (ps_fldaug (pv 0) pe_int in_add)
    (pss_cons (ps_expr (pe_bm PySem.F.plainAttrs_list PySem.F.slot_list_append PySem.F.type_list_append mt_append (pe_fld (pv 0) rfl) (pa_cons (pe_tup (pa_cons (pv 3) (pa_cons (pv 4) (pa_cons (pv 5) pa_nil)))) pa_nil)))
    (pss_one (ps_ret (pe_ifExp (pt_cmpR op_eq (pv 1) (pv 3) (nomark _)) (pv 5) (pe_not (pv 5))))))))))), ?_⟩
  walk_at "rd"
  obtain ⟨dr, fr', hru, hlb⟩ := hru
  refine ha.get T.cl_Asker T.n_Asker_most (by walk_at "lk") ?_
  rw [if_neg (by simp)]
  refine ⟨p, q, rfl, p, q, rfl, ha.get T.cl_Asker T.n_Asker_rule (by walk_at "lk") ⟨ru, dr, fr', rfl, hru, hlb, ?_⟩⟩
  rw [mx_eq, mn_eq]
  refine ha.get T.cl_Asker T.n_Asker_row (by walk_at "lk") (ixL_of (SqL.of hrl) (atI_of (by omega) hx) ?_)
  refine ha.get T.cl_Asker T.n_Asker_row (by walk_at "lk") (ixL_of (SqL.of hrl) (atI_of (by omega) hy) ?_)
  refine hsb _ ?_
  have ha1 := ha
  have nta : tl ≠ a := ha1.ne htl fun _ _ _ z => by cases z
  refine ha1.aug T.cl_Asker T.n_Asker_asked (by walk_at "lk") fun H2 ha2 k2 => ?_
  have ha2' := ha2.congr fA_asked
  have htl2 : H2 tl = some (.lst ts) := by rw [k2 tl nta]; exact htl
  walk_at "rd"
  refine ha2'.get T.cl_Asker T.n_Asker_told (by walk_at "lk") ?_
  walk_at "rd"
  refine ⟨.inl ⟨rfl, _, SqL.of htl2⟩, le_line (by decide), fun t ht => ?_⟩
  have ntt : t ≠ tl := fun z => by rw [z, htl2] at ht; cases ht
  have nat' : t ≠ a := ha2'.neN ht
  refine ⟨tl, ts, _, rfl, rfl, same_new ht _ _ _ htl2, smallL (by omega), ?_⟩
  have fin := hq t (upd (upd H2 t (.tup [.int (max p q), .int (min p q), .bl b])) tl (.lst (ts ++ [.ref t]))) (by rw [← k2 t nat']; exact ht) (ha2'.keep (by rw [upd_ne (Ne.symm nta), upd_ne (Ne.symm nat')])) upd_same (by rw [upd_ne ntt, upd_same]) (fun c h1 h2 h3 => by rw [upd_ne h2, upd_ne h3, k2 c h1])
  by_cases hlt : q < p
  · rw [if_pos hlt] at fin
    show (if _ then _ else _)
    rw [if_pos (by omega)]
    exact fin
  · rw [if_neg hlt] at fin
    show (if _ then _ else _)
    rw [if_neg (by omega)]
    exact fin
theorem ok_told_pairs {f : Addr} {fd : FuncData} (F : Fun K "told_pairs" "told_pairs" s_told_pairs f fd) (T : Bt K mg C_Asker C_Rule C_KeyRule)
    (t_KeyRule_before : Mt P w K mg base CX0 C_KeyRule "before" 1 ["self", "x", "y"] (spKeyBefore K C_KeyRule))
    : FnOk P w K mg base CX0 2 f fd ["row", "rule"] (spTold27 K C_KeyRule) := by
  refine F.ok sc_told_pairs (fun vs H Q E h => ?_) (fun cdv A outer s H vs Q E hr h => ?_)
  · obtain ⟨rw, ru, xs, ts, cols, rfl, hrw, hts, h3, hcols, hru, hn, q⟩ := h
    rfl
  obtain ⟨rw, ru, xs, ts, cols, rfl, hrw, hts, h3, hcols, hru, hn, q⟩ := h
  refine ⟨_, (pss_one (ps_ret (pe_comp rfl (k := 1) (js := [0, 1]) (N' := ["x", "row", "rule"]) (by rfl) (pi_list (pv 0)) (fun _ _ _ _ => pg_name (i := 0) (show (["x", "row", "rule"] : List Str).Nodup by decide +kernel) rfl (by first | exact Or.inl rfl | exact Or.inr rfl)) (fun _ _ _ _ => pifs_nil) (fun _ _ _ _ => (pe_comp rfl (k := 1) (js := [2, 0]) (N' := ["y", "rule", "x"]) (by rfl) (pi_listK K (pv 1)) (fun _ _ _ _ => pg_name (i := 0) (show (["y", "rule", "x"] : List Str).Nodup by decide +kernel) rfl (by first | exact Or.inl rfl | exact Or.inr rfl)) (fun _ _ _ _ => pifs_nil) (fun _ _ _ _ => (pe_mt t_KeyRule_before (hr.mono (by decide)) pass0 (pv 1) (pa_cons (pv 2) (pa_cons (pv 0) pa_nil))))))))), ?_⟩
  walk_at "rd"
  have hxl : xs.length = ts.length := hts.1
  refine compL_of hrw (by omega) (fun i ys σ H' => ∃ v, σ = [v, some (.ref rw), some (.ref ru)] ∧ Same H H' ∧ ys.length = i ∧ ∀ (p : Nat) t, p < i → ts[p]? = some t → ∃ r, ys[p]? = some (V.ref r) ∧ H' r = some (.lst (ts.map fun y => V.bl (keyB cols t y)))) ⟨_, rfl, .refl _, rfl, fun p t z => by omega⟩ (fun i ys σ H' _ h => by obtain ⟨_, _, e, e2, _⟩ := h; exact ⟨e.seq hrw, Nat.le_of_eq e2⟩) ?_ ?_
  · rintro i ys x σ H' hi hx ⟨v, rfl, sA, hyl, hall⟩
    obtain ⟨t, ax, ht, rfl, hax⟩ := (hts.keep sA).at hx
    have ht3 := h3 t (List.mem_of_getElem? ht)
    walk_at "rd"
    refine compL_of (sA.seq hrw) (by omega) (fun j zs σ H2 => ∃ v, σ = [v, some (.ref ru), some (.ref ax)] ∧ H2 = H' ∧ zs = (ts.take j).map fun y => V.bl (keyB cols t y)) ⟨_, rfl, rfl, rfl⟩ (fun j zs σ H2 _ h => by obtain ⟨_, _, e, e2⟩ := h; rw [e, e2, List.length_map, List.length_take]; exact ⟨sA.seq hrw, by omega⟩) ?_ ?_
    · rintro j zs y σ H2 hj hy ⟨v, rfl, rfl, rfl⟩
      obtain ⟨u, ay, hu, rfl, hay⟩ := (hts.keep sA).at hy
      have hu3 := h3 u (List.mem_of_getElem? hu)
      have fin : Nxt (fun j zs σ H3 => ∃ v, σ = [v, some (.ref ru), some (.ref ax)] ∧ H3 = H2 ∧ zs = (ts.take j).map fun y => V.bl (keyB cols t y)) xs.length j ((ts.take j).map (fun y => V.bl (keyB cols t y)) ++ [.bl (keyB cols t u)]) [some (.ref ay), some (.ref ru), some (.ref ax)] H2 := by
        refine Nxt.of hj ⟨_, rfl, rfl, ?_⟩
        rw [List.take_add_one, hu, List.map_append]
        rfl
      walk_at "rd"
      obtain ⟨dx, c, cs, g1, g2, g3⟩ := hru.mono sA
      exact ⟨ru, dx, _, rfl, g1, by rw [lookup_putF, if_neg (by decide +kernel)]; rfl, ru, dx, c, ax, ay, cs, cols, t, u, rfl, g1, g2, g3, hax, hay, fun k hk => by have := hcols k hk; omega, fin⟩
    rintro zs σ H2 ⟨v, rfl, rfl, rfl⟩ r hr'
    rw [show ts.take xs.length = ts from List.take_of_length_le (by omega)]
    refine Nxt.of hi ⟨_, rfl, sA.new hr', by rw [List.length_append, hyl]; rfl, fun p t' hp ht' => ?_⟩
    by_cases z : p < i
    · obtain ⟨r', a1, a2⟩ := hall p t' z ht'
      exact ⟨r', by rw [List.getElem?_append_left (by omega)]; exact a1, same_new hr' _ _ _ a2⟩
    · have : p = i := by omega
      subst this
      rw [ht] at ht'; cases ht'
      exact ⟨r, by rw [← hyl, List.getElem?_append_right (Nat.le_refl _), Nat.sub_self]; rfl, upd_same⟩
  rintro ys σ H' ⟨v, rfl, sA, hyl, hall⟩ l hl
  refine q l ys _ (sA.new hl) (sA.free hl) upd_same (by omega) fun p t ht => ?_
  obtain ⟨r, a1, a2⟩ := hall p t (by have := (List.getElem?_eq_some_iff.mp ht).1; omega) ht
  exact ⟨r, a1, same_new hl _ _ _ a2⟩
theorem ok_counted_ranks {f : Addr} {fd : FuncData} (F : Fun K "counted_ranks" "counted_ranks" s_counted_ranks f fd) (T : Bt K mg C_Asker C_Rule C_KeyRule)
    (f_straight : Fn P w K mg base CX0 "straight" 1 ["many"] (spStraight))
    : FnOk P w K mg base CX0 2 f fd ["pairs"] (spCounted) := by
  refine F.ok sc_counted_ranks (fun vs H Q E h => ?_) (fun cdv A outer s H vs Q E hr h => ?_)
  · obtain ⟨l, ts, cols, rfl, ⟨rs, hl, hrl, hm⟩, hn, q⟩ := h
    rfl
  obtain ⟨l, ts, cols, rfl, ⟨rs, hl, hrl, hm⟩, hn, q⟩ := h
  refine ⟨_, (pss_cons (ps_set (i := 1) sc_counted_ranks.nd rfl (by first | exact Or.inl rfl | exact Or.inr rfl) (pe_fn f_straight (hr.mono (by decide)) rfl pass0 (pa_cons (pe_callB call_len_seq rfl T.b_len PySem.boot_len (pa_cons (pv 0) pa_nil)) pa_nil)))
    (pss_one (ps_ret (pe_comp rfl (k := 1) (js := [1, 0]) (N' := ["q", "places", "pairs"]) (by rfl) (pi_list (pv 1)) (fun _ _ _ _ => pg_name (i := 0) (show (["q", "places", "pairs"] : List Str).Nodup by decide +kernel) rfl (by first | exact Or.inl rfl | exact Or.inr rfl)) (fun _ _ _ _ => pifs_nil) (fun _ _ _ _ => (pe_callB (call_len_seqK K) rfl T.b_len PySem.boot_len (pa_cons (pe_comp rfl (k := 1) (js := [2, 0]) (N' := ["p", "pairs", "q"]) (by rfl) (pi_listK K (pv 1)) (fun _ _ _ _ => pg_name (i := 0) (show (["p", "pairs", "q"] : List Str).Nodup by decide +kernel) rfl (by first | exact Or.inl rfl | exact Or.inr rfl)) (fun _ _ _ _ => (pifs_one (pt_val (pe_ix (ix_listK K) (pe_ix (ix_listK K) (pv 1) (pv 0) (fun _ _ => rfl)) (pv 2) (fun _ _ => rfl))))) (fun _ _ _ _ => (pv 0))) pa_nil))))))), ?_⟩
  walk_at "rd"
  refine ⟨l, _, rfl, .inl (SqL.of hl), ?_⟩
  rw [hrl]
  refine ⟨ts.length, rfl, by omega, fun pl H1 s1 npl hpl => ?_⟩
  dsimp only
  rw [← rints_range] at hpl
  have hl1 := s1 _ _ hl
  have hri : ∀ (i : Nat) x, ((rints 0 (ts.length : Int)).map V.int)[i]? = some x → i < ts.length ∧ x = .int i := fun i x hx => by
    have h1 := (List.getElem?_eq_some_iff.mp hx).1
    rw [List.length_map, rints_length] at h1
    rw [List.getElem?_map, rints_get h1] at hx
    cases hx
    exact ⟨by omega, by rw [Int.zero_add]⟩
  have hrn : ((rints 0 (ts.length : Int)).map V.int).length = ts.length := by rw [List.length_map, rints_length]; omega
  refine compL_of (SqL.of hpl) (by rw [hrn]; omega) (fun i ys σ H' => ∃ v, σ = [v, some (.ref pl), some (.ref l)] ∧ Same H1 H' ∧ ys = ((rkL cols ts).take i).map fun (n : Nat) => V.int n) ⟨_, rfl, .refl _, rfl⟩ (fun i ys σ H' _ h => by obtain ⟨_, _, e, e2⟩ := h; rw [e2, List.length_map, List.length_take]; exact ⟨SqL.of (e _ _ hpl), by omega⟩) ?_ ?_
  · rintro i ys x σ H' hi hx ⟨v, rfl, sA, rfl⟩
    obtain ⟨hit, rfl⟩ := hri i x hx
    obtain ⟨u, hu⟩ : ∃ u, ts[i]? = some u := ⟨_, List.getElem?_eq_getElem hit⟩
    walk_at "rd"
    refine compL_of (SqL.of (sA _ _ hpl)) (by rw [hrn]; omega) (fun j zs σ H2 => ∃ v, σ = [v, some (.ref l), some (.int i)] ∧ H2 = H' ∧ zs.length = (ts.take j).countP fun x => keyB cols x u) ⟨_, rfl, rfl, rfl⟩ (fun j zs σ H2 hj h => by obtain ⟨_, _, e, e2⟩ := h; rw [e, e2]; exact ⟨SqL.of (sA _ _ hpl), Nat.le_trans List.countP_le_length (by rw [List.length_take]; omega)⟩) ?_ ?_
    · rintro j zs y σ H2 hj hy ⟨v, rfl, rfl, hz⟩
      obtain ⟨hjt, rfl⟩ := hri j y hy
      obtain ⟨t, ht⟩ : ∃ t, ts[j]? = some t := ⟨_, List.getElem?_eq_getElem hjt⟩
      obtain ⟨r, hr1, hr2⟩ := hm j t ht
      have ec : (ts.take (j + 1)).countP (fun x => keyB cols x u) = (ts.take j).countP (fun x => keyB cols x u) + (if keyB cols t u then 1 else 0) := by
        rw [List.take_add_one, ht, List.countP_append]
        simp
      walk_at "rd"
      refine ixL_of (SqL.of (sA _ _ hl1)) (atI_of (by omega) (by rw [Int.toNat_natCast]; exact hr1)) ?_
      refine ixL_of (SqL.of (sA _ _ (s1 _ _ hr2))) (atI_of (v := .bl (keyB cols t u)) (by omega) (by rw [Int.toNat_natCast, List.getElem?_map, hu]; rfl)) ?_
      refine ⟨_, rfl, ?_⟩
      cases hk : keyB cols t u with
      | true =>
        rw [if_pos rfl]
        exact Nxt.of hj ⟨_, rfl, rfl, by rw [ec, hk, List.length_append, hz]; rfl⟩
      | false =>
        rw [if_neg Bool.false_ne_true]
        exact Nxt.of hj ⟨_, rfl, rfl, by rw [ec, hk, hz]; rfl⟩
    rintro zs σ H2 ⟨v, rfl, rfl, hz⟩ cl hcl
    rw [hrn, List.take_of_length_le (Nat.le_refl _)] at hz
    refine ⟨cl, _, rfl, .inl (SqL.of upd_same), ?_⟩
    refine Nxt.of hi ⟨_, rfl, sA.new hcl, ?_⟩
    rw [hz, List.take_add_one, show (rkL cols ts)[i]? = some (rk cols ts u) by unfold rkL; rw [List.getElem?_map, hu]; rfl, List.map_append]
    rfl
  rintro ys σ H' ⟨v, rfl, sA, rfl⟩ l2 hl2
  rw [hrn, show (rkL cols ts).take ts.length = rkL cols ts from List.take_of_length_le (by unfold rkL; rw [List.length_map]; exact Nat.le_refl _)]
  exact q l2 _ ((s1.trans sA).new hl2) ((s1.trans sA).free hl2) upd_same
theorem ok_are_ranks {f : Addr} {fd : FuncData} (F : Fun K "are_ranks" "are_ranks" s_are_ranks f fd) (T : Bt K mg C_Asker C_Rule C_KeyRule)
    : FnOk P w K mg base CX0 1 f fd ["pairs", "ranks"] (spAreRanks) := by
  refine F.ok sc_are_ranks (fun vs H Q E h => ?_) (fun cdv A outer s H vs Q E hr h => ?_)
  · obtain ⟨l, l2, ts, cols, rfl, ⟨rs, hl, hrl, hm⟩, hn, hl2, q⟩ := h
    rfl
  obtain ⟨l, l2, ts, cols, rfl, ⟨rs, hl, hrl, hm⟩, hn, hl2, q⟩ := h
  refine ⟨_, (pss_cons (ps_for PassesOwn.never rfl (pi_enum rfl T.b_enumerate (pa_cons (pv 0) pa_nil)) (pg_tup (n := 2) rfl (pgs_cons (pg_name (i := 2) sc_are_ranks.nd rfl (by first | exact Or.inl rfl | exact Or.inr rfl)) (pgs_cons (pg_name (i := 3) sc_are_ranks.nd rfl (by first | exact Or.inl rfl | exact Or.inr rfl)) pgs_nil)))
      (pss_one (ps_for PassesOwn.never rfl (pi_enum rfl T.b_enumerate (pa_cons (pv 3) pa_nil)) (pg_tup (n := 2) rfl (pgs_cons (pg_name (i := 4) sc_are_ranks.nd rfl (by first | exact Or.inl rfl | exact Or.inr rfl)) (pgs_cons (pg_name (i := 5) sc_are_ranks.nd rfl (by first | exact Or.inl rfl | exact Or.inr rfl)) pgs_nil)))
        (pss_one (ps_if (pt_cmpR op_ne (pv 5) (pe_cmpR op_lt (pe_ix ix_list (pv 1) (pv 2) (fun _ _ => rfl)) (pe_ix ix_list (pv 1) (pv 4) (fun _ _ => rfl)) (nomark _)) (nomark _))
          (pss_one (ps_ret pe_bl)) pss_nil)))))
    (pss_one (ps_ret pe_bl))), ?_⟩
  walk_at "rd"
  have hrk : ∀ (p : Nat) u, ts[p]? = some u → atI ((rkL cols ts).map fun (n : Nat) => V.int n) (p : Int) = some (.int (rk cols ts u)) := fun p u hu => atI_of (by omega) (by rw [Int.toNat_natCast, List.getElem?_map]; unfold rkL; rw [List.getElem?_map, hu]; rfl)
  refine forE_of (SqL.of hl) (fun i σ H' => ∃ v2 v3 v4 v5, σ = [some (.ref l), some (.ref l2), v2, v3, v4, v5] ∧ Same H H') ⟨_, _, _, _, rfl, .refl _⟩ (fun i σ H' _ h => by obtain ⟨_, _, _, _, _, e⟩ := h; exact SqL.of (e _ _ hl)) ?_ ?_
  · rintro i x σ H' p hx ⟨v2, v3, v4, v5, rfl, sA⟩ hp
    have hi := (List.getElem?_eq_some_iff.mp hx).1
    obtain ⟨t, ht⟩ : ∃ t, ts[i]? = some t := ⟨_, List.getElem?_eq_getElem (by omega)⟩
    obtain ⟨r, hr1, hr2⟩ := hm i t ht
    rw [hx] at hr1; cases hr1
    have htm := List.mem_of_getElem? ht
    refine gTup_of (SqT.of upd_same) rfl ?_
    have sB := sA.new hp (o := .tup [.int i, .ref r])
    generalize upd H' p (.tup [.int i, .ref r]) = H2 at sB ⊢
    walk_at "rd"
    refine forE_of (SqL.of (sB _ _ hr2)) (fun j σ H' => ∃ v4 v5, σ = [some (.ref l), some (.ref l2), some (.int i), some (.ref r), v4, v5] ∧ Same H H') ⟨_, _, rfl, sB⟩ (fun j σ H' _ h => by obtain ⟨_, _, _, e⟩ := h; exact SqL.of (e _ _ hr2)) ?_ ?_
    · rintro j y σ H3 p2 hy ⟨v4, v5, rfl, sC⟩ hp2
      rw [List.getElem?_map] at hy
      obtain ⟨u, hu, rfl⟩ := Option.map_eq_some_iff.mp hy
      refine gTup_of (SqT.of upd_same) rfl ?_
      have sD := sC.new hp2 (o := .tup [.int j, .bl (keyB cols t u)])
      generalize upd H3 p2 (.tup [.int j, .bl (keyB cols t u)]) = H4 at sD ⊢
      walk_at "rd"
      refine ixL_of (SqL.of (sD _ _ hl2)) (hrk i t ht) (ixL_of (SqL.of (sD _ _ hl2)) (hrk j u hu) ?_)
      walk_at "rd"
      have ek := key_rank cols htm u
      rw [if_neg (fun z => z (by rw [ek, decide_eq_decide]; omega))]
      exact ⟨_, _, rfl, sD⟩
    · rintro σ H3 ⟨v4, v5, rfl, sC⟩
      exact ⟨_, _, _, _, rfl, sC⟩
  rintro σ H' ⟨v2, v3, v4, v5, rfl, sA⟩
  walk_at "rd"
  exact q _ sA
theorem ok_flaw_of {f : Addr} {fd : FuncData} (F : Fun K "flaw_of" "flaw_of" s_flaw_of f fd) (T : Bt K mg C_Asker C_Rule C_KeyRule)
    : FnOk P w K mg base CX0 1 f fd ["pairs"] (spNever) := by
  refine F.ok sc_flaw_of (fun vs H Q E h => ?_) (fun cdv A outer s H vs Q E hr h => ?_)
  · obtain ⟨l, rfl, hF⟩ := h
    rfl
  obtain ⟨l, rfl, hF⟩ := h
  exact absurd hF (by decide)
theorem ok_ranked {f : Addr} {fd : FuncData} (F : Fun K "ranked" "ranked" s_ranked f fd) (T : Bt K mg C_Asker C_Rule C_KeyRule)
    (f_told_pairs : Fn P w K mg base CX0 "told_pairs" 2 ["row", "rule"] (spTold27 K C_KeyRule))
    (f_counted_ranks : Fn P w K mg base CX0 "counted_ranks" 2 ["pairs"] (spCounted))
    (f_are_ranks : Fn P w K mg base CX0 "are_ranks" 1 ["pairs", "ranks"] (spAreRanks))
    (f_flaw_of : Fn P w K mg base CX0 "flaw_of" 1 ["pairs"] (spNever))
    : FnOk P w K mg base CX0 3 f fd ["row", "rule"] (spRanked27 K C_KeyRule) := by
  refine F.ok sc_ranked (fun vs H Q E h => ?_) (fun cdv A outer s H vs Q E hr h => ?_)
  · obtain ⟨rw, ru, xs, ts, cols, rfl, hrw, hts, h3, hcols, hru, hn, q⟩ := h
    rfl
  obtain ⟨rw, ru, xs, ts, cols, rfl, hrw, hts, h3, hcols, hru, hn, q⟩ := h
  refine ⟨_, (pss_cons (ps_set (i := 2) sc_ranked.nd rfl (by first | exact Or.inl rfl | exact Or.inr rfl) (pe_fn f_told_pairs (hr.mono (by decide)) rfl pass0 (pa_cons (pv 0) (pa_cons (pv 1) pa_nil))))
    (pss_cons (ps_set (i := 3) sc_ranked.nd rfl (by first | exact Or.inl rfl | exact Or.inr rfl) (pe_fn f_counted_ranks (hr.mono (by decide)) rfl pass0 (pa_cons (pv 2) pa_nil)))
    (pss_cons (ps_if (pt_val (pe_fn f_are_ranks (hr.mono (by decide)) rfl pass0 (pa_cons (pv 2) (pa_cons (pv 3) pa_nil))))
      (pss_one (ps_ret (pe_tup (pa_cons pe_str (pa_cons (pv 3) pa_nil))))) pss_nil)
    (pss_one (ps_ret (pe_fn f_flaw_of (hr.mono (by decide)) rfl pass0 (pa_cons (pv 2) pa_nil))))))), ?_⟩
  walk_at "rd"
  refine ⟨rw, ru, xs, ts, cols, rfl, hrw, hts, h3, hcols, hru, hn, fun l rs H1 s1 nl hl hrl hm => ?_⟩
  refine ⟨l, ts, cols, rfl, ⟨rs, hl, hrl, hm⟩, hn, fun l2 H2 s2 nl2 hl2 => ?_⟩
  dsimp only
  refine ⟨l, l2, ts, cols, rfl, ⟨rs, s2 _ _ hl, hrl, fun p t ht => ?_⟩, hn, hl2, fun H3 s3 => ⟨_, rfl, ?_⟩⟩
  · obtain ⟨r, a1, a2⟩ := hm p t ht
    exact ⟨r, a1, s2 _ _ a2⟩
  rw [if_pos rfl]
  refine ⟨le_line (by decide), fun t ht => ?_⟩
  exact q t l2 _ ((s1.trans (s2.trans s3)).new ht) ((s1.trans (s2.trans s3)).free ht) (s1.free nl2) upd_same (same_new ht _ _ _ (s3 _ _ hl2))
theorem ok_reserve {f : Addr} {fd : FuncData} (F : Fun K "_law_reserve" "_law_reserve" s_reserve f fd) (T : Bt K mg C_Asker C_Rule C_KeyRule)
    : FnOk P w K mg base CX0 1 f fd ["_law_cell", "_law_k"] (spReserve) := by
  refine F.ok sc_reserve (fun vs H Q E h => ?_) (fun cdv A outer s H vs Q E hr h => ?_)
  · obtain ⟨c, k, rfl, hk0, hk1, q⟩ := h
    rfl
  obtain ⟨c, k, rfl, hk0, hk1, q⟩ := h
  refine ⟨_, (pss_cons (ps_set (i := 2) sc_reserve.nd rfl (by first | exact Or.inl rfl | exact Or.inr rfl) (pe_op op_mod (pe_op op_add (pe_op op_mod (pv 0) pe_int) (pe_op op_mul pe_int (pe_op op_add (pv 1) pe_int))) pe_int))
    (pss_one (ps_ret (pe_op op_add pe_int (pe_op op_mod (pe_op op_add (pe_op op_add (pe_op op_mul (pv 2) (pv 2)) (pe_op op_mul pe_int (pv 2))) (pe_op op_mul pe_int (pv 1))) pe_int))))), ?_⟩
  walk_at "rd"
  have c0 := Int.emod_nonneg (c % 2147483629 + 48271 * (k + 1)) (show (2147483629 : Int) ≠ 0 by decide)
  have c1 := Int.emod_lt_of_pos (c % 2147483629 + 48271 * (k + 1)) (show (0 : Int) < 2147483629 by decide)
  generalize (c % 2147483629 + 48271 * (k + 1)) % 2147483629 = z at *
  have y0 := Int.emod_nonneg (z * z + 48271 * z + 7 * k) (show (2147483629 : Int) ≠ 0 by decide)
  have y1 := Int.emod_lt_of_pos (z * z + 48271 * z + 7 * k) (show (0 : Int) < 2147483629 by decide)
  refine ⟨by decide, .inl ⟨by decide, by decide⟩, by decide, .inl ⟨by omega, by omega⟩, .inl ⟨by decide, by decide⟩, .inl ⟨by decide, by decide⟩, by decide, q _ (by omega) (by omega)⟩
theorem ok_signed {f : Addr} {fd : FuncData} (F : Fun K "_law_signed" "_law_signed" s_signed f fd) (T : Bt K mg C_Asker C_Rule C_KeyRule)
    : FnOk P w K mg base CX0 1 f fd ["_law_digit"] (spSigned27) := by
  refine F.ok sc_signed (fun vs H Q E h => ?_) (fun cdv A outer s H vs Q E hr h => ?_)
  · obtain ⟨d, rfl, q⟩ := h
    rfl
  obtain ⟨d, rfl, q⟩ := h
  refine ⟨_, (pss_one (ps_ret (pe_op op_mul (pe_op op_fdiv (pe_op op_add (pv 0) pe_int) pe_int) (pe_op op_sub pe_int (pe_op op_mul (pe_op op_mod (pv 0) pe_int) pe_int))))), ?_⟩
  walk_at "rd"
  walk_at "rd"
  exact ⟨⟨by decide, by decide⟩, by decide, .inl ⟨by omega, by omega⟩, .inr ⟨by omega, by omega⟩, q _⟩
theorem ok_pairs {f : Addr} {fd : FuncData} (F : Fun K "_law_pairs" "_law_pairs" s_pairs f fd) (T : Bt K mg C_Asker C_Rule C_KeyRule)
    : FnOk P w K mg base CX0 1 f fd ["_law_cells", "_law_many"] (spPairs27 K) := by
  refine F.ok sc_pairs (fun vs H Q E h => ?_) (fun cdv A outer s H vs Q E hr h => ?_)
  · obtain ⟨a, ns, n, rfl, hn63, hS, h63, q⟩ := h
    rfl
  obtain ⟨a, ns, n, rfl, hn63, hS, h63, q⟩ := h
  refine ⟨_, (pss_cons (ps_set (i := 2) sc_pairs.nd rfl (by first | exact Or.inl rfl | exact Or.inr rfl) (pe_lst pa_nil))
    (pss_cons (ps_for PassesOwn.never rfl (pi_list (pv 0)) (pg_name (i := 3) sc_pairs.nd rfl (by first | exact Or.inl rfl | exact Or.inr rfl))
      (pss_one (ps_if (PW.pt (pw_and (pt_cmpR op_gt (pv 1) pe_int (nomark _)) (pw_and1 (pt_cmpR op_ne (pe_op op_mod (pv 3) (pv 1)) (pe_op op_mod (pe_op op_fdiv (pv 3) (pv 1)) (pv 1)) (nomark _)))))
        (pss_one (ps_expr (pe_bm PySem.F.plainAttrs_list PySem.F.slot_list_append PySem.F.type_list_append mt_append (pv 2) (pa_cons (pe_tup (pa_cons (pe_op op_mod (pv 3) (pv 1)) (pa_cons (pe_op op_mod (pe_op op_fdiv (pv 3) (pv 1)) (pv 1)) pa_nil))) pa_nil)))) pss_nil)))
    (pss_one (ps_ret (pv 2))))), ?_⟩
  walk_at "rd"
  refine ⟨Nat.zero_le _, fun l hl => ?_⟩
  obtain ⟨H2, e2, s2, h2⟩ := newH hl (.lst [])
  rw [e2]; clear e2
  refine forL_of (s2.seq hS) (fun i σ X => ∃ (v3 : Option V) (ps : List (Nat × Nat)) (ws : List V), σ = [some (.ref a), some (.int n), some (.ref l), v3] ∧ X l = some (.lst ws) ∧ Prs X ps ws ∧ Okp n ps ∧ ps.length ≤ i ∧ Same H X) ⟨_, [], [], rfl, h2, .nil, fun c hc => (by cases hc), Nat.le_refl _, s2⟩ (fun i σ X _ ⟨_, _, _, _, _, _, _, _, e⟩ => e.seq hS) ?_ ?_
  · rintro i x σ X hx ⟨v3, ps, ws, rfl, h3, hP, hO, hlen, hs⟩
    obtain ⟨c, hc, rfl⟩ := get_ints hx
    have hi := (List.getElem?_eq_some_iff.mp hx).1
    rw [List.length_map] at hi
    walk_at "rd"
    by_cases hn1 : 1 < (n : Int)
    · rw [if_pos hn1]
      have a0 := Int.emod_nonneg c (show (n : Int) ≠ 0 by omega)
      have a1 := Int.emod_lt_of_pos c (show (0 : Int) < n by omega)
      have b0 := Int.emod_nonneg (c / n) (show (n : Int) ≠ 0 by omega)
      have b1 := Int.emod_lt_of_pos (c / n) (show (0 : Int) < n by omega)
      obtain ⟨x, ex⟩ : ∃ x : Nat, c % (n : Int) = x := ⟨(c % (n : Int)).toNat, by omega⟩
      obtain ⟨y, ey⟩ : ∃ y : Nat, c / (n : Int) % (n : Int) = y := ⟨(c / (n : Int) % (n : Int)).toNat, by omega⟩
      refine ⟨by omega, ⟨by omega, by omega⟩, by omega, ?_⟩
      rw [ex, ey]
      by_cases hxy : x = y
      · rw [if_neg (by omega)]
        exact ⟨_, ps, ws, rfl, h3, hP, hO, by omega, hs⟩
      · rw [if_pos (by omega)]
        refine ⟨.inl ⟨rfl, _, SqL.of h3⟩, by omega, ⟨by omega, by omega⟩, by omega, le_line (by decide), fun t ht => ?_⟩
        obtain ⟨H4, e4, s4, h4⟩ := newH ht (.tup [.int x, .int y])
        rw [e4]; clear e4
        have h34 := s4 _ _ h3
        refine ⟨l, _, _, rfl, rfl, h34, small1000 (by rw [hP.len]; omega), ?_⟩
        exact ⟨_, ps ++ [(x, y)], _, rfl, upd_same, ((hP.keep fun _ _ z => s4 _ _ z).app (.one h4)).upd h34, fun c hc => by
          rcases List.mem_append.mp hc with z | z
          · exact hO c z
          · rw [List.mem_singleton.mp z]; exact ⟨hxy, by omega, by omega⟩, by rw [List.length_append, List.length_singleton]; omega, (hs.trans s4).upd hl⟩
    · rw [if_neg hn1]
      exact ⟨_, ps, ws, rfl, h3, hP, hO, by omega, hs⟩
  rintro σ X ⟨v3, ps, ws, rfl, h3, hP, hO, hlen, hs⟩
  rw [List.length_map] at hlen
  walk_at "rd"
  exact q l X ps ws hs hl h3 hP hO (by omega)
theorem ok_known {f : Addr} {fd : FuncData} (F : Fun K "_law_known" "_law_known" s_known f fd) (T : Bt K mg C_Asker C_Rule C_KeyRule)
    : FnOk P w K mg base CX0 1 f fd ["_law_paper", "_law_asked"] (spKnown27) := by
  refine F.ok sc_known (fun vs H Q E h => ?_) (fun cdv A outer s H vs Q E hr h => ?_)
  · obtain ⟨a, w, p, ps, ws, rfl, ha, hw, hP, hl, q⟩ := h
    rfl
  obtain ⟨a, w, p, ps, ws, rfl, ha, hw, hP, hl, q⟩ := h
  refine ⟨_, (pss_cons (ps_for PassesOwn.never rfl (pi_range1 rfl T.b_range (pa_cons (pe_op op_sub (pe_callB call_len_seq rfl T.b_len PySem.boot_len (pa_cons (pv 0) pa_nil)) pe_int) pa_nil)) (pg_name (i := 2) sc_known.nd rfl (by first | exact Or.inl rfl | exact Or.inr rfl))
      (pss_one (ps_if (PW.pt (pw_and (pt_cmpR (op_notInD hr.units) (pe_tup (pa_cons (pe_ix ix_list (pv 0) (pv 2) (fun _ _ => rfl)) (pa_cons (pe_ix ix_list (pv 0) (pe_op op_add (pv 2) pe_int) (fun _ _ => rfl)) pa_nil))) (pv 1) rfl) (pw_and1 (pt_cmpR (op_notInD hr.units) (pe_tup (pa_cons (pe_ix ix_list (pv 0) (pe_op op_add (pv 2) pe_int) (fun _ _ => rfl)) (pa_cons (pe_ix ix_list (pv 0) (pv 2) (fun _ _ => rfl)) pa_nil))) (pv 1) rfl))))
        (pss_one (ps_ret pe_bl)) pss_nil)))
    (pss_one (ps_ret pe_bl))), ?_⟩
  walk_at "rd"
  refine ⟨a, _, rfl, .inl (SqL.of ha), ?_⟩
  rw [NL_len]
  refine forR1_of (by omega) (forR_of (fun i σ X => ∃ v2, σ = [some (.ref a), some (.ref w), v2] ∧ Same H X ∧ ∀ k, k < i → (decide ((Pap.at' p k, Pap.at' p (k + 1)) ∈ ps) || decide ((Pap.at' p (k + 1), Pap.at' p k) ∈ ps)) = true) ⟨_, rfl, .refl _, fun k hk => by omega⟩ ?_ ?_)
  · rintro i σ X hi ⟨v2, rfl, hs, hall⟩
    walk_at "rd"
    rw [Int.zero_add]
    have hi' : i + 1 < p.length := by omega
    have ha1 := hs _ _ ha
    refine ixL_of (SqL.of ha1) (NL_ix (i := i) (by omega) rfl) ?_
    rw [show (i : Int) + 1 = ((i + 1 : Nat) : Int) by omega]
    refine ixL_of (SqL.of ha1) (NL_ix (i := i + 1) hi' rfl) ?_
    generalize hxx : Pap.at' p i = x
    generalize hyy : Pap.at' p (i + 1) = y
    refine ⟨le_line (by decide), fun t1 ht1 => ?_⟩
    obtain ⟨H1, e1, s1, h1⟩ := newH ht1 (.tup [.int x, .int y])
    rw [e1]; clear e1
    have S1 := hs.trans s1
    have hP1 := hP.keep fun _ _ z => S1 _ _ z
    refine inD_of enc_pr (by decide) (a := (x, y)) (dp_tup (SqT.of h1) (.two (dp_int _) (dp_int _))) (dp_lst (SqL.of (S1 _ _ hw)) hP1.dp) ⟨_, rfl, ?_⟩
    rw [if_pos rfl]
    by_cases z1 : (x, y) ∈ ps
    · rw [if_neg (by simp [z1])]
      refine ⟨_, rfl, S1, fun k hk => ?_⟩
      by_cases e : k = i
      · rw [e, hxx, hyy, decide_eq_true z1]; rfl
      · exact hall k (by omega)
    · rw [if_pos (by simp [z1])]
      refine ixL_of (SqL.of (s1 _ _ ha1)) (NL_ix (i := i + 1) hi' rfl) (ixL_of (SqL.of (s1 _ _ ha1)) (NL_ix (i := i) (by omega) rfl) ?_)
      rw [hxx, hyy]
      refine ⟨le_line (by decide), fun t2 ht2 => ?_⟩
      obtain ⟨H2, e2, s2, h2⟩ := newH ht2 (.tup [.int y, .int x])
      rw [e2]; clear e2
      have S2 := S1.trans s2
      have hP2 := hP.keep fun _ _ z => S2 _ _ z
      refine inD_of enc_pr (by decide) (a := (y, x)) (dp_tup (SqT.of h2) (.two (dp_int _) (dp_int _))) (dp_lst (SqL.of (S2 _ _ hw)) hP2.dp) ⟨_, rfl, ?_⟩
      rw [if_pos rfl]
      by_cases z2 : (y, x) ∈ ps
      · rw [if_neg (by simp [z2])]
        refine ⟨_, rfl, S2, fun k hk => ?_⟩
        by_cases e : k = i
        · rw [e, hxx, hyy, decide_eq_true z2, Bool.or_true]
        · exact hall k (by omega)
      · rw [if_pos (by simp [z2])]
        have e : knB p ps = false := by
          unfold knB
          rw [List.all_eq_false]
          exact ⟨i, List.mem_range.mpr (by omega), by rw [hxx, hyy, decide_eq_false z1, decide_eq_false z2]; decide⟩
        rw [e] at q
        exact q _ S2
  rintro σ X ⟨v2, rfl, hs, hall⟩
  walk_at "rd"
  have e : knB p ps = true := by
    unfold knB
    rw [List.all_eq_true]
    intro k hk
    exact hall k (by have := List.mem_range.mp hk; omega)
  rw [e] at q
  exact q _ hs
theorem ok_turned {f : Addr} {fd : FuncData} (F : Fun K "_law_turned" "_law_turned" s_turned f fd) (T : Bt K mg C_Asker C_Rule C_KeyRule)
    : FnOk P w K mg base CX0 1 f fd ["_law_paper", "_law_cell"] (spTurned27) := by
  refine F.ok sc_turned (fun vs H Q E h => ?_) (fun cdv A outer s H vs Q E hr h => ?_)
  · obtain ⟨a, p, c, rfl, ha, hp, hl', q⟩ := h
    rfl
  obtain ⟨a, p, c, rfl, ha, hp, hl', q⟩ := h
  refine ⟨_, (pss_cons (ps_set (i := 2) sc_turned.nd rfl (by first | exact Or.inl rfl | exact Or.inr rfl) (pe_lst pa_nil))
    (pss_cons (ps_set (i := 3) sc_turned.nd rfl (by first | exact Or.inl rfl | exact Or.inr rfl) (pe_op op_add (pe_op op_mod (pv 1) pe_int) pe_int))
    (pss_cons (ps_for PassesOwn.never rfl (pi_range1 rfl T.b_range (pa_cons (pe_op op_sub (pe_callB call_len_seq rfl T.b_len PySem.boot_len (pa_cons (pv 0) pa_nil)) pe_int) pa_nil)) (pg_name (i := 4) sc_turned.nd rfl (by first | exact Or.inl rfl | exact Or.inr rfl))
      (pss_cons (ps_set (i := 3) sc_turned.nd rfl (by first | exact Or.inl rfl | exact Or.inr rfl) (pe_op op_mod (pe_op op_add (pe_op op_add (pe_op op_add (pe_op op_mul (pv 3) (pv 3)) (pe_op op_mul pe_int (pv 3))) (pe_op op_mul pe_int (pv 4))) pe_int) pe_int))
      (pss_cons (ps_set (i := 5) sc_turned.nd rfl (by first | exact Or.inl rfl | exact Or.inr rfl) (pe_tup (pa_cons (pe_ix ix_list (pv 0) (pv 4) (fun _ _ => rfl)) (pa_cons (pe_ix ix_list (pv 0) (pe_op op_add (pv 4) pe_int) (fun _ _ => rfl)) pa_nil))))
      (pss_cons (ps_if (pt_cmpR op_eq (pe_op op_mod (pe_op op_fdiv (pv 3) pe_int) pe_int) pe_int (nomark _))
        (pss_one (ps_set (i := 5) sc_turned.nd rfl (by first | exact Or.inl rfl | exact Or.inr rfl) (pe_tup (pa_cons (pe_ix ix_list (pv 0) (pe_op op_add (pv 4) pe_int) (fun _ _ => rfl)) (pa_cons (pe_ix ix_list (pv 0) (pv 4) (fun _ _ => rfl)) pa_nil))))) pss_nil)
      (pss_cut
      (pss_one (ps_expr (pe_bm PySem.F.plainAttrs_list PySem.F.slot_list_insert PySem.F.type_list_insert mt_insert (pv 2) (pa_cons (pe_op op_mod (pv 3) (pe_op op_add (pv 4) pe_int)) (pa_cons (pv 5) pa_nil))))))))))
    (pss_one (ps_ret (pv 2)))))), ?_⟩
  walk_at "rd"
  refine ⟨Nat.zero_le _, fun l hl => ⟨by decide, ?_⟩⟩
  have c0 := Int.emod_nonneg c (show (2147483629 : Int) ≠ 0 by decide)
  have c1 := Int.emod_lt_of_pos c (show (0 : Int) < 2147483629 by decide)
  obtain ⟨z0, ez⟩ : ∃ z0, c % 2147483629 + 48271 = z0 := ⟨_, rfl⟩
  rw [ez]
  obtain ⟨H2, e2, s2, h2⟩ := newH hl (.lst [])
  rw [e2]; clear e2
  refine ⟨a, _, rfl, .inl (SqL.of (s2 _ _ ha)), ?_⟩
  rw [NL_len]
  refine forR1_of (by omega) (forR_of (fun i σ X => ∃ (z : Int) (v4 v5 : Option V) (ps : List (Nat × Nat)) (ws : List V), σ = [some (.ref a), some (.int c), some (.ref l), some (.int z), v4, v5] ∧ (0 ≤ z ∧ z < 4000000000) ∧ X l = some (.lst ws) ∧ Prs X ps ws ∧ Okp p.length ps ∧ Nb p i ps ∧ ps.length = i ∧ Same H X) ⟨z0, _, _, [], [], rfl, by omega, h2, .nil, fun c hc => (by cases hc), fun k hk => by omega, rfl, s2⟩ ?_ ?_)
  · rintro i σ X hi ⟨z, v4, v5, ps, ws, rfl, hz, h3, hP, hO, hN, hlen, hs⟩
    walk_at "rd"
    rw [Int.zero_add]
    have y0 := Int.emod_nonneg (z * z + 48271 * z + 7 * (i : Int) + 1) (show (2147483629 : Int) ≠ 0 by decide)
    have y1 := Int.emod_lt_of_pos (z * z + 48271 * z + 7 * (i : Int) + 1) (show (0 : Int) < 2147483629 by decide)
    generalize (z * z + 48271 * z + 7 * (i : Int) + 1) % 2147483629 = z2 at *
    have hi' : i + 1 < p.length := by omega
    refine ⟨.inl ⟨by omega, by omega⟩, .inl ⟨by decide, by decide⟩, .inl ⟨by decide, by decide⟩, by decide, ?_⟩
    have ha1 := hs _ _ ha
    refine ixL_of (SqL.of ha1) (NL_ix (i := i) (by omega) rfl) ?_
    rw [show (i : Int) + 1 = ((i + 1 : Nat) : Int) by omega]
    refine ixL_of (SqL.of ha1) (NL_ix (i := i + 1) hi' rfl) ⟨le_line (by decide), fun t1 ht1 => ?_⟩
    obtain ⟨H4, e4, s4, h4⟩ := newH ht1 (.tup [.int (Pap.at' p i), .int (Pap.at' p (i + 1))])
    rw [e4]; clear e4
    apply onceX (fun u : Addr × Hp × Nat × Nat => [some (.ref a), some (.int c), some (.ref l), some (.int z2), some (.int i), some (.ref u.1)]) (fun u => u.2.1) (fun u => u.2.1 u.1 = some (.tup [.int u.2.2.1, .int u.2.2.2]) ∧ Pr1 p i u.2.2 ∧ Same X u.2.1)
    · intro tailp
      refine ⟨⟨by decide, by decide⟩, by decide, ?_⟩
      by_cases ho : z2 / 100 % 2 = 1
      · rw [if_pos ho]
        refine ixL_of (SqL.of (s4 _ _ ha1)) (NL_ix (i := i + 1) hi' rfl) (ixL_of (SqL.of (s4 _ _ ha1)) (NL_ix (i := i) (by omega) rfl) ⟨le_line (by decide), fun t2 ht2 => ?_⟩)
        exact tailp (t2, _, Pap.at' p (i + 1), Pap.at' p i) ⟨upd_same, .inr rfl, s4.new ht2⟩
      · rw [if_neg ho]
        exact tailp (t1, H4, Pap.at' p i, Pap.at' p (i + 1)) ⟨h4, .inl rfl, s4⟩
    rintro ⟨t, Y, x, y⟩ ⟨ht, hc1, hsY⟩
    dsimp only at ht hc1 hsY ⊢
    have hok := hc1.ok hp hi'
    refine cut_of ?_
    walk_at "rd"
    have h3Y := hsY _ _ h3
    have w0 := Int.emod_nonneg z2 (show ((i : Int) + 1) ≠ 0 by omega)
    have w1 := Int.emod_lt_of_pos z2 (show 0 < (i : Int) + 1 by omega)
    refine ⟨.inl ⟨rfl, _, SqL.of h3Y⟩, by omega, ?_⟩
    generalize z2 % ((i : Int) + 1) = r at w0 w1 ⊢
    have hwl := hP.len
    refine ⟨l, _, r, _, rfl, rfl, h3Y, small1000 (by omega), by omega, ?_⟩
    rw [insV_at w0 (by omega)]
    exact ⟨z2, _, _, _, _, rfl, by omega, upd_same, ((hP.keep fun _ _ z => hsY _ _ z).ins ht r.toNat).upd h3Y, hO.ins hok.1 hok.2.1 hok.2.2 _, hN.ins hc1 _, by rw [List.length_append, List.length_cons, List.length_take, List.length_drop]; omega, (hs.trans hsY).upd hl⟩
  rintro σ X ⟨z, v4, v5, ps, ws, rfl, hz, h3, hP, hO, hN, hlen, hs⟩
  rw [show ((p.length : Int) - 1).toNat = p.length - 1 by omega] at hN
  walk_at "rd"
  exact q l X ps ws hs hl h3 hP hO hN (by omega)
theorem ok_turned_of {f : Addr} {fd : FuncData} (F : Fun K "_law_turned_of" "_law_turned_of" s_turned_of f fd) (T : Bt K mg C_Asker C_Rule C_KeyRule)
    (f_reserve : Fn P w K mg base CX0 "_law_reserve" 1 ["_law_cell", "_law_k"] (spReserve))
    : FnOk P w K mg base CX0 2 f fd ["_law_paper", "_law_cell"] (spTurned27) := by
  refine F.ok sc_turned_of (fun vs H Q E h => ?_) (fun cdv A outer s H vs Q E hr h => ?_)
  · obtain ⟨a, p, c, rfl, ha, hp, hl', q⟩ := h
    rfl
  obtain ⟨a, p, c, rfl, ha, hp, hl', q⟩ := h
  refine ⟨_, (pss_cons (ps_set (i := 2) sc_turned_of.nd rfl (by first | exact Or.inl rfl | exact Or.inr rfl) (pe_lst pa_nil))
    (pss_cons (ps_set (i := 3) sc_turned_of.nd rfl (by first | exact Or.inl rfl | exact Or.inr rfl) (pv 1))
    (pss_cons (ps_for PassesOwn.never rfl (pi_range1 rfl T.b_range (pa_cons (pe_op op_sub (pe_callB call_len_seq rfl T.b_len PySem.boot_len (pa_cons (pv 0) pa_nil)) pe_int) pa_nil)) (pg_name (i := 4) sc_turned_of.nd rfl (by first | exact Or.inl rfl | exact Or.inr rfl))
      (pss_cons (ps_if (pt_cmpR op_lt (pv 1) pe_int (nomark _))
        (pss_one (ps_set (i := 1) sc_turned_of.nd rfl (by first | exact Or.inl rfl | exact Or.inr rfl) (pe_fn f_reserve (hr.mono (by decide)) rfl pass0 (pa_cons (pv 3) (pa_cons (pv 4) pa_nil))))) pss_nil)
      (pss_cut
      (pss_cons (ps_set (i := 5) sc_turned_of.nd rfl (by first | exact Or.inl rfl | exact Or.inr rfl) (pe_tup (pa_cons (pe_ix ix_list (pv 0) (pv 4) (fun _ _ => rfl)) (pa_cons (pe_ix ix_list (pv 0) (pe_op op_add (pv 4) pe_int) (fun _ _ => rfl)) pa_nil))))
      (pss_cons (ps_if (pt_cmpR op_eq (pe_op op_mod (pv 1) pe_int) pe_int (nomark _))
        (pss_one (ps_set (i := 5) sc_turned_of.nd rfl (by first | exact Or.inl rfl | exact Or.inr rfl) (pe_tup (pa_cons (pe_ix ix_list (pv 0) (pe_op op_add (pv 4) pe_int) (fun _ _ => rfl)) (pa_cons (pe_ix ix_list (pv 0) (pv 4) (fun _ _ => rfl)) pa_nil))))) pss_nil)
      (pss_cut
      (pss_cons (ps_expr (pe_bm PySem.F.plainAttrs_list PySem.F.slot_list_insert PySem.F.type_list_insert mt_insert (pv 2) (pa_cons (pe_op op_mod (pe_op op_fdiv (pv 1) pe_int) (pe_op op_add (pv 4) pe_int)) (pa_cons (pv 5) pa_nil))))
      (pss_one (ps_set (i := 1) sc_turned_of.nd rfl (by first | exact Or.inl rfl | exact Or.inr rfl) (pe_op op_fdiv (pe_op op_fdiv (pv 1) pe_int) (pe_op op_add (pv 4) pe_int)))))))))))
    (pss_one (ps_ret (pv 2)))))), ?_⟩
  walk_at "rd"
  refine ⟨Nat.zero_le _, fun l hl => ?_⟩
  obtain ⟨H2, e2, s2, h2⟩ := newH hl (.lst [])
  rw [e2]; clear e2
  refine ⟨a, _, rfl, .inl (SqL.of (s2 _ _ ha)), ?_⟩
  rw [NL_len]
  refine forR1_of (by omega) (forR_of (fun i σ X => ∃ (z : Int) (v4 v5 : Option V) (ps : List (Nat × Nat)) (ws : List V), σ = [some (.ref a), some (.int z), some (.ref l), some (.int c), v4, v5] ∧ X l = some (.lst ws) ∧ Prs X ps ws ∧ Okp p.length ps ∧ Nb p i ps ∧ ps.length = i ∧ Same H X) ⟨c, _, _, [], [], rfl, h2, .nil, fun c hc => (by cases hc), fun k hk => by omega, rfl, s2⟩ ?_ ?_)
  · rintro i σ X hi ⟨z, v4, v5, ps, ws, rfl, h3, hP, hO, hN, hlen, hs⟩
    walk_at "rd"
    rw [Int.zero_add]
    have hi' : i + 1 < p.length := by omega
    have ha1 := hs _ _ ha
    apply onceS (fun z : Int => [some (.ref a), some (.int z), some (.ref l), some (.int c), some (.int i), v5]) (fun _ => True)
    · intro tailp
      by_cases hz : z < 1
      · rw [if_pos hz]
        exact ⟨c, i, rfl, by omega, by omega, fun z2 _ _ => tailp z2 trivial⟩
      · rw [if_neg hz]
        exact tailp z trivial
    rintro z _
    refine cut_of ?_
    walk_at "rd"
    refine ixL_of (SqL.of ha1) (NL_ix (i := i) (by omega) rfl) ?_
    rw [show (i : Int) + 1 = ((i + 1 : Nat) : Int) by omega]
    refine ixL_of (SqL.of ha1) (NL_ix (i := i + 1) hi' rfl) ⟨le_line (by decide), fun t1 ht1 => ?_⟩
    obtain ⟨H4, e4, s4, h4⟩ := newH ht1 (.tup [.int (Pap.at' p i), .int (Pap.at' p (i + 1))])
    rw [e4]; clear e4
    apply onceX (fun u : Addr × Hp × Nat × Nat => [some (.ref a), some (.int z), some (.ref l), some (.int c), some (.int i), some (.ref u.1)]) (fun u => u.2.1) (fun u => u.2.1 u.1 = some (.tup [.int u.2.2.1, .int u.2.2.2]) ∧ Pr1 p i u.2.2 ∧ Same X u.2.1)
    · intro tailp
      refine ⟨by decide, ?_⟩
      by_cases ho : z % 2 = 1
      · rw [if_pos ho]
        refine ixL_of (SqL.of (s4 _ _ ha1)) (NL_ix (i := i + 1) hi' rfl) (ixL_of (SqL.of (s4 _ _ ha1)) (NL_ix (i := i) (by omega) rfl) ⟨le_line (by decide), fun t2 ht2 => ?_⟩)
        exact tailp (t2, _, Pap.at' p (i + 1), Pap.at' p i) ⟨upd_same, .inr rfl, s4.new ht2⟩
      · rw [if_neg ho]
        exact tailp (t1, H4, Pap.at' p i, Pap.at' p (i + 1)) ⟨h4, .inl rfl, s4⟩
    rintro ⟨t, Y, x, y⟩ ⟨ht, hc1, hsY⟩
    dsimp only at ht hc1 hsY ⊢
    have hok := hc1.ok hp hi'
    refine cut_of ?_
    walk_at "rd"
    have h3Y := hsY _ _ h3
    have w0 := Int.emod_nonneg (z / 2) (show ((i : Int) + 1) ≠ 0 by omega)
    have w1 := Int.emod_lt_of_pos (z / 2) (show 0 < (i : Int) + 1 by omega)
    refine ⟨.inl ⟨rfl, _, SqL.of h3Y⟩, ⟨by decide, by decide⟩, by omega, ?_⟩
    generalize z / 2 % ((i : Int) + 1) = r at w0 w1 ⊢
    have hwl := hP.len
    refine ⟨l, _, r, _, rfl, rfl, h3Y, small1000 (by omega), by omega, ?_⟩
    rw [insV_at w0 (by omega)]
    walk_at "rd"
    refine ⟨⟨by decide, by decide⟩, ⟨by omega, by omega⟩, ?_⟩
    exact ⟨_, _, _, _, _, rfl, upd_same, ((hP.keep fun _ _ z => hsY _ _ z).ins ht r.toNat).upd h3Y, hO.ins hok.1 hok.2.1 hok.2.2 _, hN.ins hc1 _, by rw [List.length_append, List.length_cons, List.length_take, List.length_drop]; omega, (hs.trans hsY).upd hl⟩
  rintro σ X ⟨z, v4, v5, ps, ws, rfl, h3, hP, hO, hN, hlen, hs⟩
  rw [show ((p.length : Int) - 1).toNat = p.length - 1 by omega] at hN
  walk_at "rd"
  exact q l X ps ws hs hl h3 hP hO hN (by omega)
theorem ok_row_of {f : Addr} {fd : FuncData} (F : Fun K "_law_row_of" "_law_row_of" s_row_of f fd) (T : Bt K mg C_Asker C_Rule C_KeyRule)
    (f_cell_at : Fn P w K mg base CX0 "_law_cell_at" 1 ["_law_script", "_law_k"] (spCell K))
    (f_signed : Fn P w K mg base CX0 "_law_signed" 1 ["_law_digit"] (spSigned27))
    : FnOk P w K mg base CX0 2 f fd ["_law_script"] (spRowOf27 K) := by
  refine F.ok sc_row_of (fun vs H Q E h => ?_) (fun cdv A outer s H vs Q E hr h => ?_)
  · obtain ⟨a, ns, rfl, hS, h63, q⟩ := h
    rfl
  obtain ⟨a, ns, rfl, hS, h63, q⟩ := h
  refine ⟨_, (pss_cons (ps_set (i := 1) sc_row_of.nd rfl (by first | exact Or.inl rfl | exact Or.inr rfl) (pe_ix ix_list (pe_lst (pa_cons pe_int (pa_cons pe_int (pa_cons (pe_op op_pow pe_int pe_int) pa_nil)))) (pe_op op_mod (pe_fn f_cell_at (hr.mono (by decide)) rfl pass0 (pa_cons (pv 0) (pa_cons pe_int pa_nil))) pe_int) (fun _ _ => rfl)))
    (pss_cons (ps_if (pt_cmpR op_eq (pe_op op_mod (pe_fn f_cell_at (hr.mono (by decide)) rfl pass0 (pa_cons (pv 0) (pa_cons pe_int pa_nil))) pe_int) pe_int (nomark _))
      (pss_one (ps_ret (pe_comp rfl (k := 1) (js := [1]) (N' := ["_law_cell", "_law_width"]) (by rfl) (pi_list (pe_slice sl_list (pv 0) (po_some pe_int) (po_some pe_int))) (fun _ _ _ _ => pg_name (i := 0) (show (["_law_cell", "_law_width"] : List Str).Nodup by decide +kernel) rfl (by first | exact Or.inl rfl | exact Or.inr rfl)) (fun _ _ _ _ => pifs_nil) (fun _ _ _ _ => (pe_tup (pa_cons (pe_fn f_signed (hr.mono (by decide)) rfl pass0 (pa_cons (pe_op op_mod (pv 0) (pv 1)) pa_nil)) (pa_cons (pe_op op_mod (pe_op op_fdivB (pv 0) (pv 1)) (pv 1)) pa_nil))))))) pss_nil)
    (pss_one (ps_ret (pe_comp rfl (k := 1) (js := [1]) (N' := ["_law_cell", "_law_width"]) (by rfl) (pi_list (pe_slice sl_list (pv 0) (po_some pe_int) (po_some pe_int))) (fun _ _ _ _ => pg_name (i := 0) (show (["_law_cell", "_law_width"] : List Str).Nodup by decide +kernel) rfl (by first | exact Or.inl rfl | exact Or.inr rfl)) (fun _ _ _ _ => pifs_nil) (fun _ _ _ _ => (pe_tup (pa_cons (pe_op op_mod (pv 0) (pv 1)) (pa_cons (pe_op op_mod (pe_op op_fdiv (pv 0) pe_int) pe_int) pa_nil))))))))), ?_⟩
  walk_at "rd"
  refine ⟨⟨by decide, by decide, by decide⟩, le_line (by decide), fun p hp => ?_⟩
  obtain ⟨H1, e1, s1, h1⟩ := newH hp (.lst [.int 2, .int 7, .int (10 ^ Int.toNat 60)])
  rw [e1]; clear e1
  refine ⟨a, ns, 0, rfl, s1.seq hS, by decide, ?_⟩
  generalize cellOf ns 0 = kd
  walk_at "rd"
  refine ⟨by decide, ?_⟩
  obtain ⟨b, hb0, hb1, hb⟩ : ∃ b : Int, 0 < b ∧ b < 2 ^ 250 ∧ atI [V.int 2, V.int 7, V.int (10 ^ Int.toNat 60)] (kd % 3) = some (V.int b) := by
    have m0 : kd % 3 = 0 ∨ kd % 3 = 1 ∨ kd % 3 = 2 := by omega
    rcases m0 with e | e | e <;> rw [e]
    · exact ⟨2, by decide, by decide, atI_of (by decide) rfl⟩
    · exact ⟨7, by decide, by decide, atI_of (by decide) rfl⟩
    · exact ⟨10 ^ Int.toNat 60, by decide, by decide, atI_of (by decide) rfl⟩
  refine ixL_of (SqL.of h1) hb ?_
  refine ⟨a, ns, 1, rfl, s1.seq hS, by decide, ?_⟩
  walk_at "rd"
  refine ⟨by decide, ?_⟩
  have hml : ((ns.drop (HT.sIx ns.length 0 (some 3))).take (HT.sIx ns.length ns.length (some 23) - HT.sIx ns.length 0 (some 3))).length ≤ 63 := by
    rw [List.length_take, List.length_drop]
    omega
  by_cases ho : cellOf ns 1 % 2 = 1
  · rw [if_pos ho]
    refine slL_of (s1.seq hS) fun sl hsl => ?_
    rw [cutV_ints]
    generalize (ns.drop (HT.sIx ns.length 0 (some 3))).take (HT.sIx ns.length ns.length (some 23) - HT.sIx ns.length 0 (some 3)) = ms at hml ⊢
    obtain ⟨H2, e2, s2, h2⟩ := newH hsl (.lst (ms.map V.int))
    rw [e2]; clear e2
    refine compL_of (SqL.of h2) (by rw [List.length_map]; omega) (fun i ys σ H' => ∃ v, σ = [v, some (.int b)] ∧ Same H2 H' ∧ ∃ ts, Rw H' ts ys ∧ (∀ t ∈ ts, t.length = 2) ∧ ts.length = i) ⟨_, rfl, .refl _, [], .nil, fun t ht => (by cases ht), rfl⟩ (fun i ys σ H' _ ⟨_, _, e, ts, e2, _, e3⟩ => ⟨SqL.of (e _ _ h2), by rw [e2.1, e3]; exact Nat.le_refl _⟩) ?_ ?_
    · rintro i ys x σ H' hi hx ⟨v, rfl, sA, ts, hR, h2', hl⟩
      obtain ⟨c, hc, rfl⟩ := get_ints hx
      walk_at "rd"
      refine ⟨hb0, _, rfl, fun z => ⟨⟨hb0, hb1⟩, hb0, le_line (by decide), fun t ht => ?_⟩⟩
      refine Nxt.of hi ⟨_, rfl, sA.new ht, ts ++ [[z, c / b % b]], (hR.keep (same_new ht _)).snoc upd_same, fun u hu => ?_, by rw [List.length_append, hl]; rfl⟩
      rcases List.mem_append.mp hu with y | y
      · exact h2' u y
      · rw [List.mem_singleton.mp y]; rfl
    rintro ys σ H' ⟨v, rfl, sA, ts, hR, h2', hl⟩ xl hxl
    rw [List.length_map] at hl
    exact q xl _ ts ys (s1.trans (s2.trans (sA.new hxl))) (s1.free (s2.free (sA.free hxl))) upd_same (hR.keep (same_new hxl _)) h2' (by omega)
  · rw [if_neg ho]
    refine slL_of (s1.seq hS) fun sl hsl => ?_
    rw [cutV_ints]
    generalize (ns.drop (HT.sIx ns.length 0 (some 3))).take (HT.sIx ns.length ns.length (some 23) - HT.sIx ns.length 0 (some 3)) = ms at hml ⊢
    obtain ⟨H2, e2, s2, h2⟩ := newH hsl (.lst (ms.map V.int))
    rw [e2]; clear e2
    refine compL_of (SqL.of h2) (by rw [List.length_map]; omega) (fun i ys σ H' => ∃ v, σ = [v, some (.int b)] ∧ Same H2 H' ∧ ∃ ts, Rw H' ts ys ∧ (∀ t ∈ ts, t.length = 2) ∧ ts.length = i) ⟨_, rfl, .refl _, [], .nil, fun t ht => (by cases ht), rfl⟩ (fun i ys σ H' _ ⟨_, _, e, ts, e2, _, e3⟩ => ⟨SqL.of (e _ _ h2), by rw [e2.1, e3]; exact Nat.le_refl _⟩) ?_ ?_
    · rintro i ys x σ H' hi hx ⟨v, rfl, sA, ts, hR, h2', hl⟩
      obtain ⟨c, hc, rfl⟩ := get_ints hx
      walk_at "rd"
      refine ⟨hb0, ⟨by decide, by decide⟩, by decide, le_line (by decide), fun t ht => ?_⟩
      refine Nxt.of hi ⟨_, rfl, sA.new ht, ts ++ [[c % b, c / 7 % 3]], (hR.keep (same_new ht _)).snoc upd_same, fun u hu => ?_, by rw [List.length_append, hl]; rfl⟩
      rcases List.mem_append.mp hu with y | y
      · exact h2' u y
      · rw [List.mem_singleton.mp y]; rfl
    rintro ys σ H' ⟨v, rfl, sA, ts, hR, h2', hl⟩ xl hxl
    rw [List.length_map] at hl
    exact q xl _ ts ys (s1.trans (s2.trans (sA.new hxl))) (s1.free (s2.free (sA.free hxl))) upd_same (hR.keep (same_new hxl _)) h2' (by omega)
theorem ok_asks {f : Addr} {fd : FuncData} (F : Fun K "_law_asks" "_law_asks" s_asks f fd) (T : Bt K mg C_Asker C_Rule C_KeyRule)
    (f_pairs : Fn P w K mg base CX0 "_law_pairs" 1 ["_law_cells", "_law_many"] (spPairs27 K))
    (f_turned : Fn P w K mg base CX0 "_law_turned" 1 ["_law_paper", "_law_cell"] (spTurned27))
    (f_cell_at : Fn P w K mg base CX0 "_law_cell_at" 1 ["_law_script", "_law_k"] (spCell K))
    (f_turned_of : Fn P w K mg base CX0 "_law_turned_of" 2 ["_law_paper", "_law_cell"] (spTurned27))
    : FnOk P w K mg base CX0 3 f fd ["_law_script", "_law_paper"] (spAsks27 K) := by
  refine F.ok sc_asks (fun vs H Q E h => ?_) (fun cdv A outer s H vs Q E hr h => ?_)
  · obtain ⟨a, b, ns, p, rfl, hS, h63, hb, hp, hl, q⟩ := h
    rfl
  obtain ⟨a, b, ns, p, rfl, hS, h63, hb, hp, hl, q⟩ := h
  refine ⟨_, (pss_cons (ps_set (i := 2) sc_asks.nd rfl (by first | exact Or.inl rfl | exact Or.inr rfl) (pe_fn f_pairs (hr.mono (by decide)) rfl pass0 (pa_cons (pe_slice sl_list (pv 0) (po_some pe_int) (po_some pe_int)) (pa_cons (pe_callB call_len_seq rfl T.b_len PySem.boot_len (pa_cons (pv 1) pa_nil)) pa_nil))))
    (pss_cons (ps_if (pt_cmpR op_eq (pe_op op_mod (pe_fn f_cell_at (hr.mono (by decide)) rfl pass0 (pa_cons (pv 0) (pa_cons pe_int pa_nil))) pe_int) pe_int (nomark _))
      (pss_one (ps_ret (pe_lst (pa_cons (pv 2) (pa_cons (pe_fn f_turned_of (hr.mono (by decide)) rfl pass0 (pa_cons (pv 1) (pa_cons (pe_op op_fdiv (pe_fn f_cell_at (hr.mono (by decide)) rfl pass0 (pa_cons (pv 0) (pa_cons pe_int pa_nil))) pe_int) pa_nil))) pa_nil))))) pss_nil)
    (pss_one (ps_ret (pe_lst (pa_cons (pv 2) (pa_cons (pe_fn f_turned (hr.mono (by decide)) rfl pass0 (pa_cons (pv 1) (pa_cons (pe_fn f_cell_at (hr.mono (by decide)) rfl pass0 (pa_cons (pv 0) (pa_cons pe_int pa_nil))) pa_nil))) pa_nil))))))), ?_⟩
  walk_at "rd"
  refine slL_of hS fun sl hsl => ?_
  rw [cutV_ints]
  have hml : ((ns.drop (HT.sIx ns.length 0 (some 23))).take (HT.sIx ns.length ns.length (some 43) - HT.sIx ns.length 0 (some 23))).length ≤ 63 := by
    rw [List.length_take, List.length_drop]
    omega
  generalize (ns.drop (HT.sIx ns.length 0 (some 23))).take (HT.sIx ns.length ns.length (some 43) - HT.sIx ns.length 0 (some 23)) = ms at hml ⊢
  obtain ⟨H2, e2, s2, h2⟩ := newH hsl (.lst (ms.map V.int))
  rw [e2]; clear e2
  refine ⟨b, _, rfl, .inl (SqL.of (s2 _ _ hb)), ?_⟩
  rw [NL_len]
  refine ⟨sl, ms, p.length, rfl, hl, SqL.of h2, hml, fun l1 H3 ps ws s3 hl10 hl1 hP hO hpl => ?_⟩
  have S3 := s2.trans s3
  have hS3 := S3.seq hS
  walk_at "rd"
  refine ⟨a, ns, 1, rfl, hS3, by decide, ?_⟩
  walk_at "rd"
  refine ⟨by decide, ?_⟩
  have hb3 := S3 _ _ hb
  by_cases ho : cellOf ns 1 % 2 = 1
  · rw [if_pos ho]
    refine ⟨a, ns, 1, rfl, hS3, by decide, ?_⟩
    walk_at "rd"
    refine ⟨⟨by decide, by decide⟩, b, p, _, rfl, hb3, hp, hl, fun l2 H4 qs us s4 hl20 hl2 hP2 hO2 hN2 hql => ⟨le_line (by decide), fun l0 hl0 => ?_⟩⟩
    have sN := s4.new (o := .lst [.ref l1, .ref l2]) hl0
    exact q l0 l1 l2 _ ps ws qs us (S3.trans sN) (S3.free (s4.free hl0)) (s2.free hl10) (S3.free hl20) upd_same (sN _ _ hl1) (same_new hl0 _ _ _ hl2) (hP.keep fun _ _ z => sN _ _ z) (hP2.keep fun _ _ z => same_new hl0 _ _ _ z) hO hO2 hN2 hpl hql
  · rw [if_neg ho]
    refine ⟨a, ns, 1, rfl, hS3, by decide, ?_⟩
    refine ⟨b, p, _, rfl, hb3, hp, hl, fun l2 H4 qs us s4 hl20 hl2 hP2 hO2 hN2 hql => ⟨le_line (by decide), fun l0 hl0 => ?_⟩⟩
    have sN := s4.new (o := .lst [.ref l1, .ref l2]) hl0
    exact q l0 l1 l2 _ ps ws qs us (S3.trans sN) (S3.free (s4.free hl0)) (s2.free hl10) (S3.free hl20) upd_same (sN _ _ hl1) (same_new hl0 _ _ _ hl2) (hP.keep fun _ _ z => sN _ _ z) (hP2.keep fun _ _ z => same_new hl0 _ _ _ z) hO hO2 hN2 hpl hql
theorem ok_answers {f : Addr} {fd : FuncData} (F : Fun K "_law_answers" "_law_answers" s_answers f fd) (T : Bt K mg C_Asker C_Rule C_KeyRule)
    (f_shows : Fn P w K mg base CX0 "shows" 6 ["paper", "answers"] (spShows))
    (f_agrees : Fn P w K mg base CX0 "agrees" 5 ["paper", "answers"] (spAgrees))
    (f_known : Fn P w K mg base CX0 "_law_known" 1 ["_law_paper", "_law_asked"] (spKnown27))
    (t_Asker_answers : Mt P w K mg base CX0 C_Asker "answers" 1 ["self"] (spAnswers C_Asker))
    : FnOk P w K mg base CX0 7 f fd ["_law_asker", "_law_paper", "_law_turn", "_law_asked"] (spAns27 C_Asker C_KeyRule) := by
  refine F.ok sc_answers (fun vs H Q E h => ?_) (fun cdv A outer s H vs Q E hr h => ?_)
  · obtain ⟨u, ts, ks, xs, ak, rl, ru, tl, cl, pa, tn, aw, os, ps, ws, rfl, st, hpa, ho, htn, haw, hP, hO, hpl, hk, q⟩ := h
    rfl
  obtain ⟨u, ts, ks, xs, ak, rl, ru, tl, cl, pa, tn, aw, os, ps, ws, rfl, st, hpa, ho, htn, haw, hP, hO, hpl, hk, q⟩ := h
  refine ⟨_, (pss_cons (ps_set (i := 4) sc_answers.nd rfl (by first | exact Or.inl rfl | exact Or.inr rfl) (pe_lst pa_nil))
    (pss_cons (ps_for PassesOwn.never rfl (pi_list (pv 3)) (pg_tup (n := 2) rfl (pgs_cons (pg_name (i := 5) sc_answers.nd rfl (by first | exact Or.inl rfl | exact Or.inr rfl)) (pgs_cons (pg_name (i := 6) sc_answers.nd rfl (by first | exact Or.inl rfl | exact Or.inr rfl)) pgs_nil)))
      (pss_cons (ps_set (i := 7) sc_answers.nd rfl (by first | exact Or.inl rfl | exact Or.inr rfl) (pe_callB (call_max2 rfl) rfl T.b_max PyProof.Rows.boot_max (pa_cons (pv 5) (pa_cons (pv 6) pa_nil))))
      (pss_cons (ps_set (i := 8) sc_answers.nd rfl (by first | exact Or.inl rfl | exact Or.inr rfl) (pe_callB (call_min2 rfl) rfl T.b_min PyProof.Rows.boot_min (pa_cons (pv 5) (pa_cons (pv 6) pa_nil))))
      (pss_one (ps_expr (pe_bm PySem.F.plainAttrs_list PySem.F.slot_list_append PySem.F.type_list_append mt_append (pv 4) (pa_cons (pe_tup (pa_cons (pv 7) (pa_cons (pv 8) (pa_cons (pe_cmpR op_lt (pe_ix ix_list (pv 2) (pv 7) (fun _ _ => rfl)) (pe_ix ix_list (pv 2) (pv 8) (fun _ _ => rfl)) (nomark _)) pa_nil)))) pa_nil)))))))
    (pss_cons (ps_set (i := 9) sc_answers.nd rfl (by first | exact Or.inl rfl | exact Or.inr rfl) (pe_mt0 t_Asker_answers (hr.mono (by decide)) pass0 (pv 0)))
    (pss_cons (ps_if (PW.pt (pw_or (pt_not (pt_val (pe_callB call_isinst rfl T.b_isinstance PyProof.Rows.boot_isinstance (pa_cons (pv 9) (pa_cons (pe_bty rfl T.b_list PyProof.Rows.boot_list) pa_nil))))) (pw_or (pt_cmpR (op_neD hr.units) (pv 9) (pv 4) (nomark _)) (pw_or1 (pt_cmpR op_notB (pe_fn f_agrees (hr.mono (by decide)) rfl pass0 (pa_cons (pv 1) (pa_cons (pv 9) pa_nil))) pe_bl (nomark _))))))
      (pss_one (ps_ret pe_bl)) pss_nil)
    (pss_cons (ps_set (i := 10) sc_answers.nd rfl (by first | exact Or.inl rfl | exact Or.inr rfl) (pe_fn f_shows (hr.mono (by decide)) rfl pass0 (pa_cons (pv 1) (pa_cons (pv 9) pa_nil))))
    (pss_one (ps_ret (pe_and (pe_callB call_isinst rfl T.b_isinstance PyProof.Rows.boot_isinstance (pa_cons (pv 10) (pa_cons (pe_bty rfl T.b_bool PyProof.Rows.boot_bool) pa_nil))) (pe_one (pe_cmpR op_eq (pv 10) (pe_fn f_known (hr.mono (by decide)) rfl pass0 (pa_cons (pv 1) (pa_cons (pv 3) pa_nil))) (nomark _))))))))))), ?_⟩
  walk_at "rd"
  have hol : os.length = ks.length := by rw [ho.len]; omega
  refine ⟨Nat.zero_le _, fun du hdu => ?_⟩
  obtain ⟨H1, e1, s1, h1⟩ := newH hdu (.lst [])
  rw [e1]; clear e1
  refine forL_of (SqL.of (s1 _ _ haw)) (fun i σ X => ∃ v5 v6 v7 v8 us, σ = [some (.ref ak), some (.ref pa), some (.ref tn), some (.ref aw), some (.ref du), v5, v6, v7, v8, none, none] ∧ X du = some (.lst us) ∧ Told X ks ((ps.take i).map mm) us ∧ Same H X) ⟨_, _, _, _, [], rfl, h1, ⟨rfl, fun j p q h => by simp at h⟩, s1⟩ (fun i σ X _ ⟨_, _, _, _, _, _, _, _, e⟩ => SqL.of (e _ _ haw)) ?_ ?_
  · rintro i x σ X hx ⟨v5, v6, v7, v8, us, rfl, hdX, hT, hs⟩
    have hi := (List.getElem?_eq_some_iff.mp hx).1
    rw [hP.len] at hi
    obtain ⟨⟨x0, y0⟩, hc⟩ : ∃ c, ps[i]? = some c := ⟨_, List.getElem?_eq_getElem hi⟩
    obtain ⟨t, ht1, ht2⟩ := hP.get i x0 y0 hc
    rw [hx] at ht1
    cases ht1
    obtain ⟨g1, g2, g3⟩ := hO _ (List.mem_of_getElem? hc)
    dsimp only at g1 g2 g3
    refine gTup_of (SqT.of (hs _ _ ht2)) rfl ?_
    walk_at "rd"
    refine ⟨_, _, rfl, _, _, rfl, ?_⟩
    rw [mxN, mnN]
    have htnX := hs _ _ htn
    refine ⟨.inl ⟨rfl, _, SqL.of hdX⟩, ?_⟩
    refine ixL_of (SqL.of htnX) (NL_ix (i := max x0 y0) (by rw [Pap.bk_len]; omega) rfl) (ixL_of (SqL.of htnX) (NL_ix (i := min x0 y0) (by rw [Pap.bk_len]; omega) rfl) ?_)
    walk_at "rd"
    refine ⟨le_line (by decide), fun t2 ht2' => ?_⟩
    have esaid : decide (((Pap.at' (Pap.bk os) (max x0 y0) : Nat) : Int) < (Pap.at' (Pap.bk os) (min x0 y0) : Nat)) = decide (kat ks (max x0 y0) < kat ks (min x0 y0)) := by
      have h := ord_lx ho (x := max x0 y0) (y := min x0 y0) (by omega) (by omega) (by omega)
      unfold lx at h
      rw [decide_eq_decide]
      omega
    rw [esaid]
    obtain ⟨H4, e4, s4, h4⟩ := newH ht2' (.tup [.int ((max x0 y0 : Nat) : Int), .int ((min x0 y0 : Nat) : Int), .bl (decide (kat ks (max x0 y0) < kat ks (min x0 y0)))])
    rw [e4]; clear e4
    have h34 := s4 _ _ hdX
    refine ⟨du, _, _, rfl, rfl, h34, small1000 (by rw [hT.len, List.length_map, List.length_take]; omega), ?_⟩
    refine ⟨_, _, _, _, us ++ [.ref t2], rfl, upd_same, ?_, (hs.trans s4).upd hdu⟩
    rw [List.take_add_one, hc, List.map_append]
    exact ((hT.keep fun _ _ z => s4 _ _ z).snoc h4).keep fun t x c => by rw [upd_ne (fun e => by rw [e, h34] at c; cases c)]; exact c
  rintro σ X ⟨v5, v6, v7, v8, us, rfl, hdX, hT, hs⟩
  rw [hP.len, List.take_of_length_le (Nat.le_refl _)] at hT
  walk_at "rd"
  have stX := st.mono hs
  obtain ⟨tw, htl, hTd⟩ := stX.htl
  refine stX.ha.meth (by walk_at "lk") ⟨ak, rl, ru, tl, .non, _, tw, rfl, stX.ha, htl, fun an H5 s5 han0 han => ?_⟩
  have S5 := hs.trans s5
  have hTd5 := hTd.keep fun _ _ z => s5 _ _ z
  refine inst_lst han ?_
  walk_at "rd"
  refine told_ne han (s5 _ _ hdX) hTd5 (hT.keep fun _ _ z => s5 _ _ z) ⟨_, rfl, ?_⟩
  rw [if_neg (by decide)]
  have hin : ∀ c ∈ ps.map mm, c.2 < c.1 ∧ c.1 < ks.length := fun c hc => by
    obtain ⟨d, hd, rfl⟩ := List.mem_map.mp hc
    have := hO d hd
    unfold mm
    dsimp only
    omega
  have hag := ag_true ho (fun c hc => (hin c hc).1) (fun c hc => (hin c hc).2)
  have hB : ∀ c ∈ (ps.map mm).map (saidC ks), c.1 < os.length ∧ c.2.1 < os.length := fun c hc => by
    obtain ⟨d, hd, rfl⟩ := List.mem_map.mp hc
    have := hin d hd
    show d.1 < _ ∧ d.2 < _
    omega
  refine ⟨pa, an, os, _, tw, rfl, S5 _ _ hpa, ho.isP, by omega, han, hTd5.ans, hB, by rw [List.length_map, List.length_map]; omega, fun H6 s6 => ⟨_, _, rfl, rfl, ?_⟩⟩
  rw [hag, if_neg (by decide)]
  refine ⟨pa, an, os, _, tw, rfl, s6 _ _ (S5 _ _ hpa), ho.isP, by omega, s6 _ _ han, hTd5.ans.keep s6, hB, by rw [List.length_map, List.length_map]; omega, fun H7 s7 => ?_⟩
  rw [hag, Bool.true_and, kn_sh]
  have S7 := S5.trans (s6.trans s7)
  refine inst_bl ?_
  walk_at "rd"
  refine ⟨pa, aw, os, ps, ws, rfl, S7 _ _ hpa, S7 _ _ haw, hP.keep fun _ _ z => S7 _ _ z, by omega, fun H8 s8 => ?_⟩
  walk_at "rd"
  exact q _ (S7.trans s8)
theorem ok_law {f : Addr} {fd : FuncData} (F : Fun K "law" "law" s_law f fd) (T : Bt K mg C_Asker C_Rule C_KeyRule)
    (f_row_of : Fn P w K mg base CX0 "_law_row_of" 2 ["_law_script"] (spRowOf27 K))
    (f_ranked : Fn P w K mg base CX0 "ranked" 3 ["row", "rule"] (spRanked27 K C_KeyRule))
    (f_laid : Fn P w K mg base CX0 "laid" 4 ["row", "paper"] (spLaid))
    (f_asks : Fn P w K mg base CX0 "_law_asks" 3 ["_law_script", "_law_paper"] (spAsks27 K))
    (f_answers : Fn P w K mg base CX0 "_law_answers" 7 ["_law_asker", "_law_paper", "_law_turn", "_law_asked"] (spAns27 C_Asker C_KeyRule))
    (f_shows : Fn P w K mg base CX0 "shows" 6 ["paper", "answers"] (spShows))
    (f_cell_at : Fn P w K mg base CX0 "_law_cell_at" 1 ["_law_script", "_law_k"] (spCell K))
    (t_Asker_ahead : Mt P w K mg base CX0 C_Asker "ahead" 2 ["self", "p", "q"] (spAheadK C_Asker C_KeyRule (spKeyBefore K C_KeyRule)))
    (t_Asker_answers : Mt P w K mg base CX0 C_Asker "answers" 1 ["self"] (spAnswers C_Asker))
    (k_KeyRule : Kl P w K mg base CX0 "KeyRule" C_KeyRule 3 ["self", "columns"] (spKeyInit K C_KeyRule))
    (k_Asker_3 : KlD P w K mg base CX0 "Asker" C_Asker 1 ["self", "row", "rule", "most"] (spAskerInit C_Asker) [.non])
    : FnOk P w K mg base CX0 8 f fd ["_law_script"] (spLaw K) := by
  refine F.ok sc_law (fun vs H Q E h => ?_) (fun cdv A outer s H vs Q E hr h => ?_)
  · obtain ⟨a, ns, rfl, hS, h63, q⟩ := h
    rfl
  obtain ⟨a, ns, rfl, hS, h63, q⟩ := h
  refine ⟨_, (pss_cons (ps_set (i := 1) sc_law.nd rfl (by first | exact Or.inl rfl | exact Or.inr rfl) (pe_fn f_row_of (hr.mono (by decide)) rfl pass0 (pa_cons (pv 0) pa_nil)))
    (pss_cons (ps_set (i := 2) sc_law.nd rfl (by first | exact Or.inl rfl | exact Or.inr rfl) (pe_callB call_len_seq rfl T.b_len PySem.boot_len (pa_cons (pv 1) pa_nil)))
    (pss_cons (ps_set (i := 3) sc_law.nd rfl (by first | exact Or.inl rfl | exact Or.inr rfl) (pe_ix ix_list (pe_lst (pa_cons pe_str (pa_cons pe_str pa_nil))) (pe_op op_mod (pe_op op_fdiv (pe_fn f_cell_at (hr.mono (by decide)) rfl pass0 (pa_cons (pv 0) (pa_cons pe_int pa_nil))) pe_int) pe_int) (fun _ _ => rfl)))
    (pss_cut
    (pss_cons (ps_set (i := 4) sc_law.nd rfl (by first | exact Or.inl rfl | exact Or.inr rfl) (pe_mk k_KeyRule (hr.mono (by decide)) rfl pass0 (pa_cons (pe_lst (pa_cons (pe_tup (pa_cons pe_int (pa_cons (pv 3) pa_nil))) pa_nil)) pa_nil)))
    (pss_cons (ps_set (i := 5) sc_law.nd rfl (by first | exact Or.inl rfl | exact Or.inr rfl) (pe_fn f_ranked (hr.mono (by decide)) rfl pass0 (pa_cons (pe_callTy call_list_of rfl T.b_list PyProof.Rows.boot_list (pa_cons (pv 1) pa_nil)) (pa_cons (pv 4) pa_nil))))
    (pss_cut
    (pss_cons (ps_if (PW.pt (pw_or (pt_not (pt_val (pe_callB call_isinst rfl T.b_isinstance PyProof.Rows.boot_isinstance (pa_cons (pv 5) (pa_cons (pe_bty rfl T.b_tuple PyProof.Rows.boot_tuple) pa_nil))))) (pw_or (pt_cmpR op_ne (pe_callB call_len_seq rfl T.b_len PySem.boot_len (pa_cons (pv 5) pa_nil)) pe_int (nomark _)) (pw_or (pt_cmpR op_ne (pe_ix ix_tup (pv 5) pe_int (fun _ _ => rfl)) pe_str (nomark _)) (pw_or1 (pt_cmpR op_ne (pe_callB call_len_seq rfl T.b_len PySem.boot_len (pa_cons (pe_ix ix_tup (pv 5) pe_int (fun _ _ => rfl)) pa_nil)) (pv 2) (nomark _)))))))
      (pss_one (ps_ret pe_bl)) pss_nil)
    (pss_cut
    (pss_cons (ps_setComp (i := 6) sc_law.nd rfl (Or.inl rfl) rfl (k := 2) (js := []) (N' := ["_law_rank", "_law_place"]) (by rfl) (pi_list (pe_callB call_sortedT rfl T.b_sorted PyProof.Rows.boot_sorted (pa_cons (pe_comp rfl (k := 1) (js := [5]) (N' := ["_law_k", "_law_found"]) (by rfl) (pi_range1 rfl T.b_range (pa_cons (pv 2) pa_nil)) (fun _ _ _ _ => pg_name (i := 0) (show (["_law_k", "_law_found"] : List Str).Nodup by decide +kernel) rfl (by first | exact Or.inl rfl | exact Or.inr rfl)) (fun _ _ _ _ => pifs_nil) (fun _ _ _ _ => (pe_tup (pa_cons (pe_ix (ix_listK K) (pe_ix (ix_tupK K) (pv 1) pe_int (fun _ _ => rfl)) (pv 0) (fun _ _ => rfl)) (pa_cons (pv 0) pa_nil))))) pa_nil))) (fun _ _ _ _ => pg_tupK (n := 2) K rfl (pgs_cons (pg_name (i := 0) (show (["_law_rank", "_law_place"] : List Str).Nodup by decide +kernel) rfl (by first | exact Or.inl rfl | exact Or.inr rfl)) (pgs_cons (pg_name (i := 1) (show (["_law_rank", "_law_place"] : List Str).Nodup by decide +kernel) rfl (by first | exact Or.inl rfl | exact Or.inr rfl)) pgs_nil))) (fun _ _ _ _ => pifs_nil) (fun _ _ _ _ => (pv 1)))
    (pss_cut
    (pss_cons (ps_set (i := 7) sc_law.nd rfl (by first | exact Or.inl rfl | exact Or.inr rfl) (pe_fn f_laid (hr.mono (by decide)) rfl pass0 (pa_cons (pv 1) (pa_cons (pv 6) pa_nil))))
    (pss_cut
    (pss_cons (ps_for PassesOwn.never rfl (pi_range1 rfl T.b_range (pa_cons (pe_op op_sub (pv 2) pe_int) pa_nil)) (pg_name (i := 8) sc_law.nd rfl (by first | exact Or.inl rfl | exact Or.inr rfl))
      (pss_cons (ps_if (PW.pt (pw_and (pt_cmpR op_eq (pe_cmpR op_gt (pe_ix ix_tup (pe_ix ix_list (pv 7) (pv 8) (fun _ _ => rfl)) pe_int (fun _ _ => rfl)) (pe_ix ix_tup (pe_ix ix_list (pv 7) (pe_op op_add (pv 8) pe_int) (fun _ _ => rfl)) pe_int (fun _ _ => rfl)) (nomark _)) (pe_cmpR op_eq (pv 3) pe_str (nomark _)) (nomark _)) (pw_and1 (pt_cmpR op_ne (pe_ix ix_tup (pe_ix ix_list (pv 7) (pv 8) (fun _ _ => rfl)) pe_int (fun _ _ => rfl)) (pe_ix ix_tup (pe_ix ix_list (pv 7) (pe_op op_add (pv 8) pe_int) (fun _ _ => rfl)) pe_int (fun _ _ => rfl)) (nomark _)))))
        (pss_one (ps_ret pe_bl)) pss_nil)
      (pss_one (ps_if (PW.pt (pw_and (pt_cmpR op_eq (pe_ix ix_tup (pe_ix ix_list (pv 7) (pv 8) (fun _ _ => rfl)) pe_int (fun _ _ => rfl)) (pe_ix ix_tup (pe_ix ix_list (pv 7) (pe_op op_add (pv 8) pe_int) (fun _ _ => rfl)) pe_int (fun _ _ => rfl)) (nomark _)) (pw_and1 (pt_cmpR op_gt (pe_ix ix_list (pv 6) (pv 8) (fun _ _ => rfl)) (pe_ix ix_list (pv 6) (pe_op op_add (pv 8) pe_int) (fun _ _ => rfl)) (nomark _)))))
        (pss_one (ps_ret pe_bl)) pss_nil))))
    (pss_cut
    (pss_cons (ps_set (i := 9) sc_law.nd rfl (by first | exact Or.inl rfl | exact Or.inr rfl) (pe_op op_rep (pe_lst (pa_cons pe_int pa_nil)) (pv 2)))
    (pss_cons (ps_for PassesOwn.never rfl (pi_range1 rfl T.b_range (pa_cons (pv 2) pa_nil)) (pg_name (i := 8) sc_law.nd rfl (by first | exact Or.inl rfl | exact Or.inr rfl))
      (pss_one (ps_asg (pv 8) (pg_sub (pv 9) (pe_ix ix_list (pv 6) (pv 8) (fun _ _ => rfl)) set_list))))
    (pss_cut
    (pss_cons (ps_set (i := 10) sc_law.nd rfl (by first | exact Or.inl rfl | exact Or.inr rfl) (pe_mkD k_Asker_3 (hr.mono (by decide)) rfl pass0 (pa_cons (pv 1) (pa_cons (pv 4) pa_nil))))
    (pss_cons (ps_set (i := 11) sc_law.nd rfl (by first | exact Or.inl rfl | exact Or.inr rfl) (pe_lst pa_nil))
    (pss_cut
    (pss_cons (ps_asg (pe_fn f_asks (hr.mono (by decide)) rfl pass0 (pa_cons (pv 0) (pa_cons (pv 6) pa_nil))) (pg_lst (n := 2) rfl (pgs_cons (pg_name (i := 12) sc_law.nd rfl (by first | exact Or.inl rfl | exact Or.inr rfl)) (pgs_cons (pg_name (i := 13) sc_law.nd rfl (by first | exact Or.inl rfl | exact Or.inr rfl)) pgs_nil))))
    (pss_cons (ps_set (i := 14) sc_law.nd rfl (by first | exact Or.inl rfl | exact Or.inr rfl) (pe_op op_cat (pv 12) (pv 13)))
    (pss_cut
    (pss_cons (ps_for PassesOwn.never rfl (pi_range1 rfl T.b_range (pa_cons (pe_callB call_len_seq rfl T.b_len PySem.boot_len (pa_cons (pv 14) pa_nil)) pa_nil)) (pg_name (i := 8) sc_law.nd rfl (by first | exact Or.inl rfl | exact Or.inr rfl))
      (pss_cons (ps_asg (pe_ix ix_list (pv 14) (pv 8) (fun _ _ => rfl)) (pg_tup (n := 2) rfl (pgs_cons (pg_name (i := 15) sc_law.nd rfl (by first | exact Or.inl rfl | exact Or.inr rfl)) (pgs_cons (pg_name (i := 16) sc_law.nd rfl (by first | exact Or.inl rfl | exact Or.inr rfl)) pgs_nil))))
      (pss_cons (ps_if (PW.pt (pw_and (pt_cmpR op_ge (pv 8) (pe_callB call_len_seq rfl T.b_len PySem.boot_len (pa_cons (pv 12) pa_nil)) (nomark _)) (pw_and1 (pt_not (pt_val (pe_fn f_answers (hr.mono (by decide)) rfl pass0 (pa_cons (pv 10) (pa_cons (pv 6) (pa_cons (pv 9) (pa_cons (pv 11) pa_nil))))))))))
        (pss_one (ps_ret pe_bl)) pss_nil)
      (pss_cut
      (pss_cons (ps_set (i := 17) sc_law.nd rfl (by first | exact Or.inl rfl | exact Or.inr rfl) (pe_mt t_Asker_ahead (hr.mono (by decide)) pass0 (pv 10) (pa_cons (pv 15) (pa_cons (pv 16) pa_nil))))
      (pss_cons (ps_if (PW.pt (pw_or (pt_not (pt_val (pe_callB call_isinst rfl T.b_isinstance PyProof.Rows.boot_isinstance (pa_cons (pv 17) (pa_cons (pe_bty rfl T.b_bool PyProof.Rows.boot_bool) pa_nil))))) (pw_or1 (pt_cmpR op_ne (pv 17) (pe_cmpR op_lt (pe_ix ix_list (pv 9) (pv 15) (fun _ _ => rfl)) (pe_ix ix_list (pv 9) (pv 16) (fun _ _ => rfl)) (nomark _)) (nomark _)))))
        (pss_one (ps_ret pe_bl)) pss_nil)
      (pss_one (ps_expr (pe_bm PySem.F.plainAttrs_list PySem.F.slot_list_append PySem.F.type_list_append mt_append (pv 11) (pa_cons (pe_tup (pa_cons (pv 15) (pa_cons (pv 16) pa_nil))) pa_nil))))))))))
    (pss_cut
    (pss_one (ps_ret (pe_and (pe_fn f_answers (hr.mono (by decide)) rfl pass0 (pa_cons (pv 10) (pa_cons (pv 6) (pa_cons (pv 9) (pa_cons (pv 11) pa_nil))))) (pe_one (pe_cmpR op_isB (pe_fn f_shows (hr.mono (by decide)) rfl pass0 (pa_cons (pv 6) (pa_cons (pe_mt0 t_Asker_answers (hr.mono (by decide)) pass0 (pv 10)) pa_nil))) pe_bl (nomark _)))))))))))))))))))))))))))))))), ?_⟩
  walk_at "rd"
  refine ⟨a, ns, rfl, hS, h63, fun rw H1 ts xs s1 hrw0 hrw hR htwo hts => ?_⟩
  refine ⟨rw, _, rfl, .inl (SqL.of hrw), ?_⟩
  rw [hR.1]
  refine ⟨le_line (by decide), fun wl hwl => ?_⟩
  obtain ⟨H2, e2, s2, h2⟩ := newH hwl (.lst [.str "up", .str "down"])
  rw [e2]; clear e2
  refine ⟨a, ns, 0, rfl, (s1.trans s2).seq hS, by decide, ?_⟩
  walk_at "rd"
  refine ⟨⟨by decide, by decide⟩, by decide, ?_⟩
  refine ixL_of (SqL.of h2) (atW (cellOf ns 0 / 3)) ?_
  generalize decide (cellOf ns 0 / 3 % 2 = 0) = u
  refine cut_of ?_
  walk_at "rd"
  refine ⟨le_line (by decide), fun ct hct => ?_⟩
  obtain ⟨H5, e5, s5, h5⟩ := newH hct (.tup [.int 0, .str (wayS u)])
  rw [e5]; clear e5
  refine ⟨le_line (by decide), fun cl0 hcl0 => ?_⟩
  obtain ⟨H6, e6, s6, h6⟩ := newH hcl0 (.lst [.ref ct])
  rw [e6]; clear e6
  intro ru dr hru hdr nrd
  have hru' : upd H6 dr (.own ru) ru = none := by rw [upd_ne (Ne.symm nrd)]; exact hru
  have s7 : Same H6 (upd (upd H6 dr (.own ru)) ru (.ins C_KeyRule dr [])) := (same_new hdr _).trans (same_new hru' _)
  refine ⟨ru, dr, cl0, [.ref ct], [(0, u)], rfl, upd_same, SqL.of (s7 _ _ h6), DpAll.one (dp_tup (SqT.of (s7 _ _ (s6 _ _ h5))) (.two (dp_int _) (dp_str _))), fun c hc => by rw [List.mem_singleton.mp hc]; exact ⟨(show (0 : Int) ≤ 0 by decide), (show (0 : Int) ≤ 7 by decide)⟩, fun cl hcl => ⟨rfl, ?_⟩⟩
  have hru7 : upd (upd H6 dr (.own ru)) ru (.ins C_KeyRule dr []) ru = some (.ins C_KeyRule dr []) := upd_same
  have ncr : cl ≠ ru := Ne.symm (ne_of_none hru7 hcl)
  have k8 : Same H6 (upd (upd (upd (upd H6 dr (.own ru)) ru (.ins C_KeyRule dr [])) cl (.lst [.ref ct])) ru (.ins C_KeyRule dr (putF "columns" (.ref cl) []))) := (s7.new hcl).upd hru
  have hcl8 : upd (upd (upd (upd H6 dr (.own ru)) ru (.ins C_KeyRule dr [])) cl (.lst [.ref ct])) ru (.ins C_KeyRule dr (putF "columns" (.ref cl) [])) cl = some (.lst [.ref ct]) := by rw [upd_ne ncr, upd_same]
  have hru8 : upd (upd (upd (upd H6 dr (.own ru)) ru (.ins C_KeyRule dr [])) cl (.lst [.ref ct])) ru (.ins C_KeyRule dr (putF "columns" (.ref cl) [])) ru = some (.ins C_KeyRule dr (putF "columns" (.ref cl) [])) := upd_same
  generalize upd (upd (upd (upd H6 dr (.own ru)) ru (.ins C_KeyRule dr [])) cl (.lst [.ref ct])) ru (.ins C_KeyRule dr (putF "columns" (.ref cl) [])) = H8 at k8 hcl8 hru8 ⊢
  have hct8 := k8 _ _ (s6 _ _ h5)
  have S8 : Same H1 H8 := s2.trans (s5.trans (s6.trans k8))
  have hrw8 := S8 _ _ hrw
  have hRu : RuleAt K C_KeyRule H8 ru [(0, u)] := ⟨dr, cl, [.ref ct], hru8, SqL.of hcl8, DpAll.one (dp_tup (SqT.of hct8) (.two (dp_int _) (dp_str _)))⟩
  refine ⟨rw, xs, rfl, .inl (SqL.of hrw8), fun cp hcp => ?_⟩
  obtain ⟨H9, e9, s9, h9⟩ := newH hcp (.lst xs)
  rw [e9]; clear e9
  have hcols : ∀ c ∈ [((0 : Int), u)], 0 ≤ c.1 ∧ c.1 < 2 := fun c hc => by rw [List.mem_singleton.mp hc]; exact ⟨(show (0 : Int) ≤ 0 by decide), (show (0 : Int) < 2 by decide)⟩
  refine ⟨cp, ru, xs, ts, [(0, u)], rfl, SqL.of h9, hR.keep (S8.trans s9), htwo, hcols, hRu.mono s9, by omega, fun fo l2 H10 s10 hfo0 hl20 hfo hl2 => ?_⟩
  obtain ⟨rs, ers⟩ : ∃ rs, rkL [(0, u)] ts = rs := ⟨_, rfl⟩
  rw [ers] at hl2
  have hrsl : rs.length = ts.length := by rw [← ers]; unfold rkL; rw [List.length_map]
  refine cut_of ?_
  walk_at "rd"
  refine inst_tup hfo ?_
  walk_at "rd"
  refine ⟨fo, _, rfl, .inr (SqT.of hfo), ?_⟩
  rw [if_neg (by simp)]
  refine ixT_of (SqT.of hfo) (atI_of (by decide) rfl) ?_
  walk_at "rd"
  rw [if_neg (fun z => z trivial)]
  refine ixT_of (SqT.of hfo) (atI_of (by decide) rfl) ⟨l2, _, rfl, .inl (SqL.of hl2), ?_⟩
  rw [if_neg (by rw [List.length_map, hrsl]; simp)]
  refine cut_of ?_
  walk_at "rd"
  obtain ⟨ks, eks⟩ : ∃ ks : List Int, rs.map (fun (n : Nat) => (n : Int)) = ks := ⟨_, rfl⟩
  have hksl : ks.length = ts.length := by rw [← eks, List.length_map, hrsl]
  have hkat : ∀ (i : Nat) t, ts[i]? = some t → ks[i]? = some (kat ks i) ∧ kat ks i = ((rk [(0, u)] ts t : Nat) : Int) ∧ rs[i]? = some (rk [(0, u)] ts t) := fun i t ht => by
    have hi := (List.getElem?_eq_some_iff.mp ht).1
    have e1 : rs[i]? = some (rk [(0, u)] ts t) := by rw [← ers]; unfold rkL; rw [List.getElem?_map, ht]; rfl
    have e2 : ks[i]? = some ((rk [(0, u)] ts t : Nat) : Int) := by rw [← eks, List.getElem?_map, e1]; rfl
    have e3 : kat ks i = ((rk [(0, u)] ts t : Nat) : Int) := by unfold kat; rw [e2]; rfl
    exact ⟨by rw [e3]; exact e2, e3, e1⟩
  have hkey : ∀ (i j : Nat) t t', ts[i]? = some t → ts[j]? = some t' → keyB [(0, u)] t t' = decide (kat ks i < kat ks j) := fun i j t t' ht ht' => by
    rw [key_rank [(0, u)] (List.mem_of_getElem? ht) t', (hkat i t ht).2.1, (hkat j t' ht').2.1, decide_eq_decide]
    omega
  have S10 : Same H1 H10 := S8.trans (s9.trans s10)
  refine compR1_of (by omega) (fun i ys σ H' => ∃ v, σ = [v, some (.ref fo)] ∧ Same H10 H' ∧ ys.length = i ∧ ∀ (j : Nat) k, j < i → ks[j]? = some k → ∃ r, ys[j]? = some (V.ref r) ∧ H' r = some (.tup [.int k, .int j])) ⟨_, rfl, .refl _, rfl, fun _ _ h => by omega⟩ (fun i ys σ H' ⟨_, _, _, l, _⟩ => Nat.le_of_eq l) ?_ ?_
  · rintro i ys σ H' hi ⟨v, rfl, sA, hl, hth⟩
    have hi' : i < ts.length := by omega
    obtain ⟨g1, g2, g3⟩ := hkat i _ (List.getElem?_eq_getElem hi')
    walk_at "rd"
    rw [show (0 + (i : Int)) = i by omega]
    refine ixT_of (SqT.of (sA _ _ hfo)) (atI_of (by decide) rfl) ?_
    refine ixL_of (SqL.of (sA _ _ hl2)) (atI_of (v := .int (kat ks i)) (by omega) (by rw [Int.toNat_natCast, List.getElem?_map, g3, g2]; rfl)) ⟨le_line (by decide), fun t ht => ?_⟩
    refine Nxt.of hi ⟨_, rfl, sA.new ht, by rw [List.length_append, hl]; rfl, fun j k' hj hk' => ?_⟩
    by_cases z : j < i
    · obtain ⟨r, a1, a2⟩ := hth j k' z hk'
      exact ⟨r, by rw [List.getElem?_append_left (by omega)]; exact a1, same_new ht _ _ _ a2⟩
    · have : j = i := by omega
      subst this
      rw [g1] at hk'; cases hk'
      exact ⟨t, by rw [← hl, List.getElem?_append_right (Nat.le_refl _), Nat.sub_self]; rfl, upd_same⟩
  rintro zs σ H11 ⟨v, rfl, s11, hzl, hth0⟩ zl hzl0
  obtain ⟨H12, e12, s12, h12⟩ := newH hzl0 (.lst zs)
  rw [e12]; clear e12
  have hth : Things H12 ks zs := ⟨by omega, fun i k hk => by
    have hi := (List.getElem?_eq_some_iff.mp hk).1
    obtain ⟨r, a1, a2⟩ := hth0 i k (by omega) hk
    exact ⟨r, a1, s12 _ _ a2⟩⟩
  have S12 : Same H1 H12 := S10.trans (s11.trans s12)
  obtain ⟨zz, ezz, hzzl, hzz⟩ := hth.zz
  have hz : ∀ z ∈ zz, ∃ q : Nat, z.2 = (kat ks q, (q : Int)) ∧ q < ks.length ∧ H12 z.1 = some (.tup [.int (kat ks q), .int q]) := fun z hzm => by
    obtain ⟨i, hi, e⟩ := List.getElem_of_mem hzm
    obtain ⟨a1, a2⟩ := hzz i z (by rw [List.getElem?_eq_getElem hi, e])
    exact ⟨i, a1, by omega, a2⟩
  have hzp : zz.Pairwise (fun (x y : PrA) => x.2.2 ≠ y.2.2) := by
    rw [List.pairwise_iff_getElem]
    intro i j hi hj hij
    have a1 := (hzz i _ (List.getElem?_eq_getElem hi)).1
    have a2 := (hzz j _ (List.getElem?_eq_getElem hj)).1
    rw [a1, a2]
    show (i : Int) ≠ j
    omega
  refine ⟨zl, zz, rfl, SqL.of (by rw [← ezz]; exact h12), fun z hzm => ?_, by omega, fun sl ms hsl hperm hsorted => ?_⟩
  · obtain ⟨q, a1, _, a4⟩ := hz z hzm
    rw [a1]
    exact SqT.of a4
  obtain ⟨HE, eE, sE, hE⟩ := newH hsl (.lst (ms.map fun z => V.ref z.1))
  rw [eE]; clear eE
  have hml : ms.length = zz.length := hperm.length_eq
  have hms : ∀ z ∈ ms, ∃ q : Nat, z.2 = (kat ks q, (q : Int)) ∧ q < ks.length ∧ HE z.1 = some (.tup [.int (kat ks q), .int q]) := fun z hzm => by
    obtain ⟨q, a1, a2, a4⟩ := hz z (hperm.mem_iff.mp hzm)
    exact ⟨q, a1, a2, sE _ _ a4⟩
  have hdis : ms.Pairwise (fun (x y : PrA) => x.2.2 ≠ y.2.2) := (hperm.pairwise_iff fun {x y} z => Ne.symm z).mpr hzp
  have hos : (ms.map fun z => z.2.2.toNat).Pairwise (lx ks) := by
    rw [List.pairwise_map]
    refine (hsorted.and hdis).imp_of_mem fun {x y} hx hy z => ?_
    obtain ⟨q1, a1, _, _⟩ := hms x hx
    obtain ⟨q2, b1, _, _⟩ := hms y hy
    have z1 := z.1
    have z2 := z.2
    rw [a1, b1] at z1 z2
    rw [a1, b1]
    show lx ks (q1 : Int).toNat (q2 : Int).toNat
    rw [Int.toNat_natCast, Int.toNat_natCast]
    unfold lxP at z1
    dsimp only at z1 z2
    unfold lx
    omega
  have hosm : ∀ x ∈ ms.map (fun z => z.2.2.toNat), x < ks.length := fun x hx => by
    obtain ⟨z, hzm, rfl⟩ := List.mem_map.mp hx
    obtain ⟨q, a1, a2, _⟩ := hms z hzm
    rw [a1]
    show (q : Int).toNat < _
    rw [Int.toNat_natCast]
    exact a2
  have hosl : (ms.map fun z => z.2.2.toNat).length = ms.length := List.length_map ..
  have hosc : ∀ x, x < ks.length → x ∈ ms.map (fun z => z.2.2.toNat) := fun x hx => by
    have hx' : x < zz.length := by omega
    refine List.mem_map.mpr ⟨zz[x], hperm.mem_iff.mpr (List.getElem_mem hx'), ?_⟩
    rw [(hzz x _ (List.getElem?_eq_getElem hx')).1]
    exact Int.toNat_natCast x
  refine compL_of (SqL.of hE) (by rw [List.length_map]; omega) (fun i ys σ H' => ∃ v v', σ = [v, v'] ∧ H' = HE ∧ ys = nL ((ms.map fun z => z.2.2.toNat).take i)) ⟨_, _, rfl, rfl, rfl⟩ (fun i ys σ H' _ ⟨_, _, _, e, e2⟩ => ⟨by rw [e]; exact SqL.of hE, by rw [e2, List.length_map, List.length_take]; omega⟩) ?_ ?_
  · rintro i ys x σ H' hi hx ⟨v, v', rfl, rfl, rfl⟩
    rw [List.length_map] at hi
    rw [List.getElem?_map, List.getElem?_eq_getElem hi] at hx
    cases hx
    obtain ⟨q, a1, a2, a4⟩ := hms ms[i] (List.getElem_mem hi)
    refine gTup_of (SqT.of a4) rfl ?_
    walk_at "rd"
    refine Nxt.of (by rw [List.length_map]; exact hi) ⟨_, _, rfl, rfl, ?_⟩
    rw [List.take_add_one, List.getElem?_map, List.getElem?_eq_getElem hi]
    unfold nL
    rw [List.map_append]
    show _ = _ ++ [V.int ((ms[i].2.2.toNat : Nat) : Int)]
    rw [a1]
    show _ = _ ++ [V.int (((q : Int).toNat : Nat) : Int)]
    rw [Int.toNat_natCast]
  rintro ys σ HF ⟨v, v', rfl, rfl, rfl⟩ od hod
  rw [List.length_map, List.take_of_length_le (by rw [List.length_map]; exact Nat.le_refl _)]
  rw [hml, hzzl] at hosl
  generalize (ms.map fun z => z.2.2.toNat) = os at hos hosm hosl hosc ⊢
  obtain ⟨H13, eO, sO, hod13⟩ := newH hod (.lst (nL os))
  rw [eO]; clear eO
  have S13 : Same H1 H13 := S12.trans (sE.trans sO)
  have ho : OrdN ks 0 ks.length os := ⟨by omega, fun x => ⟨fun h => ⟨Nat.zero_le _, hosm x h⟩, fun h => hosc x h.2⟩, hos⟩
  have ruX : Same H8 H13 := s9.trans (s10.trans (s11.trans (s12.trans (sE.trans sO))))
  rw [← NL_nL] at hod13
  clear hms hdis hml hsorted hperm hzp hz hzz hosc hosm hos hth hth0
  refine cut_of ?_
  walk_at "rd"
  refine ⟨rw, od, xs, os, rfl, S13 _ _ hrw, hod13, ho.isP, by omega, by rw [hR.1]; omega, fun lt H14 s14 hlt0 hlt => ?_⟩
  refine cut_of ?_
  walk_at "rd"
  have hol : os.length = ts.length := by rw [ho.len]; omega
  have hrw14 := s14 _ _ (S13 _ _ hrw)
  have hod14 := s14 _ _ hod13
  have hR14 := hR.keep (S13.trans s14)
  refine forR1_of (by omega) (forR_of (fun i σ X => ∃ v8, σ = [some (.ref a), some (.ref rw), some (.int ts.length), some (.str (wayS u)), some (.ref ru), some (.ref fo), some (.ref od), some (.ref lt), v8, none, none, none, none, none, none, none, none, none] ∧ X = H14) ⟨_, rfl, rfl⟩ ?_ ?_)
  · rintro i σ X hi ⟨v8, rfl, rfl⟩
    walk_at "rd"
    rw [Int.zero_add]
    have hth : ∀ j, j < os.length → ∃ r t, ts[Pap.at' os j]? = some t ∧ atI (os.map fun i => xs.getD i .non) (j : Int) = some (.ref r) ∧ SqT K X r (t.map V.int) ∧ t.length = 2 := fun j hj => by
      have hlt' := ho.isP.at_lt hj
      obtain ⟨r, a1, a2⟩ := hR14.2 (Pap.at' os j) _ (List.getElem?_eq_getElem (by omega))
      refine ⟨r, _, List.getElem?_eq_getElem (by omega), atI_of (by omega) ?_, SqT.of a2, htwo _ (List.getElem_mem _)⟩
      rw [Int.toNat_natCast, List.getElem?_map, Pap.at_lt hj]
      show some (xs.getD (Pap.at' os j) .non) = _
      rw [List.getD_eq_getElem?_getD, a1]; rfl
    have hi1 : i + 1 < os.length := by omega
    obtain ⟨rx, tx, x1, x2, x3, x4⟩ := hth i (by omega)
    obtain ⟨ry, ty, y1, y2, y3, y4⟩ := hth (i + 1) hi1
    have hlx : lx ks (Pap.at' os i) (Pap.at' os (i + 1)) := by
      have := List.pairwise_iff_getElem.mp ho.srt i (i + 1) (by omega) hi1 (by omega)
      rw [← Pap.at_eq (by omega), ← Pap.at_eq hi1] at this
      exact this
    obtain ⟨c1, c2⟩ := chk27 hkey x1 y1 hlx
    have ax := atI_ints (show (0 : Int) ≤ 0 by decide) (at0_get (xs := tx) (show (0 : Int) ≤ 0 by decide) (by omega))
    have ay := atI_ints (show (0 : Int) ≤ 0 by decide) (at0_get (xs := ty) (show (0 : Int) ≤ 0 by decide) (by omega))
    rw [show (i : Int) + 1 = ((i + 1 : Nat) : Int) by omega]
    generalize at0 tx 0 = A at *
    generalize at0 ty 0 = B at *
    have eu : decide (wayS u = ("up" : Str)) = u := by cases u <;> decide
    refine ixL_of (SqL.of hlt) x2 (ixT_of x3 ax (ixL_of (SqL.of hlt) y2 (ixT_of y3 ay ?_)))
    walk_at "rd"
    by_cases h1 : decide (B < A) = decide (wayS u = ("up" : Str))
    · rw [if_pos h1]
      refine ixL_of (SqL.of hlt) x2 (ixT_of x3 ax (ixL_of (SqL.of hlt) y2 (ixT_of y3 ay ?_)))
      walk_at "rd"
      rw [if_neg (fun z => c1 z (h1.trans eu))]
      refine ixL_of (SqL.of hlt) x2 (ixT_of x3 ax (ixL_of (SqL.of hlt) y2 (ixT_of y3 ay ?_)))
      walk_at "rd"
      by_cases hAB : A = B
      · rw [if_pos hAB]
        refine ixL_of (SqL.of hod14) (NL_ix (i := i) (by omega) rfl) (ixL_of (SqL.of hod14) (NL_ix (i := i + 1) hi1 rfl) ?_)
        walk_at "rd"
        rw [if_neg (by have := c2 hAB; omega)]
        exact ⟨_, rfl, by first | rfl | trivial⟩
      · rw [if_neg hAB]
        exact ⟨_, rfl, by first | rfl | trivial⟩
    · rw [if_neg h1]
      refine ixL_of (SqL.of hlt) x2 (ixT_of x3 ax (ixL_of (SqL.of hlt) y2 (ixT_of y3 ay ?_)))
      walk_at "rd"
      by_cases hAB : A = B
      · rw [if_pos hAB]
        refine ixL_of (SqL.of hod14) (NL_ix (i := i) (by omega) rfl) (ixL_of (SqL.of hod14) (NL_ix (i := i + 1) hi1 rfl) ?_)
        walk_at "rd"
        rw [if_neg (by have := c2 hAB; omega)]
        exact ⟨_, rfl, by first | rfl | trivial⟩
      · rw [if_neg hAB]
        exact ⟨_, rfl, by first | rfl | trivial⟩
  rintro σ X ⟨v8, rfl, eX⟩
  rw [eX]
  clear eX X
  refine cut_of ?_
  walk_at "rd"
  refine ⟨le_line (by decide), fun z0 hz0 => ?_⟩
  obtain ⟨H15, e15, s15, h15⟩ := newH hz0 (.lst [.int 0])
  rw [e15]; clear e15
  walk_at "rd"
  refine ⟨z0, (ts.length : Int), _, rfl, rfl, h15, by omega, by omega, le_line (by rw [List.length_singleton]; omega), fun tn htn0 => ?_⟩
  rw [Int.toNat_natCast, rep_NL]
  obtain ⟨H16, e16, s16, h16⟩ := newH htn0 (.lst (NL (List.replicate ts.length 0)))
  rw [e16]; clear e16
  rw [← hol, ← zsp_zero] at h16
  have htnF := s15.free htn0
  refine forR1_of (by omega) (forR_of (fun i σ X => ∃ v8, σ = [some (.ref a), some (.ref rw), some (.int ts.length), some (.str (wayS u)), some (.ref ru), some (.ref fo), some (.ref od), some (.ref lt), v8, some (.ref tn), none, none, none, none, none, none, none, none] ∧ X tn = some (.lst (NL (zsp os i))) ∧ Same H14 X) ⟨_, rfl, h16, s15.trans s16⟩ ?_ ?_)
  · rintro i σ X hi ⟨v8, rfl, hu, sU⟩
    have hi' : i < os.length := by omega
    have hlt' := ho.isP.at_lt hi'
    walk_at "rd"
    rw [Int.zero_add]
    refine ixL_of (SqL.of (sU _ _ hod14)) (NL_ix hi' rfl) ⟨tn, _, _, _, rfl, rfl, hu, ixN_of (by omega) (by rw [NL_len, zsp_len]; omega), ?_⟩
    refine ⟨_, rfl, ?_, sU.upd htnF⟩
    rw [upd_same, Int.toNat_natCast, ← zsp_step ho.isP hi', NL, NL, List.map_set, List.map_set]
  rintro σ H17 ⟨v8, rfl, htn, sU⟩
  rw [Int.toNat_natCast, ← hol, zsp_end ho.isP] at htn
  have hrw17 := sU _ _ hrw14
  have hod17 := sU _ _ hod14
  have hR17 := hR14.keep sU
  have ru17 := ruX.trans (s14.trans sU)
  have hS17 := ((s1.trans (S13.trans s14)).trans sU).seq hS
  clear hlt hR14 hrw14 hod14 htnF h16 s16 h15 s15
  walk_at "rd"
  refine cut_of ?_
  walk_at "rd"
  intro ak da hak hda nad
  have hak' : upd H17 da (.own ak) ak = none := by rw [upd_ne (Ne.symm nad)]; exact hak
  have s18 : Same H17 (upd (upd H17 da (.own ak)) ak (.ins C_Asker da [])) := (same_new hda _).trans (same_new hak' _)
  refine ⟨ak, da, rw, ru, .non, xs, rfl, upd_same, s18 _ _ hrw17, fun rl tl H19 k19 nrl ntl nrt ia hrl htl => ⟨rfl, ?_⟩⟩
  have up19 : Same H17 H19 := fun b o h => k19 b o (ne_of_none h hak) (s18 _ _ h)
  have h18ak : upd (upd H17 da (.own ak)) ak (.ins C_Asker da []) ak = some (.ins C_Asker da []) := upd_same
  have hru17 := ru17 _ _ hru8
  have hcl17 := ru17 _ _ hcl8
  have m2 : ∀ b o, H17 b = some o → b ∉ [ak, tl] := fun b o h z => by
    rcases List.mem_cons.mp z with z | z
    · exact ne_of_none h hak z
    · exact ne_of_none (s18 _ _ h) ntl (List.mem_singleton.mp z)
  have st : Sit27 C_Asker C_KeyRule H19 u ts ks xs ak rl ru tl cl [] := {
    ha := ia
    hrl := hrl
    hru := ⟨dr, up19 _ _ hru17⟩
    hcl := ⟨ct, up19 _ _ hcl17, up19 _ _ (ru17 _ _ hct8)⟩
    len := hksl.symm
    row := hR17.keep up19
    two := htwo
    key := hkey
    htl := ⟨[], htl, rfl, fun j p q h => by simp at h⟩
    ne := ⟨fun z => by
        rcases List.mem_cons.mp z with z | z
        · exact ne_of_none h18ak nrl z.symm
        · exact nrt (List.mem_singleton.mp z), m2 _ _ hcl17, ne_of_none hru17 hak⟩ }
  have nod := m2 _ _ hod17
  have ntn := m2 _ _ htn
  have hod19 := up19 _ _ hod17
  have htn19 := up19 _ _ htn
  have hS19 := up19.seq hS17
  clear hru8 hcl8 hct8 ru17 hru17 hcl17 h18ak ruX
  refine ⟨Nat.zero_le _, fun aw haw0 => ?_⟩
  obtain ⟨H20, e20, s20, h20⟩ := newH haw0 (.lst [])
  rw [e20]; clear e20
  refine cut_of ?_
  walk_at "rd"
  refine ⟨a, od, ns, os, rfl, s20.seq hS19, h63, s20 _ _ hod19, ho.isP, by omega, fun la l1 l2 H21 ps ws qs us s21 hla0 hl10 hl20 hla hl1 hl2 hP hQ hO hO2 hN hpl hql => ?_⟩
  refine gLst_of (SqL.of hla) rfl ?_
  walk_at "rd"
  refine ⟨l1, l2, ws, us, rfl, rfl, hl1, hl2, le_line (by rw [hP.len, hQ.len]; omega), fun ll hll => ?_⟩
  obtain ⟨H22, e22, s22, h22⟩ := newH hll (.lst (ws ++ us))
  rw [e22]; clear e22
  refine cut_of ?_
  walk_at "rd"
  have S22 := s20.trans (s21.trans s22)
  have hod22 := S22 _ _ hod19
  have htn22 := S22 _ _ htn19
  have haw22 := (s21.trans s22) _ _ h20
  have hl122 := s22 _ _ hl1
  have st22 := st.mono S22
  obtain ⟨tw0, htl22, _⟩ := st22.htl
  have hPQ : Prs H22 (ps ++ qs) (ws ++ us) := (hP.app hQ).keep fun _ _ z => s22 _ _ z
  have hOO : Okp ks.length (ps ++ qs) := fun c hc => by
    rw [show ks.length = os.length by omega]
    rcases List.mem_append.mp hc with z | z
    · exact hO c z
    · exact hO2 c z
  have hql' : (ps ++ qs).length ≤ 126 := by rw [List.length_append]; omega
  have hln : ws.length = ps.length := hP.len
  have nb : ∀ b, b ∉ [ak, tl] → b ≠ aw → b ∉ [ak, tl, aw] := fun b n1 n2 z => by
    rcases List.mem_cons.mp z with z | z
    · exact n1 (by rw [z]; exact List.mem_cons_self)
    · rcases List.mem_cons.mp z with z | z
      · exact n1 (by rw [z]; exact List.mem_cons_of_mem _ List.mem_cons_self)
      · exact n2 (List.mem_singleton.mp z)
  have n3 : ∀ b o, H19 b = some o → b ∉ [ak, tl] → b ∉ [ak, tl, aw] := fun b o h n => nb b n (ne_of_none h haw0)
  have n4 : ∀ b, H20 b = none → b ∉ [ak, tl, aw] := fun b hb z => by
    rcases List.mem_cons.mp z with z | z
    · rw [z] at hb; exact (st.ha.mono s20).neN hb rfl
    · rcases List.mem_cons.mp z with z | z
      · rw [z] at hb; obtain ⟨tw, h1, _⟩ := (st.mono s20).htl; rw [h1] at hb; cases hb
      · rw [List.mem_singleton.mp z, h20] at hb; cases hb
  have n5 : ll ∉ [ak, tl, aw] := n4 ll (s21.free hll)
  have n6 : l1 ∉ [ak, tl, aw] := n4 l1 hl10
  have n7 : ∀ t x, H22 t = some (.tup x) → t ∉ [ak, tl, aw] := fun t x ht => nb t (st22.tupS ht (fun _ z => by cases z) (fun _ _ _ z => by cases z)) (fun z => by rw [z, haw22] at ht; cases ht)
  have nodX := n3 _ _ hod19 nod
  have ntnX := n3 _ _ htn19 ntn
  have nawA : aw ∉ [ak, tl] := fun z => by
    rcases List.mem_cons.mp z with z | z
    · rw [z] at haw0; exact st.ha.neN haw0 rfl
    · obtain ⟨tw, h1, _⟩ := st.htl; rw [List.mem_singleton.mp z, h1] at haw0; cases haw0
  refine ⟨ll, _, rfl, .inl (SqL.of h22), ?_⟩
  rw [List.length_append, hP.len, hQ.len, ← List.length_append]
  generalize hpq : ps ++ qs = pq at hPQ hOO hql' ⊢
  refine forR1_of (by omega) (forR_of (fun i σ X => ∃ v8 v15 v16 v17, σ = [some (.ref a), some (.ref rw), some (.int ts.length), some (.str (wayS u)), some (.ref ru), some (.ref fo), some (.ref od), some (.ref lt), v8, some (.ref tn), some (.ref ak), some (.ref aw), some (.ref l1), some (.ref l2), some (.ref ll), v15, v16, v17] ∧ ∃ aws, X aw = some (.lst aws) ∧ Prs X (pq.take i) aws ∧ Sit27 C_Asker C_KeyRule X u ts ks xs ak rl ru tl cl ((pq.take i).map mm) ∧ Fr [ak, tl, aw] H22 X) ⟨_, _, _, _, rfl, [], haw22, .nil, st22, fun _ _ _ h => h⟩ ?_ ?_)
  · rintro i σ X hi ⟨v8, v15, v16, v17, rfl, aws, hawX, hPX, stX, fX⟩
    have hi' : i < pq.length := by omega
    obtain ⟨⟨x, y⟩, hc⟩ : ∃ c, pq[i]? = some c := ⟨_, List.getElem?_eq_getElem hi'⟩
    obtain ⟨t, ht1, ht2⟩ := hPQ.get i x y hc
    obtain ⟨g1, g2, g3⟩ := hOO _ (List.mem_of_getElem? hc)
    dsimp only at g1 g2 g3
    have hodX := fX _ _ nodX hod22
    have htnX := fX _ _ ntnX htn22
    walk_at "rd"
    rw [Int.zero_add]
    refine ixL_of (SqL.of (fX _ _ n5 h22)) (atI_of (by omega) (by rw [Int.toNat_natCast]; exact ht1)) ?_
    refine gTup_of (SqT.of (fX _ _ (n7 _ _ ht2) ht2)) rfl ?_
    walk_at "rd"
    refine ⟨l1, _, rfl, .inl (SqL.of (fX _ _ n6 hl122)), ?_⟩
    rw [hln]
    apply onceX (α := Hp) (fun _ => [some (.ref a), some (.ref rw), some (.int ts.length), some (.str (wayS u)), some (.ref ru), some (.ref fo), some (.ref od), some (.ref lt), some (.int i), some (.ref tn), some (.ref ak), some (.ref aw), some (.ref l1), some (.ref l2), some (.ref ll), some (.int x), some (.int y), v17]) (fun Y => Y) (fun Y => Same X Y)
    · intro tailp
      by_cases hge : (i : Int) ≥ ps.length
      · rw [if_pos hge]
        refine ⟨u, ts, ks, xs, ak, rl, ru, tl, cl, od, tn, aw, os, pq.take i, aws, rfl, stX, hodX, ho, htnX, hawX, hPX, fun c hc => hOO c (List.mem_of_mem_take hc), by rw [List.length_take]; omega, by omega, fun Y sY => ?_⟩
        walk_at "rd"
        exact tailp Y sY
      · rw [if_neg hge]
        exact tailp X (.refl _)
    rintro Y sY
    refine cut_of ?_
    walk_at "rd"
    have stY := stX.mono sY
    refine stY.ha.meth (by walk_at "lk") (stY.ahead g1 g2 g3 (by rw [List.length_map, List.length_take]; omega) fun Z fZ stZ => ?_)
    rw [ahead_ord ho g2 g3 g1]
    refine inst_bl ?_
    walk_at "rd"
    have htnZ := fZ _ _ ntn (sY _ _ htnX)
    refine ixL_of (SqL.of htnZ) (NL_ix (i := x) (by rw [Pap.bk_len]; omega) rfl) (ixL_of (SqL.of htnZ) (NL_ix (i := y) (by rw [Pap.bk_len]; omega) rfl) ?_)
    walk_at "rd"
    have e0 : decide (Pap.at' (Pap.bk os) x < Pap.at' (Pap.bk os) y) = decide (((Pap.at' (Pap.bk os) x : Nat) : Int) < (Pap.at' (Pap.bk os) y : Nat)) := by rw [decide_eq_decide]; omega
    rw [if_neg (fun z => z e0)]
    have hawZ : Z aw = some (.lst aws) := fZ _ _ nawA (sY _ _ hawX)
    refine ⟨.inl ⟨rfl, _, SqL.of hawZ⟩, le_line (by decide), fun t2 ht2' => ?_⟩
    obtain ⟨Z2, e2, sZ2, h2'⟩ := newH ht2' (.tup [.int x, .int y])
    rw [e2]; clear e2
    have hawZ2 := sZ2 _ _ hawZ
    refine ⟨aw, _, _, rfl, rfl, hawZ2, small1000 (by rw [hPX.len, List.length_take]; omega), ?_⟩
    have etk : pq.take (i + 1) = pq.take i ++ [(x, y)] := by rw [List.take_add_one, hc]; rfl
    have tZ : ∀ t x, X t = some (.tup x) → Z2 t = some (.tup x) := fun t x h => sZ2 _ _ (fZ _ _ (stY.tupS (sY _ _ h) (fun _ z => by cases z) (fun _ _ _ z => by cases z)) (sY _ _ h))
    obtain ⟨tw9, htl9, _⟩ := st.htl
    obtain ⟨ct9, hcl9, _⟩ := st.hcl
    refine ⟨_, _, _, _, rfl, aws ++ [.ref t2], upd_same, ?_, ?_, ?_⟩
    · rw [etk]
      exact ((hPX.keep tZ).app (.one h2')).upd hawZ2
    · rw [etk, List.map_append]
      exact (stZ.mono sZ2).apart (w := aw) (fun b n => upd_ne n) ⟨_, hawZ2⟩ ⟨ne_of_none st.hrl haw0, ne_of_none htl9 haw0, ne_of_none hcl9 haw0⟩
    · intro b o n hb
      rw [upd_ne (fun z => n (by rw [z]; exact List.mem_cons_of_mem _ (List.mem_cons_of_mem _ List.mem_cons_self)))]
      exact sZ2 _ _ (fZ _ _ (fun z => n (by
        rcases List.mem_cons.mp z with z | z
        · rw [z]; exact List.mem_cons_self
        · rw [List.mem_singleton.mp z]; exact List.mem_cons_of_mem _ List.mem_cons_self)) (sY _ _ (fX _ _ n hb)))
  rintro σ X ⟨v8, v15, v16, v17, rfl, aws, hawX, hPX, stX, fX⟩
  rw [Int.toNat_natCast, List.take_of_length_le (Nat.le_refl _)] at hPX stX
  have hodX := fX _ _ nodX hod22
  have htnX := fX _ _ ntnX htn22
  walk_at "rd"
  refine cut_of ?_
  walk_at "rd"
  refine ⟨u, ts, ks, xs, ak, rl, ru, tl, cl, od, tn, aw, os, pq, aws, rfl, stX, hodX, ho, htnX, hawX, hPX, hOO, by omega, by omega, fun Y sY => ?_⟩
  walk_at "rd"
  have stY := stX.mono sY
  obtain ⟨tw, htlY, hTd⟩ := stY.htl
  refine stY.ha.meth (by walk_at "lk") ⟨ak, rl, ru, tl, .non, _, tw, rfl, stY.ha, htlY, fun an Z sZ han0 han => ?_⟩
  have hTdZ := hTd.keep fun _ _ z => sZ _ _ z
  have hin : ∀ c ∈ pq.map mm, c.2 < c.1 ∧ c.1 < ks.length := fun c hc => by
    obtain ⟨d, hd, rfl⟩ := List.mem_map.mp hc
    have := hOO d hd
    unfold mm
    dsimp only
    omega
  have hag := ag_true ho (fun c hc => (hin c hc).1) (fun c hc => (hin c hc).2)
  have hB : ∀ c ∈ (pq.map mm).map (saidC ks), c.1 < os.length ∧ c.2.1 < os.length := fun c hc => by
    obtain ⟨d, hd, rfl⟩ := List.mem_map.mp hc
    have := hin d hd
    show d.1 < _ ∧ d.2 < _
    omega
  have hkn : knB os pq = true := kn_all fun k hk => by
    rw [← hpq]
    rcases hN k hk with z | z
    · exact .inl (List.mem_append_right _ z)
    · exact .inr (List.mem_append_right _ z)
  refine ⟨od, an, os, _, tw, rfl, (sY.trans sZ) _ _ hodX, ho.isP, by omega, han, hTdZ.ans, hB, by rw [List.length_map, List.length_map]; omega, fun W sW => ⟨_, _, rfl, rfl, ?_⟩⟩
  rw [hag, Bool.true_and, kn_sh, hkn]
  walk_at "rd"
  exact q W
end
theorem all_mk {l : PySem.W.OpenLaw} {w : World} {K : PySem.W.Frag} {h : Heap} {mg : Str → Option Value} {fa C_Asker f_Asker_init T_Asker_init f_Asker_answers f_Asker_ahead C_Rule C_KeyRule f_KeyRule_init f_KeyRule_before f_straight f_is_number f_is_paper f_check_paper f_laid f_back f_agrees f_shows f_cell_at f_check_at f_check_column f_told_pairs f_counted_ranks f_are_ranks f_flaw_of f_ranked f_reserve f_signed f_pairs f_known f_turned f_turned_of f_row_of f_asks f_answers f_law : Addr} {t_GREATEST_AT t_UP t_DOWN : Tok} (X : K.In h) (G : h.Ns mainGlobals mg) (hfa : mg "law" = some (.ref fa))
    {ocT_Asker_init : Value} {odT_Asker_init : Option Addr} {nT_Asker_init : Nat} {slT_Asker_init : Array (Option Value)}
    {od_Asker_init an_Asker_init : Option Addr} {sl_Asker_init : Array (Option Value)} {oc_Asker_init kV_Asker_init dc_Asker_init pm_Asker_init cd_Asker_init ct_Asker_init : Value}
    {od_Asker_answers an_Asker_answers : Option Addr} {sl_Asker_answers : Array (Option Value)} {oc_Asker_answers kV_Asker_answers dc_Asker_answers pm_Asker_answers cd_Asker_answers ct_Asker_answers : Value}
    {od_Asker_ahead an_Asker_ahead : Option Addr} {sl_Asker_ahead : Array (Option Value)} {oc_Asker_ahead kV_Asker_ahead dc_Asker_ahead pm_Asker_ahead cd_Asker_ahead ct_Asker_ahead : Value}
    {od_KeyRule_init an_KeyRule_init : Option Addr} {sl_KeyRule_init : Array (Option Value)} {oc_KeyRule_init kV_KeyRule_init dc_KeyRule_init pm_KeyRule_init cd_KeyRule_init ct_KeyRule_init : Value}
    {od_KeyRule_before an_KeyRule_before : Option Addr} {sl_KeyRule_before : Array (Option Value)} {oc_KeyRule_before kV_KeyRule_before dc_KeyRule_before pm_KeyRule_before cd_KeyRule_before ct_KeyRule_before : Value}
    {od_straight an_straight : Option Addr} {sl_straight : Array (Option Value)} {oc_straight kV_straight dc_straight pm_straight cd_straight ct_straight : Value}
    {od_is_number an_is_number : Option Addr} {sl_is_number : Array (Option Value)} {oc_is_number kV_is_number dc_is_number pm_is_number cd_is_number ct_is_number : Value}
    {od_is_paper an_is_paper : Option Addr} {sl_is_paper : Array (Option Value)} {oc_is_paper kV_is_paper dc_is_paper pm_is_paper cd_is_paper ct_is_paper : Value}
    {od_check_paper an_check_paper : Option Addr} {sl_check_paper : Array (Option Value)} {oc_check_paper kV_check_paper dc_check_paper pm_check_paper cd_check_paper ct_check_paper : Value}
    {od_laid an_laid : Option Addr} {sl_laid : Array (Option Value)} {oc_laid kV_laid dc_laid pm_laid cd_laid ct_laid : Value}
    {od_back an_back : Option Addr} {sl_back : Array (Option Value)} {oc_back kV_back dc_back pm_back cd_back ct_back : Value}
    {od_agrees an_agrees : Option Addr} {sl_agrees : Array (Option Value)} {oc_agrees kV_agrees dc_agrees pm_agrees cd_agrees ct_agrees : Value}
    {od_shows an_shows : Option Addr} {sl_shows : Array (Option Value)} {oc_shows kV_shows dc_shows pm_shows cd_shows ct_shows : Value}
    {od_cell_at an_cell_at : Option Addr} {sl_cell_at : Array (Option Value)} {oc_cell_at kV_cell_at dc_cell_at pm_cell_at cd_cell_at ct_cell_at : Value}
    {od_check_at an_check_at : Option Addr} {sl_check_at : Array (Option Value)} {oc_check_at kV_check_at dc_check_at pm_check_at cd_check_at ct_check_at : Value}
    {od_check_column an_check_column : Option Addr} {sl_check_column : Array (Option Value)} {oc_check_column kV_check_column dc_check_column pm_check_column cd_check_column ct_check_column : Value}
    {od_told_pairs an_told_pairs : Option Addr} {sl_told_pairs : Array (Option Value)} {oc_told_pairs kV_told_pairs dc_told_pairs pm_told_pairs cd_told_pairs ct_told_pairs : Value}
    {od_counted_ranks an_counted_ranks : Option Addr} {sl_counted_ranks : Array (Option Value)} {oc_counted_ranks kV_counted_ranks dc_counted_ranks pm_counted_ranks cd_counted_ranks ct_counted_ranks : Value}
    {od_are_ranks an_are_ranks : Option Addr} {sl_are_ranks : Array (Option Value)} {oc_are_ranks kV_are_ranks dc_are_ranks pm_are_ranks cd_are_ranks ct_are_ranks : Value}
    {od_flaw_of an_flaw_of : Option Addr} {sl_flaw_of : Array (Option Value)} {oc_flaw_of kV_flaw_of dc_flaw_of pm_flaw_of cd_flaw_of ct_flaw_of : Value}
    {od_ranked an_ranked : Option Addr} {sl_ranked : Array (Option Value)} {oc_ranked kV_ranked dc_ranked pm_ranked cd_ranked ct_ranked : Value}
    {od_reserve an_reserve : Option Addr} {sl_reserve : Array (Option Value)} {oc_reserve kV_reserve dc_reserve pm_reserve cd_reserve ct_reserve : Value}
    {od_signed an_signed : Option Addr} {sl_signed : Array (Option Value)} {oc_signed kV_signed dc_signed pm_signed cd_signed ct_signed : Value}
    {od_pairs an_pairs : Option Addr} {sl_pairs : Array (Option Value)} {oc_pairs kV_pairs dc_pairs pm_pairs cd_pairs ct_pairs : Value}
    {od_known an_known : Option Addr} {sl_known : Array (Option Value)} {oc_known kV_known dc_known pm_known cd_known ct_known : Value}
    {od_turned an_turned : Option Addr} {sl_turned : Array (Option Value)} {oc_turned kV_turned dc_turned pm_turned cd_turned ct_turned : Value}
    {od_turned_of an_turned_of : Option Addr} {sl_turned_of : Array (Option Value)} {oc_turned_of kV_turned_of dc_turned_of pm_turned_of cd_turned_of ct_turned_of : Value}
    {od_row_of an_row_of : Option Addr} {sl_row_of : Array (Option Value)} {oc_row_of kV_row_of dc_row_of pm_row_of cd_row_of ct_row_of : Value}
    {od_asks an_asks : Option Addr} {sl_asks : Array (Option Value)} {oc_asks kV_asks dc_asks pm_asks cd_asks ct_asks : Value}
    {od_answers an_answers : Option Addr} {sl_answers : Array (Option Value)} {oc_answers kV_answers dc_answers pm_answers cd_answers ct_answers : Value}
    {od_law an_law : Option Addr} {sl_law : Array (Option Value)} {oc_law kV_law dc_law pm_law cd_law ct_law : Value}
    (a_Asker : PySem.W.nsIn K mainGlobals "Asker" = some (some (.ref C_Asker)))
    (pg_Asker : PySem.W.plainGet K C_Asker Str.empty = true)
    (hd_Asker : PySem.W.hasDictIn K C_Asker = true)
    (po_Asker : PySem.W.plainOver K C_Asker = true)
    (sa_Asker : PySem.W.findIn K (.ref C_Asker) "__setattr__" = some (some (.builtin "object.__setattr__")))
    (mk_Asker : PySem.W.makesIn K C_Asker = true)
    (kc_Asker : PySem.W.keepIn K (.ref C_Asker) = true)
    (n_Asker_row : PySem.W.findIn K (.ref C_Asker) "row" = some none)
    (n_Asker_rule : PySem.W.findIn K (.ref C_Asker) "rule" = some none)
    (n_Asker_most : PySem.W.findIn K (.ref C_Asker) "most" = some none)
    (n_Asker_asked : PySem.W.findIn K (.ref C_Asker) "asked" = some none)
    (n_Asker_told : PySem.W.findIn K (.ref C_Asker) "told" = some none)
    (a_Asker_init : PySem.W.findIn K (.ref C_Asker) "__init__" = some (some (.ref f_Asker_init)))
    (i_Asker_init : PySem.W.isFn K (.ref f_Asker_init) = true)
    (l_Asker_init : K.lookup f_Asker_init = some ⟨oc_Asker_init, od_Asker_init, .func (PySem.W.fnOf "__init__" "Asker.__init__" (defArgs s_Asker_init) (defBody s_Asker_init) (defScope s_Asker_init) (.ref T_Asker_init) kV_Asker_init dc_Asker_init pm_Asker_init an_Asker_init cd_Asker_init ct_Asker_init), sl_Asker_init⟩)
    (c_Asker_init : PySem.W.codeIn K cd_Asker_init "Asker.__init__" = true)
    (d_Asker_init : K.lookup T_Asker_init = some ⟨ocT_Asker_init, odT_Asker_init, .seq ([.none] : List Value).toArray nT_Asker_init, slT_Asker_init⟩)
    (k_Asker_init : PySem.W.keepIn K (.ref f_Asker_init) = true)
    (a_Asker_answers : PySem.W.findIn K (.ref C_Asker) "answers" = some (some (.ref f_Asker_answers)))
    (i_Asker_answers : PySem.W.isFn K (.ref f_Asker_answers) = true)
    (l_Asker_answers : K.lookup f_Asker_answers = some ⟨oc_Asker_answers, od_Asker_answers, .func (PySem.W.fnOf "answers" "Asker.answers" (defArgs s_Asker_answers) (defBody s_Asker_answers) (defScope s_Asker_answers) .none kV_Asker_answers dc_Asker_answers pm_Asker_answers an_Asker_answers cd_Asker_answers ct_Asker_answers), sl_Asker_answers⟩)
    (c_Asker_answers : PySem.W.codeIn K cd_Asker_answers "Asker.answers" = true)
    (k_Asker_answers : PySem.W.keepIn K (.ref f_Asker_answers) = true)
    (a_Asker_ahead : PySem.W.findIn K (.ref C_Asker) "ahead" = some (some (.ref f_Asker_ahead)))
    (i_Asker_ahead : PySem.W.isFn K (.ref f_Asker_ahead) = true)
    (l_Asker_ahead : K.lookup f_Asker_ahead = some ⟨oc_Asker_ahead, od_Asker_ahead, .func (PySem.W.fnOf "ahead" "Asker.ahead" (defArgs s_Asker_ahead) (defBody s_Asker_ahead) (defScope s_Asker_ahead) .none kV_Asker_ahead dc_Asker_ahead pm_Asker_ahead an_Asker_ahead cd_Asker_ahead ct_Asker_ahead), sl_Asker_ahead⟩)
    (c_Asker_ahead : PySem.W.codeIn K cd_Asker_ahead "Asker.ahead" = true)
    (k_Asker_ahead : PySem.W.keepIn K (.ref f_Asker_ahead) = true)
    (a_Rule : PySem.W.nsIn K mainGlobals "Rule" = some (some (.ref C_Rule)))
    (pg_Rule : PySem.W.plainGet K C_Rule Str.empty = true)
    (hd_Rule : PySem.W.hasDictIn K C_Rule = true)
    (po_Rule : PySem.W.plainOver K C_Rule = true)
    (sa_Rule : PySem.W.findIn K (.ref C_Rule) "__setattr__" = some (some (.builtin "object.__setattr__")))
    (mk_Rule : PySem.W.makesIn K C_Rule = true)
    (kc_Rule : PySem.W.keepIn K (.ref C_Rule) = true)
    (in_Rule : PySem.W.findIn K (.ref C_Rule) "__init__" = some (some (.builtin "object.__init__")))
    (a_KeyRule : PySem.W.nsIn K mainGlobals "KeyRule" = some (some (.ref C_KeyRule)))
    (pg_KeyRule : PySem.W.plainGet K C_KeyRule Str.empty = true)
    (hd_KeyRule : PySem.W.hasDictIn K C_KeyRule = true)
    (po_KeyRule : PySem.W.plainOver K C_KeyRule = true)
    (sa_KeyRule : PySem.W.findIn K (.ref C_KeyRule) "__setattr__" = some (some (.builtin "object.__setattr__")))
    (mk_KeyRule : PySem.W.makesIn K C_KeyRule = true)
    (kc_KeyRule : PySem.W.keepIn K (.ref C_KeyRule) = true)
    (n_KeyRule_columns : PySem.W.findIn K (.ref C_KeyRule) "columns" = some none)
    (a_KeyRule_init : PySem.W.findIn K (.ref C_KeyRule) "__init__" = some (some (.ref f_KeyRule_init)))
    (i_KeyRule_init : PySem.W.isFn K (.ref f_KeyRule_init) = true)
    (l_KeyRule_init : K.lookup f_KeyRule_init = some ⟨oc_KeyRule_init, od_KeyRule_init, .func (PySem.W.fnOf "__init__" "KeyRule.__init__" (defArgs s_KeyRule_init) (defBody s_KeyRule_init) (defScope s_KeyRule_init) .none kV_KeyRule_init dc_KeyRule_init pm_KeyRule_init an_KeyRule_init cd_KeyRule_init ct_KeyRule_init), sl_KeyRule_init⟩)
    (c_KeyRule_init : PySem.W.codeIn K cd_KeyRule_init "KeyRule.__init__" = true)
    (k_KeyRule_init : PySem.W.keepIn K (.ref f_KeyRule_init) = true)
    (a_KeyRule_before : PySem.W.findIn K (.ref C_KeyRule) "before" = some (some (.ref f_KeyRule_before)))
    (i_KeyRule_before : PySem.W.isFn K (.ref f_KeyRule_before) = true)
    (l_KeyRule_before : K.lookup f_KeyRule_before = some ⟨oc_KeyRule_before, od_KeyRule_before, .func (PySem.W.fnOf "before" "KeyRule.before" (defArgs s_KeyRule_before) (defBody s_KeyRule_before) (defScope s_KeyRule_before) .none kV_KeyRule_before dc_KeyRule_before pm_KeyRule_before an_KeyRule_before cd_KeyRule_before ct_KeyRule_before), sl_KeyRule_before⟩)
    (c_KeyRule_before : PySem.W.codeIn K cd_KeyRule_before "KeyRule.before" = true)
    (k_KeyRule_before : PySem.W.keepIn K (.ref f_KeyRule_before) = true)
    (a_straight : PySem.W.nsIn K mainGlobals "straight" = some (some (.ref f_straight)))
    (l_straight : K.lookup f_straight = some ⟨oc_straight, od_straight, .func (PySem.W.fnOf "straight" "straight" (defArgs s_straight) (defBody s_straight) (defScope s_straight) .none kV_straight dc_straight pm_straight an_straight cd_straight ct_straight), sl_straight⟩)
    (c_straight : PySem.W.codeIn K cd_straight "straight" = true)
    (k_straight : PySem.W.keepIn K (.ref f_straight) = true)
    (a_is_number : PySem.W.nsIn K mainGlobals "is_number" = some (some (.ref f_is_number)))
    (l_is_number : K.lookup f_is_number = some ⟨oc_is_number, od_is_number, .func (PySem.W.fnOf "is_number" "is_number" (defArgs s_is_number) (defBody s_is_number) (defScope s_is_number) .none kV_is_number dc_is_number pm_is_number an_is_number cd_is_number ct_is_number), sl_is_number⟩)
    (c_is_number : PySem.W.codeIn K cd_is_number "is_number" = true)
    (k_is_number : PySem.W.keepIn K (.ref f_is_number) = true)
    (a_is_paper : PySem.W.nsIn K mainGlobals "is_paper" = some (some (.ref f_is_paper)))
    (l_is_paper : K.lookup f_is_paper = some ⟨oc_is_paper, od_is_paper, .func (PySem.W.fnOf "is_paper" "is_paper" (defArgs s_is_paper) (defBody s_is_paper) (defScope s_is_paper) .none kV_is_paper dc_is_paper pm_is_paper an_is_paper cd_is_paper ct_is_paper), sl_is_paper⟩)
    (c_is_paper : PySem.W.codeIn K cd_is_paper "is_paper" = true)
    (k_is_paper : PySem.W.keepIn K (.ref f_is_paper) = true)
    (a_check_paper : PySem.W.nsIn K mainGlobals "check_paper" = some (some (.ref f_check_paper)))
    (l_check_paper : K.lookup f_check_paper = some ⟨oc_check_paper, od_check_paper, .func (PySem.W.fnOf "check_paper" "check_paper" (defArgs s_check_paper) (defBody s_check_paper) (defScope s_check_paper) .none kV_check_paper dc_check_paper pm_check_paper an_check_paper cd_check_paper ct_check_paper), sl_check_paper⟩)
    (c_check_paper : PySem.W.codeIn K cd_check_paper "check_paper" = true)
    (k_check_paper : PySem.W.keepIn K (.ref f_check_paper) = true)
    (a_laid : PySem.W.nsIn K mainGlobals "laid" = some (some (.ref f_laid)))
    (l_laid : K.lookup f_laid = some ⟨oc_laid, od_laid, .func (PySem.W.fnOf "laid" "laid" (defArgs s_laid) (defBody s_laid) (defScope s_laid) .none kV_laid dc_laid pm_laid an_laid cd_laid ct_laid), sl_laid⟩)
    (c_laid : PySem.W.codeIn K cd_laid "laid" = true)
    (k_laid : PySem.W.keepIn K (.ref f_laid) = true)
    (a_back : PySem.W.nsIn K mainGlobals "back" = some (some (.ref f_back)))
    (l_back : K.lookup f_back = some ⟨oc_back, od_back, .func (PySem.W.fnOf "back" "back" (defArgs s_back) (defBody s_back) (defScope s_back) .none kV_back dc_back pm_back an_back cd_back ct_back), sl_back⟩)
    (c_back : PySem.W.codeIn K cd_back "back" = true)
    (k_back : PySem.W.keepIn K (.ref f_back) = true)
    (a_agrees : PySem.W.nsIn K mainGlobals "agrees" = some (some (.ref f_agrees)))
    (l_agrees : K.lookup f_agrees = some ⟨oc_agrees, od_agrees, .func (PySem.W.fnOf "agrees" "agrees" (defArgs s_agrees) (defBody s_agrees) (defScope s_agrees) .none kV_agrees dc_agrees pm_agrees an_agrees cd_agrees ct_agrees), sl_agrees⟩)
    (c_agrees : PySem.W.codeIn K cd_agrees "agrees" = true)
    (k_agrees : PySem.W.keepIn K (.ref f_agrees) = true)
    (a_shows : PySem.W.nsIn K mainGlobals "shows" = some (some (.ref f_shows)))
    (l_shows : K.lookup f_shows = some ⟨oc_shows, od_shows, .func (PySem.W.fnOf "shows" "shows" (defArgs s_shows) (defBody s_shows) (defScope s_shows) .none kV_shows dc_shows pm_shows an_shows cd_shows ct_shows), sl_shows⟩)
    (c_shows : PySem.W.codeIn K cd_shows "shows" = true)
    (k_shows : PySem.W.keepIn K (.ref f_shows) = true)
    (a_cell_at : PySem.W.nsIn K mainGlobals "_law_cell_at" = some (some (.ref f_cell_at)))
    (l_cell_at : K.lookup f_cell_at = some ⟨oc_cell_at, od_cell_at, .func (PySem.W.fnOf "_law_cell_at" "_law_cell_at" (defArgs s_cell_at) (defBody s_cell_at) (defScope s_cell_at) .none kV_cell_at dc_cell_at pm_cell_at an_cell_at cd_cell_at ct_cell_at), sl_cell_at⟩)
    (c_cell_at : PySem.W.codeIn K cd_cell_at "_law_cell_at" = true)
    (k_cell_at : PySem.W.keepIn K (.ref f_cell_at) = true)
    (a_check_at : PySem.W.nsIn K mainGlobals "check_at" = some (some (.ref f_check_at)))
    (l_check_at : K.lookup f_check_at = some ⟨oc_check_at, od_check_at, .func (PySem.W.fnOf "check_at" "check_at" (defArgs s_check_at) (defBody s_check_at) (defScope s_check_at) .none kV_check_at dc_check_at pm_check_at an_check_at cd_check_at ct_check_at), sl_check_at⟩)
    (c_check_at : PySem.W.codeIn K cd_check_at "check_at" = true)
    (k_check_at : PySem.W.keepIn K (.ref f_check_at) = true)
    (a_check_column : PySem.W.nsIn K mainGlobals "check_column" = some (some (.ref f_check_column)))
    (l_check_column : K.lookup f_check_column = some ⟨oc_check_column, od_check_column, .func (PySem.W.fnOf "check_column" "check_column" (defArgs s_check_column) (defBody s_check_column) (defScope s_check_column) .none kV_check_column dc_check_column pm_check_column an_check_column cd_check_column ct_check_column), sl_check_column⟩)
    (c_check_column : PySem.W.codeIn K cd_check_column "check_column" = true)
    (k_check_column : PySem.W.keepIn K (.ref f_check_column) = true)
    (a_told_pairs : PySem.W.nsIn K mainGlobals "told_pairs" = some (some (.ref f_told_pairs)))
    (l_told_pairs : K.lookup f_told_pairs = some ⟨oc_told_pairs, od_told_pairs, .func (PySem.W.fnOf "told_pairs" "told_pairs" (defArgs s_told_pairs) (defBody s_told_pairs) (defScope s_told_pairs) .none kV_told_pairs dc_told_pairs pm_told_pairs an_told_pairs cd_told_pairs ct_told_pairs), sl_told_pairs⟩)
    (c_told_pairs : PySem.W.codeIn K cd_told_pairs "told_pairs" = true)
    (k_told_pairs : PySem.W.keepIn K (.ref f_told_pairs) = true)
    (a_counted_ranks : PySem.W.nsIn K mainGlobals "counted_ranks" = some (some (.ref f_counted_ranks)))
    (l_counted_ranks : K.lookup f_counted_ranks = some ⟨oc_counted_ranks, od_counted_ranks, .func (PySem.W.fnOf "counted_ranks" "counted_ranks" (defArgs s_counted_ranks) (defBody s_counted_ranks) (defScope s_counted_ranks) .none kV_counted_ranks dc_counted_ranks pm_counted_ranks an_counted_ranks cd_counted_ranks ct_counted_ranks), sl_counted_ranks⟩)
    (c_counted_ranks : PySem.W.codeIn K cd_counted_ranks "counted_ranks" = true)
    (k_counted_ranks : PySem.W.keepIn K (.ref f_counted_ranks) = true)
    (a_are_ranks : PySem.W.nsIn K mainGlobals "are_ranks" = some (some (.ref f_are_ranks)))
    (l_are_ranks : K.lookup f_are_ranks = some ⟨oc_are_ranks, od_are_ranks, .func (PySem.W.fnOf "are_ranks" "are_ranks" (defArgs s_are_ranks) (defBody s_are_ranks) (defScope s_are_ranks) .none kV_are_ranks dc_are_ranks pm_are_ranks an_are_ranks cd_are_ranks ct_are_ranks), sl_are_ranks⟩)
    (c_are_ranks : PySem.W.codeIn K cd_are_ranks "are_ranks" = true)
    (k_are_ranks : PySem.W.keepIn K (.ref f_are_ranks) = true)
    (a_flaw_of : PySem.W.nsIn K mainGlobals "flaw_of" = some (some (.ref f_flaw_of)))
    (l_flaw_of : K.lookup f_flaw_of = some ⟨oc_flaw_of, od_flaw_of, .func (PySem.W.fnOf "flaw_of" "flaw_of" (defArgs s_flaw_of) (defBody s_flaw_of) (defScope s_flaw_of) .none kV_flaw_of dc_flaw_of pm_flaw_of an_flaw_of cd_flaw_of ct_flaw_of), sl_flaw_of⟩)
    (c_flaw_of : PySem.W.codeIn K cd_flaw_of "flaw_of" = true)
    (k_flaw_of : PySem.W.keepIn K (.ref f_flaw_of) = true)
    (a_ranked : PySem.W.nsIn K mainGlobals "ranked" = some (some (.ref f_ranked)))
    (l_ranked : K.lookup f_ranked = some ⟨oc_ranked, od_ranked, .func (PySem.W.fnOf "ranked" "ranked" (defArgs s_ranked) (defBody s_ranked) (defScope s_ranked) .none kV_ranked dc_ranked pm_ranked an_ranked cd_ranked ct_ranked), sl_ranked⟩)
    (c_ranked : PySem.W.codeIn K cd_ranked "ranked" = true)
    (k_ranked : PySem.W.keepIn K (.ref f_ranked) = true)
    (a_reserve : PySem.W.nsIn K mainGlobals "_law_reserve" = some (some (.ref f_reserve)))
    (l_reserve : K.lookup f_reserve = some ⟨oc_reserve, od_reserve, .func (PySem.W.fnOf "_law_reserve" "_law_reserve" (defArgs s_reserve) (defBody s_reserve) (defScope s_reserve) .none kV_reserve dc_reserve pm_reserve an_reserve cd_reserve ct_reserve), sl_reserve⟩)
    (c_reserve : PySem.W.codeIn K cd_reserve "_law_reserve" = true)
    (k_reserve : PySem.W.keepIn K (.ref f_reserve) = true)
    (a_signed : PySem.W.nsIn K mainGlobals "_law_signed" = some (some (.ref f_signed)))
    (l_signed : K.lookup f_signed = some ⟨oc_signed, od_signed, .func (PySem.W.fnOf "_law_signed" "_law_signed" (defArgs s_signed) (defBody s_signed) (defScope s_signed) .none kV_signed dc_signed pm_signed an_signed cd_signed ct_signed), sl_signed⟩)
    (c_signed : PySem.W.codeIn K cd_signed "_law_signed" = true)
    (k_signed : PySem.W.keepIn K (.ref f_signed) = true)
    (a_pairs : PySem.W.nsIn K mainGlobals "_law_pairs" = some (some (.ref f_pairs)))
    (l_pairs : K.lookup f_pairs = some ⟨oc_pairs, od_pairs, .func (PySem.W.fnOf "_law_pairs" "_law_pairs" (defArgs s_pairs) (defBody s_pairs) (defScope s_pairs) .none kV_pairs dc_pairs pm_pairs an_pairs cd_pairs ct_pairs), sl_pairs⟩)
    (c_pairs : PySem.W.codeIn K cd_pairs "_law_pairs" = true)
    (k_pairs : PySem.W.keepIn K (.ref f_pairs) = true)
    (a_known : PySem.W.nsIn K mainGlobals "_law_known" = some (some (.ref f_known)))
    (l_known : K.lookup f_known = some ⟨oc_known, od_known, .func (PySem.W.fnOf "_law_known" "_law_known" (defArgs s_known) (defBody s_known) (defScope s_known) .none kV_known dc_known pm_known an_known cd_known ct_known), sl_known⟩)
    (c_known : PySem.W.codeIn K cd_known "_law_known" = true)
    (k_known : PySem.W.keepIn K (.ref f_known) = true)
    (a_turned : PySem.W.nsIn K mainGlobals "_law_turned" = some (some (.ref f_turned)))
    (l_turned : K.lookup f_turned = some ⟨oc_turned, od_turned, .func (PySem.W.fnOf "_law_turned" "_law_turned" (defArgs s_turned) (defBody s_turned) (defScope s_turned) .none kV_turned dc_turned pm_turned an_turned cd_turned ct_turned), sl_turned⟩)
    (c_turned : PySem.W.codeIn K cd_turned "_law_turned" = true)
    (k_turned : PySem.W.keepIn K (.ref f_turned) = true)
    (a_turned_of : PySem.W.nsIn K mainGlobals "_law_turned_of" = some (some (.ref f_turned_of)))
    (l_turned_of : K.lookup f_turned_of = some ⟨oc_turned_of, od_turned_of, .func (PySem.W.fnOf "_law_turned_of" "_law_turned_of" (defArgs s_turned_of) (defBody s_turned_of) (defScope s_turned_of) .none kV_turned_of dc_turned_of pm_turned_of an_turned_of cd_turned_of ct_turned_of), sl_turned_of⟩)
    (c_turned_of : PySem.W.codeIn K cd_turned_of "_law_turned_of" = true)
    (k_turned_of : PySem.W.keepIn K (.ref f_turned_of) = true)
    (a_row_of : PySem.W.nsIn K mainGlobals "_law_row_of" = some (some (.ref f_row_of)))
    (l_row_of : K.lookup f_row_of = some ⟨oc_row_of, od_row_of, .func (PySem.W.fnOf "_law_row_of" "_law_row_of" (defArgs s_row_of) (defBody s_row_of) (defScope s_row_of) .none kV_row_of dc_row_of pm_row_of an_row_of cd_row_of ct_row_of), sl_row_of⟩)
    (c_row_of : PySem.W.codeIn K cd_row_of "_law_row_of" = true)
    (k_row_of : PySem.W.keepIn K (.ref f_row_of) = true)
    (a_asks : PySem.W.nsIn K mainGlobals "_law_asks" = some (some (.ref f_asks)))
    (l_asks : K.lookup f_asks = some ⟨oc_asks, od_asks, .func (PySem.W.fnOf "_law_asks" "_law_asks" (defArgs s_asks) (defBody s_asks) (defScope s_asks) .none kV_asks dc_asks pm_asks an_asks cd_asks ct_asks), sl_asks⟩)
    (c_asks : PySem.W.codeIn K cd_asks "_law_asks" = true)
    (k_asks : PySem.W.keepIn K (.ref f_asks) = true)
    (a_answers : PySem.W.nsIn K mainGlobals "_law_answers" = some (some (.ref f_answers)))
    (l_answers : K.lookup f_answers = some ⟨oc_answers, od_answers, .func (PySem.W.fnOf "_law_answers" "_law_answers" (defArgs s_answers) (defBody s_answers) (defScope s_answers) .none kV_answers dc_answers pm_answers an_answers cd_answers ct_answers), sl_answers⟩)
    (c_answers : PySem.W.codeIn K cd_answers "_law_answers" = true)
    (k_answers : PySem.W.keepIn K (.ref f_answers) = true)
    (a_law : PySem.W.nsIn K mainGlobals "law" = some (some (.ref f_law)))
    (l_law : K.lookup f_law = some ⟨oc_law, od_law, .func (PySem.W.fnOf "law" "law" (defArgs s_law) (defBody s_law) (defScope s_law) .none kV_law dc_law pm_law an_law cd_law ct_law), sl_law⟩)
    (c_law : PySem.W.codeIn K cd_law "law" = true)
    (k_law : PySem.W.keepIn K (.ref f_law) = true)
    (z_GREATEST_AT : PySem.W.nsIn K mainGlobals "GREATEST_AT" = some (some (.int 7 t_GREATEST_AT)))
    (z_UP : PySem.W.nsIn K mainGlobals "UP" = some (some (.str "up" t_UP)))
    (z_DOWN : PySem.W.nsIn K mainGlobals "DOWN" = some (some (.str "down" t_DOWN)))
    (z_len : PySem.W.nsIn K mainGlobals "len" = some none)
    (z_range : PySem.W.nsIn K mainGlobals "range" = some none)
    (z_tuple : PySem.W.nsIn K mainGlobals "tuple" = some none)
    (z_list : PySem.W.nsIn K mainGlobals "list" = some none)
    (z_isinstance : PySem.W.nsIn K mainGlobals "isinstance" = some none)
    (z_bool : PySem.W.nsIn K mainGlobals "bool" = some none)
    (z_int : PySem.W.nsIn K mainGlobals "int" = some none)
    (z_max : PySem.W.nsIn K mainGlobals "max" = some none)
    (z_min : PySem.W.nsIn K mainGlobals "min" = some none)
    (z_all : PySem.W.nsIn K mainGlobals "all" = some none)
    (z_sorted : PySem.W.nsIn K mainGlobals "sorted" = some none)
    (z_enumerate : PySem.W.nsIn K mainGlobals "enumerate" = some none)
    (z_zip : PySem.W.nsIn K mainGlobals "zip" = some none)
    (z_dict : PySem.W.nsIn K mainGlobals "dict" = some none)
    (z_ValueError : PySem.W.nsIn K mainGlobals "ValueError" = some none)
    (kit_int_bool : PySem.W.kitOne K (.type "int") (.type "bool") = some false) :
    ∃ fd : FuncData, (∀ (s : Shared) (v : Value), BindsTo s fd ⟨[v], []⟩ [("_law_script", v)]) ∧ ∀ base : Heap, K.In base → base.Ns mainGlobals mg → FnOk l.prog w K mg base CX0 8 fa fd ["_law_script"] (spLaw K) := by
  have e := hfa.symm.trans (PySem.W.mg_of X G a_law)
  cases e
  have cl_Asker : Cls K C_Asker := ⟨pg_Asker, hd_Asker, po_Asker, sa_Asker⟩
  have F_Asker_init := funD_mk (st := s_Asker_init) l_Asker_init c_Asker_init k_Asker_init d_Asker_init
  have b_Asker_init_4 := F_Asker_init.binds (ps := ["self", "row", "rule", "most"]) (ds := []) fun _ _ _ _ _ _ _ us hl => match us, us_len (n := 4) hl rfl with | [_, _, _, _], _ => ⟨_, rfl, rfl⟩
  have b_Asker_init_3 := F_Asker_init.binds (ps := ["self", "row", "rule", "most"]) (ds := [.none]) fun _ _ _ _ _ _ _ us hl => match us, us_len (n := 3) hl rfl with | [_, _, _], _ => ⟨_, rfl, rfl⟩
  have F_Asker_answers := fun_mk (st := s_Asker_answers) l_Asker_answers c_Asker_answers k_Asker_answers
  have b_Asker_answers := F_Asker_answers.binds (ps := ["self"]) fun _ _ _ _ _ _ us hl => by obtain ⟨_, rfl⟩ := us1 hl; rfl
  have F_Asker_ahead := fun_mk (st := s_Asker_ahead) l_Asker_ahead c_Asker_ahead k_Asker_ahead
  have b_Asker_ahead := F_Asker_ahead.binds (ps := ["self", "p", "q"]) fun _ _ _ _ _ _ us hl => by obtain ⟨_, _, _, rfl⟩ := us3 hl; rfl
  have cl_Rule : Cls K C_Rule := ⟨pg_Rule, hd_Rule, po_Rule, sa_Rule⟩
  have cl_KeyRule : Cls K C_KeyRule := ⟨pg_KeyRule, hd_KeyRule, po_KeyRule, sa_KeyRule⟩
  have F_KeyRule_init := fun_mk (st := s_KeyRule_init) l_KeyRule_init c_KeyRule_init k_KeyRule_init
  have b_KeyRule_init := F_KeyRule_init.binds (ps := ["self", "columns"]) fun _ _ _ _ _ _ us hl => by obtain ⟨_, _, rfl⟩ := us2 hl; rfl
  have F_KeyRule_before := fun_mk (st := s_KeyRule_before) l_KeyRule_before c_KeyRule_before k_KeyRule_before
  have b_KeyRule_before := F_KeyRule_before.binds (ps := ["self", "x", "y"]) fun _ _ _ _ _ _ us hl => by obtain ⟨_, _, _, rfl⟩ := us3 hl; rfl
  have F_straight := fun_mk (st := s_straight) l_straight c_straight k_straight
  have b_straight := F_straight.binds (ps := ["many"]) fun _ _ _ _ _ _ us hl => by obtain ⟨_, rfl⟩ := us1 hl; rfl
  have F_is_number := fun_mk (st := s_is_number) l_is_number c_is_number k_is_number
  have b_is_number := F_is_number.binds (ps := ["some"]) fun _ _ _ _ _ _ us hl => by obtain ⟨_, rfl⟩ := us1 hl; rfl
  have F_is_paper := fun_mk (st := s_is_paper) l_is_paper c_is_paper k_is_paper
  have b_is_paper := F_is_paper.binds (ps := ["some"]) fun _ _ _ _ _ _ us hl => by obtain ⟨_, rfl⟩ := us1 hl; rfl
  have F_check_paper := fun_mk (st := s_check_paper) l_check_paper c_check_paper k_check_paper
  have b_check_paper := F_check_paper.binds (ps := ["some", "many"]) fun _ _ _ _ _ _ us hl => by obtain ⟨_, _, rfl⟩ := us2 hl; rfl
  have F_laid := fun_mk (st := s_laid) l_laid c_laid k_laid
  have b_laid := F_laid.binds (ps := ["row", "paper"]) fun _ _ _ _ _ _ us hl => by obtain ⟨_, _, rfl⟩ := us2 hl; rfl
  have F_back := fun_mk (st := s_back) l_back c_back k_back
  have b_back := F_back.binds (ps := ["paper"]) fun _ _ _ _ _ _ us hl => by obtain ⟨_, rfl⟩ := us1 hl; rfl
  have F_agrees := fun_mk (st := s_agrees) l_agrees c_agrees k_agrees
  have b_agrees := F_agrees.binds (ps := ["paper", "answers"]) fun _ _ _ _ _ _ us hl => by obtain ⟨_, _, rfl⟩ := us2 hl; rfl
  have F_shows := fun_mk (st := s_shows) l_shows c_shows k_shows
  have b_shows := F_shows.binds (ps := ["paper", "answers"]) fun _ _ _ _ _ _ us hl => by obtain ⟨_, _, rfl⟩ := us2 hl; rfl
  have F_cell_at := fun_mk (st := s_cell_at) l_cell_at c_cell_at k_cell_at
  have b_cell_at := F_cell_at.binds (ps := ["_law_script", "_law_k"]) fun _ _ _ _ _ _ us hl => by obtain ⟨_, _, rfl⟩ := us2 hl; rfl
  have F_check_at := fun_mk (st := s_check_at) l_check_at c_check_at k_check_at
  have b_check_at := F_check_at.binds (ps := ["at"]) fun _ _ _ _ _ _ us hl => by obtain ⟨_, rfl⟩ := us1 hl; rfl
  have F_check_column := fun_mk (st := s_check_column) l_check_column c_check_column k_check_column
  have b_check_column := F_check_column.binds (ps := ["at", "way"]) fun _ _ _ _ _ _ us hl => by obtain ⟨_, _, rfl⟩ := us2 hl; rfl
  have F_told_pairs := fun_mk (st := s_told_pairs) l_told_pairs c_told_pairs k_told_pairs
  have b_told_pairs := F_told_pairs.binds (ps := ["row", "rule"]) fun _ _ _ _ _ _ us hl => by obtain ⟨_, _, rfl⟩ := us2 hl; rfl
  have F_counted_ranks := fun_mk (st := s_counted_ranks) l_counted_ranks c_counted_ranks k_counted_ranks
  have b_counted_ranks := F_counted_ranks.binds (ps := ["pairs"]) fun _ _ _ _ _ _ us hl => by obtain ⟨_, rfl⟩ := us1 hl; rfl
  have F_are_ranks := fun_mk (st := s_are_ranks) l_are_ranks c_are_ranks k_are_ranks
  have b_are_ranks := F_are_ranks.binds (ps := ["pairs", "ranks"]) fun _ _ _ _ _ _ us hl => by obtain ⟨_, _, rfl⟩ := us2 hl; rfl
  have F_flaw_of := fun_mk (st := s_flaw_of) l_flaw_of c_flaw_of k_flaw_of
  have b_flaw_of := F_flaw_of.binds (ps := ["pairs"]) fun _ _ _ _ _ _ us hl => by obtain ⟨_, rfl⟩ := us1 hl; rfl
  have F_ranked := fun_mk (st := s_ranked) l_ranked c_ranked k_ranked
  have b_ranked := F_ranked.binds (ps := ["row", "rule"]) fun _ _ _ _ _ _ us hl => by obtain ⟨_, _, rfl⟩ := us2 hl; rfl
  have F_reserve := fun_mk (st := s_reserve) l_reserve c_reserve k_reserve
  have b_reserve := F_reserve.binds (ps := ["_law_cell", "_law_k"]) fun _ _ _ _ _ _ us hl => by obtain ⟨_, _, rfl⟩ := us2 hl; rfl
  have F_signed := fun_mk (st := s_signed) l_signed c_signed k_signed
  have b_signed := F_signed.binds (ps := ["_law_digit"]) fun _ _ _ _ _ _ us hl => by obtain ⟨_, rfl⟩ := us1 hl; rfl
  have F_pairs := fun_mk (st := s_pairs) l_pairs c_pairs k_pairs
  have b_pairs := F_pairs.binds (ps := ["_law_cells", "_law_many"]) fun _ _ _ _ _ _ us hl => by obtain ⟨_, _, rfl⟩ := us2 hl; rfl
  have F_known := fun_mk (st := s_known) l_known c_known k_known
  have b_known := F_known.binds (ps := ["_law_paper", "_law_asked"]) fun _ _ _ _ _ _ us hl => by obtain ⟨_, _, rfl⟩ := us2 hl; rfl
  have F_turned := fun_mk (st := s_turned) l_turned c_turned k_turned
  have b_turned := F_turned.binds (ps := ["_law_paper", "_law_cell"]) fun _ _ _ _ _ _ us hl => by obtain ⟨_, _, rfl⟩ := us2 hl; rfl
  have F_turned_of := fun_mk (st := s_turned_of) l_turned_of c_turned_of k_turned_of
  have b_turned_of := F_turned_of.binds (ps := ["_law_paper", "_law_cell"]) fun _ _ _ _ _ _ us hl => by obtain ⟨_, _, rfl⟩ := us2 hl; rfl
  have F_row_of := fun_mk (st := s_row_of) l_row_of c_row_of k_row_of
  have b_row_of := F_row_of.binds (ps := ["_law_script"]) fun _ _ _ _ _ _ us hl => by obtain ⟨_, rfl⟩ := us1 hl; rfl
  have F_asks := fun_mk (st := s_asks) l_asks c_asks k_asks
  have b_asks := F_asks.binds (ps := ["_law_script", "_law_paper"]) fun _ _ _ _ _ _ us hl => by obtain ⟨_, _, rfl⟩ := us2 hl; rfl
  have F_answers := fun_mk (st := s_answers) l_answers c_answers k_answers
  have b_answers := F_answers.binds (ps := ["_law_asker", "_law_paper", "_law_turn", "_law_asked"]) fun _ _ _ _ _ _ us hl => by obtain ⟨_, _, _, _, rfl⟩ := us4 hl; rfl
  have F_law := fun_mk (st := s_law) l_law c_law k_law
  have b_law := F_law.binds (ps := ["_law_script"]) fun _ _ _ _ _ _ us hl => by obtain ⟨_, rfl⟩ := us1 hl; rfl
  have T : Bt K mg C_Asker C_Rule C_KeyRule := ⟨PySem.W.mg_none_of X G z_len, PySem.W.mg_none_of X G z_range, PySem.W.mg_none_of X G z_tuple, PySem.W.mg_none_of X G z_list, PySem.W.mg_none_of X G z_isinstance, PySem.W.mg_none_of X G z_bool, PySem.W.mg_none_of X G z_int, PySem.W.mg_none_of X G z_max, PySem.W.mg_none_of X G z_min, PySem.W.mg_none_of X G z_all, PySem.W.mg_none_of X G z_sorted, PySem.W.mg_none_of X G z_enumerate, PySem.W.mg_none_of X G z_zip, PySem.W.mg_none_of X G z_dict, PySem.W.mg_none_of X G z_ValueError, ⟨_, PySem.W.mg_of X G z_GREATEST_AT⟩, ⟨_, PySem.W.mg_of X G z_UP⟩, ⟨_, PySem.W.mg_of X G z_DOWN⟩, PySem.W.mg_of X G a_Asker, cl_Asker, n_Asker_row, n_Asker_rule, n_Asker_most, n_Asker_asked, n_Asker_told, PySem.W.mg_of X G a_Rule, cl_Rule, PySem.W.mg_of X G a_KeyRule, cl_KeyRule, n_KeyRule_columns, kit_int_bool⟩
  refine ⟨PySem.W.fnOf "law" "law" (defArgs s_law) (defBody s_law) (defScope s_law) .none kV_law dc_law pm_law an_law cd_law ct_law, fun s v => .of_eq rfl, fun base _ _ => ?_⟩
  have f_cell_at' : Fn l.prog w K mg base CX0 "_law_cell_at" 1 ["_law_script", "_law_k"] (spCell K) := ⟨_, _, ok_cell_at F_cell_at T , b_cell_at, k_cell_at, PySem.W.mg_of X G a_cell_at⟩
  have f_signed' : Fn l.prog w K mg base CX0 "_law_signed" 1 ["_law_digit"] (spSigned27) := ⟨_, _, ok_signed F_signed T , b_signed, k_signed, PySem.W.mg_of X G a_signed⟩
  have f_row_of' : Fn l.prog w K mg base CX0 "_law_row_of" 2 ["_law_script"] (spRowOf27 K) := ⟨_, _, ok_row_of F_row_of T f_cell_at' f_signed', b_row_of, k_row_of, PySem.W.mg_of X G a_row_of⟩
  have t_KeyRule_before' : Mt l.prog w K mg base CX0 C_KeyRule "before" 1 ["self", "x", "y"] (spKeyBefore K C_KeyRule) := ⟨cl_KeyRule, _, _, ok_KeyRule_before F_KeyRule_before T , b_KeyRule_before, a_KeyRule_before, i_KeyRule_before, k_KeyRule_before⟩
  have f_told_pairs' : Fn l.prog w K mg base CX0 "told_pairs" 2 ["row", "rule"] (spTold27 K C_KeyRule) := ⟨_, _, ok_told_pairs F_told_pairs T t_KeyRule_before', b_told_pairs, k_told_pairs, PySem.W.mg_of X G a_told_pairs⟩
  have f_straight' : Fn l.prog w K mg base CX0 "straight" 1 ["many"] (spStraight) := ⟨_, _, ok_straight F_straight T , b_straight, k_straight, PySem.W.mg_of X G a_straight⟩
  have f_counted_ranks' : Fn l.prog w K mg base CX0 "counted_ranks" 2 ["pairs"] (spCounted) := ⟨_, _, ok_counted_ranks F_counted_ranks T f_straight', b_counted_ranks, k_counted_ranks, PySem.W.mg_of X G a_counted_ranks⟩
  have f_are_ranks' : Fn l.prog w K mg base CX0 "are_ranks" 1 ["pairs", "ranks"] (spAreRanks) := ⟨_, _, ok_are_ranks F_are_ranks T , b_are_ranks, k_are_ranks, PySem.W.mg_of X G a_are_ranks⟩
  have f_flaw_of' : Fn l.prog w K mg base CX0 "flaw_of" 1 ["pairs"] (spNever) := ⟨_, _, ok_flaw_of F_flaw_of T , b_flaw_of, k_flaw_of, PySem.W.mg_of X G a_flaw_of⟩
  have f_ranked' : Fn l.prog w K mg base CX0 "ranked" 3 ["row", "rule"] (spRanked27 K C_KeyRule) := ⟨_, _, ok_ranked F_ranked T f_told_pairs' f_counted_ranks' f_are_ranks' f_flaw_of', b_ranked, k_ranked, PySem.W.mg_of X G a_ranked⟩
  have f_is_number' : Fn l.prog w K mg base CX0 "is_number" 1 ["some"] (spIsNumber) := ⟨_, _, ok_is_number F_is_number T , b_is_number, k_is_number, PySem.W.mg_of X G a_is_number⟩
  have f_is_paper' : Fn l.prog w K mg base CX0 "is_paper" 2 ["some"] (spIsPaper) := ⟨_, _, ok_is_paper F_is_paper T f_straight' f_is_number', b_is_paper, k_is_paper, PySem.W.mg_of X G a_is_paper⟩
  have f_check_paper' : Fn l.prog w K mg base CX0 "check_paper" 3 ["some", "many"] (spCheckPaper) := ⟨_, _, ok_check_paper F_check_paper T f_is_paper', b_check_paper, k_check_paper, PySem.W.mg_of X G a_check_paper⟩
  have f_laid' : Fn l.prog w K mg base CX0 "laid" 4 ["row", "paper"] (spLaid) := ⟨_, _, ok_laid F_laid T f_check_paper', b_laid, k_laid, PySem.W.mg_of X G a_laid⟩
  have f_pairs' : Fn l.prog w K mg base CX0 "_law_pairs" 1 ["_law_cells", "_law_many"] (spPairs27 K) := ⟨_, _, ok_pairs F_pairs T , b_pairs, k_pairs, PySem.W.mg_of X G a_pairs⟩
  have f_turned' : Fn l.prog w K mg base CX0 "_law_turned" 1 ["_law_paper", "_law_cell"] (spTurned27) := ⟨_, _, ok_turned F_turned T , b_turned, k_turned, PySem.W.mg_of X G a_turned⟩
  have f_reserve' : Fn l.prog w K mg base CX0 "_law_reserve" 1 ["_law_cell", "_law_k"] (spReserve) := ⟨_, _, ok_reserve F_reserve T , b_reserve, k_reserve, PySem.W.mg_of X G a_reserve⟩
  have f_turned_of' : Fn l.prog w K mg base CX0 "_law_turned_of" 2 ["_law_paper", "_law_cell"] (spTurned27) := ⟨_, _, ok_turned_of F_turned_of T f_reserve', b_turned_of, k_turned_of, PySem.W.mg_of X G a_turned_of⟩
  have f_asks' : Fn l.prog w K mg base CX0 "_law_asks" 3 ["_law_script", "_law_paper"] (spAsks27 K) := ⟨_, _, ok_asks F_asks T f_pairs' f_turned' f_cell_at' f_turned_of', b_asks, k_asks, PySem.W.mg_of X G a_asks⟩
  have f_back' : Fn l.prog w K mg base CX0 "back" 4 ["paper"] (spBack) := ⟨_, _, ok_back F_back T f_check_paper' f_straight', b_back, k_back, PySem.W.mg_of X G a_back⟩
  have f_agrees' : Fn l.prog w K mg base CX0 "agrees" 5 ["paper", "answers"] (spAgrees) := ⟨_, _, ok_agrees F_agrees T f_back', b_agrees, k_agrees, PySem.W.mg_of X G a_agrees⟩
  have f_shows' : Fn l.prog w K mg base CX0 "shows" 6 ["paper", "answers"] (spShows) := ⟨_, _, ok_shows F_shows T f_agrees', b_shows, k_shows, PySem.W.mg_of X G a_shows⟩
  have f_known' : Fn l.prog w K mg base CX0 "_law_known" 1 ["_law_paper", "_law_asked"] (spKnown27) := ⟨_, _, ok_known F_known T , b_known, k_known, PySem.W.mg_of X G a_known⟩
  have t_Asker_answers' : Mt l.prog w K mg base CX0 C_Asker "answers" 1 ["self"] (spAnswers C_Asker) := ⟨cl_Asker, _, _, ok_Asker_answers F_Asker_answers T , b_Asker_answers, a_Asker_answers, i_Asker_answers, k_Asker_answers⟩
  have f_answers' : Fn l.prog w K mg base CX0 "_law_answers" 7 ["_law_asker", "_law_paper", "_law_turn", "_law_asked"] (spAns27 C_Asker C_KeyRule) := ⟨_, _, ok_answers F_answers T f_shows' f_agrees' f_known' t_Asker_answers', b_answers, k_answers, PySem.W.mg_of X G a_answers⟩
  have t_Asker_ahead' : Mt l.prog w K mg base CX0 C_Asker "ahead" 2 ["self", "p", "q"] (spAheadK C_Asker C_KeyRule (spKeyBefore K C_KeyRule)) := ⟨cl_Asker, _, _, ok_Asker_ahead F_Asker_ahead T t_KeyRule_before', b_Asker_ahead, a_Asker_ahead, i_Asker_ahead, k_Asker_ahead⟩
  have f_check_at' : Fn l.prog w K mg base CX0 "check_at" 1 ["at"] (spCheck) := ⟨_, _, ok_check_at F_check_at T , b_check_at, k_check_at, PySem.W.mg_of X G a_check_at⟩
  have f_check_column' : Fn l.prog w K mg base CX0 "check_column" 2 ["at", "way"] (spCheckCol) := ⟨_, _, ok_check_column F_check_column T f_check_at', b_check_column, k_check_column, PySem.W.mg_of X G a_check_column⟩
  have k_KeyRule' : Kl l.prog w K mg base CX0 "KeyRule" C_KeyRule 3 ["self", "columns"] (spKeyInit K C_KeyRule) := ⟨PySem.W.mg_of X G a_KeyRule, _, _, ok_KeyRule_init F_KeyRule_init T f_check_column', b_KeyRule_init, mk_KeyRule, a_KeyRule_init, i_KeyRule_init, kc_KeyRule⟩
  have k_Asker_3' : KlD l.prog w K mg base CX0 "Asker" C_Asker 1 ["self", "row", "rule", "most"] (spAskerInit C_Asker) [.non] := ⟨PySem.W.mg_of X G a_Asker, _, _, _, ok_Asker_init F_Asker_init T , b_Asker_init_3, (.cons rfl .nil), mk_Asker, a_Asker_init, i_Asker_init, kc_Asker⟩
  exact ok_law F_law T f_row_of' f_ranked' f_laid' f_asks' f_answers' f_shows' f_cell_at' t_Asker_ahead' t_Asker_answers' k_KeyRule' k_Asker_3'
theorem walk {l : PySem.W.OpenLaw} {q : Program} {loose : List Str} {XP : (Str → Option Value) → Heap → Prop} {YP : World → Heap → Prop} {d : DefRec} {K : Params → PySem.W.Frag} (hn : l.most = some 63) (hdf : d.params.defaults = [])
    (hY : ∀ (w : World) (h : Heap), YP w h → (K w.params).In h)
    (F : ∀ (w : World) (mg : Str → Option Value) (fa : Addr) (h : Heap), (K w.params).In h → h.Ns mainGlobals mg → mg d.name = some (.ref fa) →
      ∃ fd : FuncData, (∀ (s : Shared) (u : Value), BindsTo s fd ⟨[u], []⟩ [("_law_script", u)]) ∧ ∀ base : Heap, (K w.params).In base → base.Ns mainGlobals mg → FnOk l.prog w (K w.params) mg base CX0 8 fa fd ["_law_script"] (spLaw (K w.params))) :
    PySem.W.WalkO q loose XP YP l.row.toRowW d [] (fun f vs => PySem.call f vs) :=
  L2.walk_of (n := 63) (k := 8) (x := "_law_script") (CX := fun _ => CX0) (sp := fun w => spLaw (K w.params)) hn (by decide) hdf ⟨rfl, by decide, by decide⟩ hY F (fun _ _ a ns hl _ hS => ⟨a, ns, rfl, hS, hl, fun _ => rfl⟩) fun _ _ _ _ _ z => z
end Law
open PySem PySem.W PyProof.Rows
set_option maxRecDepth 100000 in
set_option maxHeartbeats 0 in
theorem PySem.Challenge.cw_sorthall_k27_whole_asks_that_show_holds : PySem.Challenge.rw_sorthall_k27_whole_asks_that_show.Holds := by
  refine L2.hd0 ?_
  k_fill
  refine Law.walk (l := PySem.Challenge.rw_sorthall_k27_whole_asks_that_show) rfl rfl (fun w h Y => PySem.W.kIn_of Y) ?F
  case F =>
    intro w mg fa h KX G hmg
    refine' Law.all_mk KX G hmg ?a_Asker ?pg_Asker ?hd_Asker ?po_Asker ?sa_Asker ?mk_Asker ?kc_Asker ?n_Asker_row ?n_Asker_rule ?n_Asker_most ?n_Asker_asked ?n_Asker_told ?a_Asker_init ?i_Asker_init ?l_Asker_init ?c_Asker_init ?d_Asker_init ?k_Asker_init ?a_Asker_answers ?i_Asker_answers ?l_Asker_answers ?c_Asker_answers ?k_Asker_answers ?a_Asker_ahead ?i_Asker_ahead ?l_Asker_ahead ?c_Asker_ahead ?k_Asker_ahead ?a_Rule ?pg_Rule ?hd_Rule ?po_Rule ?sa_Rule ?mk_Rule ?kc_Rule ?in_Rule ?a_KeyRule ?pg_KeyRule ?hd_KeyRule ?po_KeyRule ?sa_KeyRule ?mk_KeyRule ?kc_KeyRule ?n_KeyRule_columns ?a_KeyRule_init ?i_KeyRule_init ?l_KeyRule_init ?c_KeyRule_init ?k_KeyRule_init ?a_KeyRule_before ?i_KeyRule_before ?l_KeyRule_before ?c_KeyRule_before ?k_KeyRule_before ?a_straight ?l_straight ?c_straight ?k_straight ?a_is_number ?l_is_number ?c_is_number ?k_is_number ?a_is_paper ?l_is_paper ?c_is_paper ?k_is_paper ?a_check_paper ?l_check_paper ?c_check_paper ?k_check_paper ?a_laid ?l_laid ?c_laid ?k_laid ?a_back ?l_back ?c_back ?k_back ?a_agrees ?l_agrees ?c_agrees ?k_agrees ?a_shows ?l_shows ?c_shows ?k_shows ?a_cell_at ?l_cell_at ?c_cell_at ?k_cell_at ?a_check_at ?l_check_at ?c_check_at ?k_check_at ?a_check_column ?l_check_column ?c_check_column ?k_check_column ?a_told_pairs ?l_told_pairs ?c_told_pairs ?k_told_pairs ?a_counted_ranks ?l_counted_ranks ?c_counted_ranks ?k_counted_ranks ?a_are_ranks ?l_are_ranks ?c_are_ranks ?k_are_ranks ?a_flaw_of ?l_flaw_of ?c_flaw_of ?k_flaw_of ?a_ranked ?l_ranked ?c_ranked ?k_ranked ?a_reserve ?l_reserve ?c_reserve ?k_reserve ?a_signed ?l_signed ?c_signed ?k_signed ?a_pairs ?l_pairs ?c_pairs ?k_pairs ?a_known ?l_known ?c_known ?k_known ?a_turned ?l_turned ?c_turned ?k_turned ?a_turned_of ?l_turned_of ?c_turned_of ?k_turned_of ?a_row_of ?l_row_of ?c_row_of ?k_row_of ?a_asks ?l_asks ?c_asks ?k_asks ?a_answers ?l_answers ?c_answers ?k_answers ?a_law ?l_law ?c_law ?k_law ?z_GREATEST_AT ?z_UP ?z_DOWN ?z_len ?z_range ?z_tuple ?z_list ?z_isinstance ?z_bool ?z_int ?z_max ?z_min ?z_all ?z_sorted ?z_enumerate ?z_zip ?z_dict ?z_ValueError ?kit_int_bool
    (case a_Asker => k_is)
    (case pg_Asker => k_is)
    (case hd_Asker => k_is)
    (case po_Asker => k_is)
    (case sa_Asker => k_is)
    (case mk_Asker => k_is)
    (case kc_Asker => k_is)
    (case n_Asker_row => k_is)
    (case n_Asker_rule => k_is)
    (case n_Asker_most => k_is)
    (case n_Asker_asked => k_is)
    (case n_Asker_told => k_is)
    (case a_Asker_init => k_is)
    (case i_Asker_init => k_is)
    (case l_Asker_init => k_is)
    (case c_Asker_init => k_is)
    (case d_Asker_init => k_is)
    (case k_Asker_init => k_is)
    (case a_Asker_answers => k_is)
    (case i_Asker_answers => k_is)
    (case l_Asker_answers => k_is)
    (case c_Asker_answers => k_is)
    (case k_Asker_answers => k_is)
    (case a_Asker_ahead => k_is)
    (case i_Asker_ahead => k_is)
    (case l_Asker_ahead => k_is)
    (case c_Asker_ahead => k_is)
    (case k_Asker_ahead => k_is)
    (case a_Rule => k_is)
    (case pg_Rule => k_is)
    (case hd_Rule => k_is)
    (case po_Rule => k_is)
    (case sa_Rule => k_is)
    (case mk_Rule => k_is)
    (case kc_Rule => k_is)
    (case in_Rule => k_is)
    (case a_KeyRule => k_is)
    (case pg_KeyRule => k_is)
    (case hd_KeyRule => k_is)
    (case po_KeyRule => k_is)
    (case sa_KeyRule => k_is)
    (case mk_KeyRule => k_is)
    (case kc_KeyRule => k_is)
    (case n_KeyRule_columns => k_is)
    (case a_KeyRule_init => k_is)
    (case i_KeyRule_init => k_is)
    (case l_KeyRule_init => k_is)
    (case c_KeyRule_init => k_is)
    (case k_KeyRule_init => k_is)
    (case a_KeyRule_before => k_is)
    (case i_KeyRule_before => k_is)
    (case l_KeyRule_before => k_is)
    (case c_KeyRule_before => k_is)
    (case k_KeyRule_before => k_is)
    (case a_straight => k_is)
    (case l_straight => k_is)
    (case c_straight => k_is)
    (case k_straight => k_is)
    (case a_is_number => k_is)
    (case l_is_number => k_is)
    (case c_is_number => k_is)
    (case k_is_number => k_is)
    (case a_is_paper => k_is)
    (case l_is_paper => k_is)
    (case c_is_paper => k_is)
    (case k_is_paper => k_is)
    (case a_check_paper => k_is)
    (case l_check_paper => k_is)
    (case c_check_paper => k_is)
    (case k_check_paper => k_is)
    (case a_laid => k_is)
    (case l_laid => k_is)
    (case c_laid => k_is)
    (case k_laid => k_is)
    (case a_back => k_is)
    (case l_back => k_is)
    (case c_back => k_is)
    (case k_back => k_is)
    (case a_agrees => k_is)
    (case l_agrees => k_is)
    (case c_agrees => k_is)
    (case k_agrees => k_is)
    (case a_shows => k_is)
    (case l_shows => k_is)
    (case c_shows => k_is)
    (case k_shows => k_is)
    (case a_cell_at => k_is)
    (case l_cell_at => k_is)
    (case c_cell_at => k_is)
    (case k_cell_at => k_is)
    (case a_check_at => k_is)
    (case l_check_at => k_is)
    (case c_check_at => k_is)
    (case k_check_at => k_is)
    (case a_check_column => k_is)
    (case l_check_column => k_is)
    (case c_check_column => k_is)
    (case k_check_column => k_is)
    (case a_told_pairs => k_is)
    (case l_told_pairs => k_is)
    (case c_told_pairs => k_is)
    (case k_told_pairs => k_is)
    (case a_counted_ranks => k_is)
    (case l_counted_ranks => k_is)
    (case c_counted_ranks => k_is)
    (case k_counted_ranks => k_is)
    (case a_are_ranks => k_is)
    (case l_are_ranks => k_is)
    (case c_are_ranks => k_is)
    (case k_are_ranks => k_is)
    (case a_flaw_of => k_is)
    (case l_flaw_of => k_is)
    (case c_flaw_of => k_is)
    (case k_flaw_of => k_is)
    (case a_ranked => k_is)
    (case l_ranked => k_is)
    (case c_ranked => k_is)
    (case k_ranked => k_is)
    (case a_reserve => k_is)
    (case l_reserve => k_is)
    (case c_reserve => k_is)
    (case k_reserve => k_is)
    (case a_signed => k_is)
    (case l_signed => k_is)
    (case c_signed => k_is)
    (case k_signed => k_is)
    (case a_pairs => k_is)
    (case l_pairs => k_is)
    (case c_pairs => k_is)
    (case k_pairs => k_is)
    (case a_known => k_is)
    (case l_known => k_is)
    (case c_known => k_is)
    (case k_known => k_is)
    (case a_turned => k_is)
    (case l_turned => k_is)
    (case c_turned => k_is)
    (case k_turned => k_is)
    (case a_turned_of => k_is)
    (case l_turned_of => k_is)
    (case c_turned_of => k_is)
    (case k_turned_of => k_is)
    (case a_row_of => k_is)
    (case l_row_of => k_is)
    (case c_row_of => k_is)
    (case k_row_of => k_is)
    (case a_asks => k_is)
    (case l_asks => k_is)
    (case c_asks => k_is)
    (case k_asks => k_is)
    (case a_answers => k_is)
    (case l_answers => k_is)
    (case c_answers => k_is)
    (case k_answers => k_is)
    (case a_law => k_is)
    (case l_law => k_is)
    (case c_law => k_is)
    (case k_law => k_is)
    (case z_GREATEST_AT => k_is)
    (case z_UP => k_is)
    (case z_DOWN => k_is)
    (case z_len => k_is)
    (case z_range => k_is)
    (case z_tuple => k_is)
    (case z_list => k_is)
    (case z_isinstance => k_is)
    (case z_bool => k_is)
    (case z_int => k_is)
    (case z_max => k_is)
    (case z_min => k_is)
    (case z_all => k_is)
    (case z_sorted => k_is)
    (case z_enumerate => k_is)
    (case z_zip => k_is)
    (case z_dict => k_is)
    (case z_ValueError => k_is)
    (case kit_int_bool => kit_is)
