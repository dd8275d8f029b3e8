import PyProof.Rows.All
import Wide.All
import OpenK.AllK
import Wide.FinOn
import Lean
import PyProof.EqAt
import PyProof.EqKinds
import PyProof.TupleCall
import KE.KRevIter
import PyProof.CollectIter
import PyProof.SumWalkG
import KE.KDictOf
import PyProof.IsiH_list
import PyProof.RaisesAny
import PyProof.P3In
import PyProof.Rows.SortRuns
import PyProof.Rows.SortShell
import KE.KSortTup
import PySem.Challenge.RW_sorthall_k44_whole_whatever_is_told
set_option Elab.async false
set_option linter.all false
set_option maxRecDepth 100000
open Nat renaming le_refl → yAA, zero_le → yAH, le_trans → yAK, ne_of_lt → yAN, lt_of_lt_of_le → yAQ, le_succ → yAY, le_of_lt → yBI, pow_succ → yBL, zero_add → yBP, sub_self → yBQ, lt_irrefl → yBR, lt_succ_self → yBS, min_eq_left → yCD, one_le_two_pow → yCF
open List renaming length_map → yAB, length_append → yAC, mem_cons → yAD, mem_cons_self → yAE, length_cons → yAF, getElem?_eq_some_iff → yAG, append_assoc → yAI, mem_cons_of_mem → yAJ, getElem?_eq_getElem → yAM, mem_of_getElem? → yAO, length_take → yAP, getElem?_map → yAR, size_toArray → yAS, map_cons → yAT, mem_append → yAU, length_singleton → yAV, map_append → yAW, length_drop → yAZ, mem_singleton → yBA, mem_map → yBB, take_of_length_le → yBC, mem_append_right → yBE, append_nil → yBF, getElem?_append_right → yBG, getElem?_append_left → yBH, replicate_succ → yBJ, lookup_cons → yBN, perm_append_comm → yBO, nodup_cons → yBT, getElem?_eq_none → yBU, getElem?_of_mem → yBV, length_nil → yBW, take_append_drop → yBX, extract_eq_drop_take → yBZ, drop_zero → yCA, length_replicate → yCB, take_add_one → yCE, not_mem_nil → yCG
open Array renaming length_toList → yAL, getElem?_toList → yBD, toList_append → yBK, getElem?_eq_some_iff → yBM, toList_extract → yBY, toList_reverse → yCC
open Bool renaming false_ne_true → yAX
namespace L2
open PySem PySem.W
def vw (p : Program) (ix : List Nat) : Program := { p with main := { p.main with body := ix.filterMap fun i => p.main.body[i]? } }
def Vw : Program := vw PySem.Challenge.pw_sorthall_k44_whole_whatever_is_told [0, 2, 4, 5, 6, 7, 8, 10, 11, 13, 15, 16, 18, 19, 20, 21, 22, 23, 24, 25, 26, 27, 28, 29]
set_option hygiene false in
local macro_rules | `(tactic| o_head $H) => `(tactic| (refine holds_open (q := L2.Vw) (loose := []) (Xt := fun s => xlAt L2.Vw [] s && recOk (RowW.records _) s) (XP := XL L2.Vw []) (Yf := Hook.obs $H) (Ya := Hook.val $H) (YP := Hook.says $H) (N := 4736) ?hl (Hook.of $H) (Hook.keeps $H) (fun s e => xl_of s (Bool.and_eq_true_iff.mp e).1) XL.keeps (by rfl) (by rfl) (by rfl) (fun s e => recFacts_of (Bool.and_eq_true_iff.mp e).2) (by rfl) (by first | assumption | decide +kernel) (by decide +kernel) ⟨rfl, rfl, rfl, rfl, rfl, by decide +kernel⟩ ?hw ?hc; (case hl => (intro w; kernel_rfl))))
set_option maxHeartbeats 0 in
open_top hd0 for PySem.Challenge.rw_sorthall_k44_whole_whatever_is_told
end L2
-- CHANGE: your row's module here, as the last of these rows
namespace L2
open PySem PySem.Spec PyProof.Rows
abbrev Key := Sum Int Str
def keyIs : Key -> Value -> Bool
  | .inl k, v => Value.isInt k v
  | .inr x, v => Value.isStrOf x v
def keyH (w : World) : Key -> Int
  | .inl k => hashInt k
  | .inr x => hashStr w x
theorem ZAo : ∀ {k : Key} {v : Value}, keyIs k v = true -> (∃ i t, k = Sum.inl i /\ v = Value.int i t) ∨ (∃ x t, k = Sum.inr x /\ v = Value.str x t)
  | .inl i, v, h => by
    obtain ⟨t, e⟩ := Value.isInt_shape (k := i) (v := v) h
    exact .inl ⟨i, t, rfl, e⟩
  | .inr x, v, h => by
    obtain ⟨t, e⟩ := Value.isStrOf_shape (x := x) (v := v) h
    exact .inr ⟨x, t, rfl, e⟩
theorem key_ll (a b : Int) : decide ((Sum.inl a : Key) = Sum.inl b) = (a == b) := by
  by_cases e : a = b
  . subst e; simp
  . have h : ¬ (Sum.inl a : Key) = Sum.inl b := fun q => e (Sum.inl.inj q)
    rw [decide_eq_false h]
    exact (beq_eq_false_iff_ne.mpr e).symm
theorem key_rr (a b : Str) : decide ((Sum.inr a : Key) = Sum.inr b) = decide (a = b) := by
  by_cases e : a = b
  . subst e; simp
  . have h : ¬ (Sum.inr a : Key) = Sum.inr b := fun q => e (Sum.inr.inj q)
    rw [decide_eq_false h, decide_eq_false e]
theorem key_lr (a : Int) (b : Str) : decide ((Sum.inl a : Key) = Sum.inr b) = false := decide_eq_false (fun q => nomatch q)
theorem key_rl (a : Str) (b : Int) : decide ((Sum.inr a : Key) = Sum.inl b) = false := decide_eq_false (fun q => nomatch q)
def mixKind (prog : Program) (w : World) : PySem.KeyKind prog w Key where
  is := keyIs
  hash := keyH w
  inj := fun v a b ha hb => by
    rcases ZAo ha with ⟨i, t, rfl, rfl⟩ | ⟨x, t, rfl, rfl⟩
    . rcases ZAo hb with ⟨j, u, rfl, e⟩ | ⟨y, u, rfl, e⟩
      . injection e with e1 _; rw [e1]
      . exact nomatch e
    . rcases ZAo hb with ⟨j, u, rfl, e⟩ | ⟨y, u, rfl, e⟩
      . exact nomatch e
      . injection e with e1 _; rw [e1]
  byValue := fun k v h => by
    rcases ZAo h with ⟨i, t, rfl, rfl⟩ | ⟨x, t, rfl, rfl⟩ <;> rfl
  pyHash := fun hv h => by
    rcases ZAo hv with ⟨i, t, rfl, rfl⟩ | ⟨x, t, rfl, rfl⟩
    . exact wpAny_pyHash_int h
    . exact wpAny_pyHash_str h
  eqBool := fun hu hv h => by
    rcases ZAo hu with ⟨i, t, rfl, rfl⟩ | ⟨x, t, rfl, rfl⟩
    . rcases ZAo hv with ⟨j, u, rfl, rfl⟩ | ⟨y, u, rfl, rfl⟩
      . rw [key_ll] at h; exact wpAny_eqBool_int h
      . rw [key_lr] at h; exact SeqAt.EqAt.int_str i t y u _ _ _ _ h
    . rcases ZAo hv with ⟨j, u, rfl, rfl⟩ | ⟨y, u, rfl, rfl⟩
      . rw [key_rl] at h; exact SeqAt.EqAt.str_int x t j u _ _ _ _ h
      . rw [key_rr] at h; exact wpAny_eqBool_str h
  «strs» := fun k x t v h => by
    rcases ZAo h with ⟨i, u, rfl, e⟩ | ⟨y, u, rfl, e⟩
    . exact nomatch e
    . injection e with e1 _
      subst e1
      cases v <;> rfl
inductive V where
  | non | bl (b : Bool) | int (i : Int) | str (x : Str) | byt (b : Array UInt8) | flt (b : UInt64) | ref (a : Addr) | ty (n : String)
  deriving DecidableEq
def RelV : V -> Value -> Prop
  | .non, u => u = Value.none
  | .bl b, u => u = Value.bool b
  | .int i, u => ∃ t, u = Value.int i t
  | .str x, u => ∃ t, u = Value.str x t
  | .byt b, u => ∃ t, u = Value.bytes b t
  | .flt b, u => ∃ t, u = Value.float b t
  | .ref a, u => u = Value.ref a
  | .ty n, u => u = Value.type n
abbrev Vals : List V -> List Value -> Prop := Paired RelV
theorem Vals.length {xs : List V} {us : List Value} (r : Vals xs us) : xs.length = us.length := Paired.length r
theorem Vals.get : ∀ {xs : List V} {us : List Value} {i : Nat} {x : V}, Vals xs us -> xs[i]? = some x -> ∃ u, us[i]? = some u /\ RelV x u
  | _, _, _, _, .nil, e => by simp at e
  | _, _, 0, _, .cons r _, e => by simp at e; subst e; exact ⟨_, rfl, r⟩
  | _, _, i + 1, x, .cons _ t, e => by
    obtain ⟨u, h1, h2⟩ := Vals.get (i := i) (x := x) t (by simpa using e)
    exact ⟨u, by simpa using h1, h2⟩
theorem Vals.set {x : V} {u : Value} (r : RelV x u) : ∀ {xs : List V} {us : List Value} (i : Nat), Vals xs us -> Vals (xs.set i x) (us.set i u)
  | _, _, _, .nil => .nil
  | _, _, 0, .cons _ t => .cons r t
  | _, _, i + 1, .cons q t => .cons q (Vals.set r i t)
theorem Vals.append : ∀ {xs ys : List V} {us ws : List Value}, Vals xs us -> Vals ys ws -> Vals (xs ++ ys) (us ++ ws)
  | _, _, _, _, .nil, s => s
  | _, _, _, _, .cons r t, s => .cons r (Vals.append t s)
theorem Vals.take : ∀ {xs : List V} {us : List Value} (n : Nat), Vals xs us -> Vals (xs.take n) (us.take n)
  | _, _, 0, _ => .nil
  | _, _, _ + 1, .nil => .nil
  | _, _, n + 1, .cons r t => .cons r (Vals.take n t)
theorem Vals.drop : ∀ {xs : List V} {us : List Value} (n : Nat), Vals xs us -> Vals (xs.drop n) (us.drop n)
  | _, _, 0, r => r
  | _, _, _ + 1, .nil => .nil
  | _, _, n + 1, .cons _ t => Vals.drop n t
def RelO : Option V -> Option Value -> Prop
  | some v, some u => RelV v u
  | none, none => True
  | _, _ => False
def KV {κ : Type} : List (κ × V) -> List (κ × Value) -> Prop := Paired fun (p : κ × V) (q : κ × Value) => p.1 = q.1 /\ RelV p.2 q.2
def kV : Key -> V
  | .inl i => .int i
  | .inr x => .str x
inductive HO where
  /-- a list -/
  | lst (xs : List V)
  /-- a tuple (never changes) -/
  | tup (xs : List V)
  /-- a dict whose keys are ints and texts; one whose keys are tuples of ints and texts (the empty one is both) -/
  | dK (kvs : List (Key × V)) | dT (kvs : List (List Key × V))
  /-- a set of ints: its members, its size -/
  | set (S : Int -> Bool) (n : Nat)
  /-- an instance of the class at C, its dict at dx, its attributes -/
  | ins (C dx : Addr) (fs : List (Str × V))
  /-- the dict of the instance at x -/
  | own (x : Addr)
  /-- the dict of an exception -/
  | xd (fs : List (Str × V))
  /-- a bound method, f of x -/
  | met (f x : Addr)
  /-- a range object lo, lo + 1, .. below hi -/
  | rng (lo hi : Int)
  /-- a thing that is known to the object (the script; a dict while a loop walks it): read, never written while it is so -/
  | frz (o : Obj) (u : HO)
  /-- a code object's table -/
  | tbl (ps : Array Value)
  /-- any other thing, by what is true of its one object (a def of one's own: SetO a S n := HO.ext fun h => ..) -/
  | ext (φ : Heap -> Prop)
abbrev Hp := Addr -> Option HO
def upd (H : Hp) (a : Addr) (o : HO) : Hp := fun b => if b = a then some o else H b
theorem ZAF {H : Hp} {a : Addr} {o : HO} : upd H a o a = some o := by unfold upd; rw [if_pos rfl]
theorem ZAI {H : Hp} {a b : Addr} {o : HO} (h : b ≠ a) : upd H a o b = H b := by unfold upd; rw [if_neg h]
theorem upd_upd {H : Hp} {a : Addr} {o u : HO} : upd (upd H a o) a u = upd H a u := by
  funext b; unfold upd; split <;> rfl
theorem ZAD {H : Hp} {a b : Addr} {o : HO} (h : H a = some o) (h' : H b = none) : a ≠ b := by
  intro e; subst e; rw [h] at h'; cases h'
section
variable (P : Program) (w : World)
def ObjOk (H : Hp) (h : Heap) (a : Addr) : HO -> Prop
  | .lst xs => xs.length <= sizeLine /\ ∃ (its : List Value) (n : Nat), Vals xs its /\ h.get? a = some { cls := .type "list", data := .seq its.toArray n }
  | .tup xs => xs.length <= sizeLine /\ ∃ its : List Value, Vals xs its /\ IsTup h a its.toArray
  | .dK kvs => kvs.length <= sizeLine /\ (a == sysModules) = false /\ ∃ vs, KV kvs vs /\ h.DictOf (mixKind P w) a vs
  | .dT kvs => kvs.length <= sizeLine /\ (a == sysModules) = false /\ ∃ xs : List (List Key × Addr × Value),
      Paired (fun (p : List Key × V) (q : List Key × Addr × Value) => p.1 = q.1 /\ H q.2.1 = some (.tup (p.1.map kV)) /\ RelV p.2 q.2.2) kvs xs /\
      ∃ o es ep, h.get? a = some o /\ o.ExactDict /\ o.data = .dict es ep /\ es.toList = xs.map (entryOfKey (tupleKind (mixKind P w))) /\ (xs.map (·.1)).Nodup
  | .set S n => h.SetOf (intKind P w) a S n
  | .ins C dx fs => H dx = some (.own a) /\ fs.length <= 1000 /\ dx ≠ a /\ h.get? a = some (PySem.W.instObj C dx) /\
      ∃ mA, h.Ns1 dx mA /\ (∀ f, RelO (fs.lookup f) (mA f)) /\ PySem.Within mA (fs.map (·.1))
  | .own _ => ∃ o, h.get? a = some o
  | .xd fs => ∃ mA, h.Ns1 a mA /\ ∀ f, RelO (fs.lookup f) (mA f)
  | .rng lo hi => ∃ t u v, h.get? a = some { cls := .type "range", data := .fields #[.int lo t, .int hi u, .int 1 v] }
  | .frz o u => h.get? a = some o /\ ObjOk H h a u
  | .tbl ps => h.get? a = some { cls := .none, data := .fields ps }
  | .met f x => h.get? a = some (PySem.W.methodObj (.ref f) (.ref x))
  | .ext φ => φ h /\ (∃ o, h.get? a = some o) /\ ∀ h1 h2 : Heap, φ h1 -> (∀ o, h1.get? a = some o -> h2.get? a = some o) -> φ h2
def HOk (H : Hp) (h : Heap) : Prop := ∀ a o, H a = some o -> ObjOk P w H h a o
end
section
variable {P : Program} {w : World} {H H' : Hp} {h h' : Heap} {a : Addr} {o : HO}
theorem ObjOk.lt (x : ObjOk P w H h a o) : a < h.objs.size := by
  cases o with
  | lst xs => obtain ⟨_, _, _, _, e⟩ := x; exact Heap.lt_size e
  | tup xs => obtain ⟨_, _, _, p⟩ := x; exact p.lt
  | dK kvs => obtain ⟨_, _, _, _, o, _, _, e, _⟩ := x; exact Heap.lt_size e
  | dT kvs => obtain ⟨_, _, _, _, o, _, _, e, _⟩ := x; exact Heap.lt_size e
  | set S n => obtain ⟨o, _, _, _, e, _⟩ := x; exact Heap.lt_size e
  | ins C dx fs => obtain ⟨_, _, _, e, _⟩ := x; exact Heap.lt_size e
  | own y => obtain ⟨_, e⟩ := x; exact Heap.lt_size e
  | xd fs => obtain ⟨_, ⟨_, _, _, e, _⟩, _⟩ := x; exact Heap.lt_size e
  | rng lo hi => obtain ⟨_, _, _, e⟩ := x; exact Heap.lt_size e
  | frz ob u => obtain ⟨e, _⟩ := x; exact Heap.lt_size e
  | tbl ps => exact Heap.lt_size (show h.get? a = some _ from x)
  | met f y => exact Heap.lt_size (show h.get? a = some _ from x)
  | ext φ => obtain ⟨_, ⟨_, e⟩, _⟩ := x; exact Heap.lt_size e
theorem Paired.mapP {α β : Type} {F G : α -> β -> Prop} : ∀ {l₁ : List α} {l₂ : List β}, Paired F l₁ l₂ -> (∀ a b, F a b -> G a b) -> Paired G l₁ l₂
  | _, _, .nil, _ => .nil
  | _, _, .cons r t, f => .cons (f _ _ r) (Paired.mapP t f)
theorem ObjOk.stay (x : ObjOk P w H h a o) (k : ∀ b u, (b = a ∨ H b = some (.own a)) -> h.get? b = some u -> h'.get? b = some u)
    (ho : ∀ b, H b = some (.own a) -> H' b = some (.own a)) (ht : ∀ b xs, H b = some (.tup xs) -> H' b = some (.tup xs)) : ObjOk P w H' h' a o := by
  induction o with
  | lst xs => obtain ⟨z, its, n, r, e⟩ := x; exact ⟨z, its, n, r, k _ _ (.inl rfl) e⟩
  | tup xs => obtain ⟨z, its, r, ob, e, c⟩ := x; exact ⟨z, its, r, ob, k _ _ (.inl rfl) e, c⟩
  | dK kvs => obtain ⟨z, y, vs, r, ob, es, ep, e, c⟩ := x; exact ⟨z, y, vs, r, ob, es, ep, k _ _ (.inl rfl) e, c⟩
  | dT kvs =>
    obtain ⟨z, y, xs, r, ob, es, ep, e, c⟩ := x
    exact ⟨z, y, xs, Paired.mapP r fun p q z => ⟨z.1, ht _ _ z.2.1, z.2.2⟩, ob, es, ep, k _ _ (.inl rfl) e, c⟩
  | set S n => obtain ⟨ob, es, ep, t, e, c⟩ := x; exact ⟨ob, es, ep, t, k _ _ (.inl rfl) e, c⟩
  | ins C dx fs =>
    obtain ⟨d, z, ne, e, mA, ⟨od, es, ep, e2, c⟩, r⟩ := x
    exact ⟨ho _ d, z, ne, k _ _ (.inl rfl) e, mA, ⟨od, es, ep, k _ _ (.inr d) e2, c⟩, r⟩
  | own y => obtain ⟨ob, e⟩ := x; exact ⟨ob, k _ _ (.inl rfl) e⟩
  | xd fs => obtain ⟨mA, ⟨od, es, ep, e, c⟩, r⟩ := x; exact ⟨mA, ⟨od, es, ep, k _ _ (.inl rfl) e, c⟩, r⟩
  | rng lo hi => obtain ⟨t, u, v, e⟩ := x; exact ⟨t, u, v, k _ _ (.inl rfl) e⟩
  | frz ob u ih => obtain ⟨e, q⟩ := x; exact ⟨k _ _ (.inl rfl) e, ih q⟩
  | tbl ps =>
    have e : h.get? a = some { cls := .none, data := .fields ps } := x
    show h'.get? a = some { cls := .none, data := .fields ps }
    exact k a _ (.inl rfl) e
  | met f y =>
    have e : h.get? a = some (PySem.W.methodObj (.ref f) (.ref y)) := x
    show h'.get? a = some (PySem.W.methodObj (.ref f) (.ref y))
    exact k a _ (.inl rfl) e
  | ext φ => obtain ⟨p, ⟨o, e⟩, st⟩ := x; exact ⟨st _ _ p fun o q => k _ _ (.inl rfl) q, ⟨o, k _ _ (.inl rfl) e⟩, st⟩
theorem HOk.lt (x : HOk P w H h) (e : H a = some o) : a < h.objs.size := (x a o e).lt
theorem HOk.fresh (x : HOk P w H h) (e : h.objs.size <= a) : H a = none := by
  cases q : H a with
  | none => rfl
  | some u => exact absurd (yAQ (x.lt q) e) (yBR _)
theorem HOk.kept (x : HOk P w H h) (k : ∀ b u, h.get? b = some u -> h'.get? b = some u) : HOk P w H h' := fun a o e =>
  (x a o e).stay (fun b u _ q => k b u q) (fun _ q => q) fun _ _ q => q
theorem HOk.laid (x : HOk P w H h) (k : ∀ b u, h.get? b = some u -> h'.get? b = some u) (hp : h.objs.size <= a) (new : ObjOk P w (upd H a o) h' a o) : HOk P w (upd H a o) h' := fun b u e => by
  have hn := x.fresh hp
  by_cases hb : b = a
  . subst hb; rw [ZAF] at e; cases e; exact new
  . rw [ZAI hb] at e
    exact (x b u e).stay (fun c v _ q => k c v q) (fun c q => by rw [ZAI (ZAD q hn)]; exact q) fun c xs q => by rw [ZAI (ZAD q hn)]; exact q
end
def Rd (H : Hp) (a : Addr) (u : HO) : Prop := H a = some u ∨ ∃ o, H a = some (.frz o u)
theorem Rd.ok {P : Program} {w : World} {H : Hp} {h : Heap} {a : Addr} {u : HO} (r : Rd H a u) (x : HOk P w H h) : ObjOk P w H h a u := by
  rcases r with r | ⟨o, r⟩
  . exact x a u r
  . obtain ⟨_, q⟩ := x a _ r
    exact q
def Mut : Option HO -> Prop
  | some (.lst _) => True
  | some (.dK _) => True
  | some (.dT _) => True
  | some (.set _ _) => True
  | some (.ins _ _ _) => True
  | some (.ext _) => True
  | _ => False
section
variable {P : Program} {w : World} {H : Hp} {h h' : Heap} {x e : Addr} {o' : HO}
theorem HOk.write (ok : HOk P w H h) (mu : Mut (H x)) (he : e = x ∨ H e = some (.own x)) (k : ∀ b u, b ≠ e -> h.get? b = some u -> h'.get? b = some u) (heo : ∃ u, h'.get? e = some u)
    (new : ObjOk P w (upd H x o') h' x o') : HOk P w (upd H x o') h' := fun b u q => by
  have nown : ∀ c y, H c = some (.own y) -> c ≠ x := fun c y r z => by subst z; rw [r] at mu; exact mu
  have ntup : ∀ c xs, H c = some (.tup xs) -> c ≠ x := fun c xs r z => by subst z; rw [r] at mu; exact mu
  by_cases hb : b = x
  . subst hb; rw [ZAF] at q; cases q; exact new
  . rw [ZAI hb] at q
    by_cases hbe : b = e
    . have q' : H b = some (.own x) := by
        rcases he with z | z
        . exact absurd (hbe.trans z) hb
        . rw [hbe]; exact z
      rw [q] at q'; cases q'
      obtain ⟨v, hv⟩ := heo
      exact ⟨v, by rw [hbe]; exact hv⟩
    . refine (ok b u q).stay (fun c v hc r => k c v ?_ r) (fun c r => by rw [ZAI (nown c b r)]; exact r) fun c xs r => by rw [ZAI (ntup c xs r)]; exact r
      rcases hc with rfl | hc
      . exact hbe
      . rintro rfl
        rcases he with z | z
        . exact nown c b hc z
        . rw [hc] at z; cases z; exact hb rfl
end
structure Un (fs ex : List Addr) (H H' : Hp) (h h' : Heap) : Prop where
  keep : ∀ b o, h.get? b = some o -> H b = none -> b ∉ fs -> b ∉ ex -> h'.get? b = some o
  slot : ∀ b o, h.get? b = some o -> H b = none -> b ∈ fs -> b ∉ ex -> ∃ sl, h'.get? b = some { o with slots := sl }
  free : ∀ b o, h.get? b = some o -> H b = none -> b ∉ ex -> H' b = none
  there : ∀ b o, h.get? b = some o -> b ∉ ex -> ∃ o', h'.get? b = some o'
  tups : ∀ b xs, H b = some (.tup xs) -> H' b = some (.tup xs)
  frzs : ∀ b o u, H b = some (.frz o u) -> H' b = some (.frz o u)
  tbls : ∀ b ps, H b = some (.tbl ps) -> ∃ more, H' b = some (.tbl (ps ++ more))
section
variable {fs fs' ex ex' : List Addr} {H H1 H2 : Hp} {h h1 h2 h' : Heap} {a x e : Addr} {o : HO}
theorem Un.any (u : Un fs ex H H1 h h1) {b : Addr} {ob : Obj} (q : h.get? b = some ob) (n : H b = none) (hx : b ∉ ex) : ∃ sl, h1.get? b = some { ob with slots := sl } := by
  by_cases hb : b ∈ fs
  . exact u.slot b ob q n hb hx
  . exact ⟨ob.slots, u.keep b ob q n hb hx⟩
theorem Un.kept (k : ∀ b u, h.get? b = some u -> h'.get? b = some u) : Un fs ex H H h h' :=
  ⟨fun b ob q _ _ _ => k b ob q, fun b ob q _ _ _ => ⟨ob.slots, k b ob q⟩, fun _ _ _ n _ => n, fun b ob q _ => ⟨ob, k b ob q⟩, fun _ _ q => q, fun _ _ _ q => q, fun _ ps q => ⟨#[], by rw [q]; simp⟩⟩
theorem Un.refl : Un fs ex H H h h := Un.kept fun _ _ q => q
theorem Un.laid (k : ∀ b u, h.get? b = some u -> h'.get? b = some u) (hp : h.objs.size <= a) (hn : H a = none) : Un fs ex H (upd H a o) h h' where
  keep := fun b u q _ _ _ => k b u q
  slot := fun b u q _ _ _ => ⟨u.slots, k b u q⟩
  free := fun b u q n _ => by rw [ZAI (yAN (yAQ (Heap.lt_size q) hp))]; exact n
  there := fun b u q _ => ⟨u, k b u q⟩
  tups := fun b xs q => by rw [ZAI (ZAD q hn)]; exact q
  frzs := fun b u xs q => by rw [ZAI (ZAD q hn)]; exact q
  tbls := fun b ps q => ⟨#[], by rw [ZAI (ZAD q hn), q]; simp⟩
theorem Un.write (mu : Mut (H x)) (he : e = x ∨ H e = some (.own x)) (k : ∀ b u, b ≠ e -> h.get? b = some u -> h'.get? b = some u) (heo : ∃ u, h'.get? e = some u) : Un fs ex H (upd H x o) h h' := by
  have hx : ∀ b, H b = none -> b ≠ x := fun b n z => by subst z; rw [n] at mu; exact mu
  have hb : ∀ b, H b = none -> b ≠ e := fun b n z => by
    subst z
    rcases he with r | r
    . exact hx b n r
    . rw [n] at r; cases r
  have hm : ∀ b u, H b = some u -> ¬ Mut (some u) -> b ≠ x := fun b u q nm z => by subst z; rw [q] at mu; exact nm mu
  refine ⟨fun b u q n _ _ => k b u (hb b n) q, fun b u q n _ _ => ⟨u.slots, k b u (hb b n) q⟩, fun b u q n _ => by rw [ZAI (hx b n)]; exact n, fun b u q _ => ?_,
    fun b xs q => by rw [ZAI (hm b _ q fun z => z)]; exact q, fun b u xs q => by rw [ZAI (hm b _ q fun z => z)]; exact q, fun b ps q => ⟨#[], by rw [ZAI (hm b _ q fun z => z), q]; simp⟩⟩
  by_cases hbe : b = e
  . subst hbe; exact heo
  . exact ⟨u, k b u hbe q⟩
end
def trk (h : Heap) (H : Hp) : List Addr := (List.range h.objs.size).filter fun a => (H a).isSome
def hidT (h : Heap) (H : Hp) : Heap := PySem.W.hideAll h (trk h H)
theorem hidT_size (h : Heap) (H : Hp) : (hidT h H).objs.size = h.objs.size := PySem.W.hideAll_size _ _
theorem hidT_get {h : Heap} {H : Hp} {b : Addr} {o : Obj} (e : h.get? b = some o) (n : H b = none) : (hidT h H).get? b = some o :=
  PySem.W.hideAll_get _ e fun hm => by
    have q : (H b).isSome = true := (List.mem_filter.mp hm).2
    rw [n] at q; simp at q
theorem of_hidT {h : Heap} {H : Hp} {b : Addr} {o : Obj} (e : (hidT h H).get? b = some o) : h.get? b = some o /\ H b = none := by
  have e' : h.get? b = some o := PySem.W.of_hideAll (trk h H) e
  refine ⟨e', ?_⟩
  cases q : H b with
  | none => rfl
  | some x =>
    have hm : b ∈ trk h H := List.mem_filter.mpr ⟨List.mem_range.mpr (Heap.lt_size e'), by simp [q]⟩
    have z : (hidT h H).get? b = none := PySem.W.hideAll_none (trk h H) hm
    rw [z] at e; cases e
structure Mod (K : W.Frag) (mg : Str -> Option Value) (base : Heap) : Prop where
  kin : K.In base
  glob : base.Ns mainGlobals mg
  blt : ∃ mb, base.Ns builtinsNs mb /\ ∀ x : Str, x ≠ "__name__" -> mb x = bootBuiltins x
  nolimit : base.NoLimit
/-- the context: a def's body (or a comprehension's block) running. base: fixed through the whole law; s₀, H₀: the entry; outer: the frames whose slots others may change (a def's callers); stack: all frames that run;
   ex: iterators that were made ahead of the entry and are walked here (a comprehension's); fn: the names whose cells were made at the entry (a def: all; a comprehension's block: its own); calm: not within an except suite; pn: pins that every state bears; xe: what is wanted of an exception that leaves the code -/
structure Cx where
  prog : Program
  w : World
  K : W.Frag
  mg : Str -> Option Value
  base : Heap
  A : Around
  N : List Str
  s₀ : Shared
  H₀ : Hp
  env : Env
  outer : List Env
  stack : List Env
  ex : List Addr
  fn : Str -> Bool
  calm : Bool
  pn : List (Addr × Obj)
  xe : Value -> Shared -> Prop
def frs (l : List Env) : List Addr := l.filterMap (·.frame)
abbrev Cx.fs (X : Cx) : List Addr := frs X.outer
def Vis (sc : Scope) (x : Str) : Prop := sc.names.lookup x = some .local ∨ sc.names.lookup x = some .cell ∨ sc.names.lookup x = some .free
def Loc (sc : Scope) (x : Str) : Prop := sc.names.lookup x = some .local ∨ sc.names.lookup x = some .cell
def Look (env : Env) (h : Heap) (m : Str -> Option Value) (x : Str) (u : Value) : Prop :=
  (env.kindOf x = some .local /\ m x = some u) ∨ ((env.kindOf x = some .cell ∨ env.kindOf x = some .free) /\ ∃ c, env.cells.lookup x = some c /\ h.IsCell c (some u))
structure Cx.Ok (X : Cx) : Prop where
  mod : Mod X.K X.mg X.base
  kind : X.env.scope.kind = .function
  glob : X.env.globals = mainGlobals
  blt : X.env.builtins = builtinsNs
  above : X.s₀.heap.objs.size <= X.env.locals
  inj : ∀ x y c, X.env.cells.lookup x = some c -> X.env.cells.lookup y = some c -> x = y
  has : ∀ x, (X.env.kindOf x = some .cell ∨ X.env.kindOf x = some .free) -> ∃ c, X.env.cells.lookup x = some c
  cab : ∀ x c, X.fn x = true -> X.env.cells.lookup x = some c -> X.s₀.heap.objs.size <= c
  hd : X.calm = true -> X.A.handled = none
  frames : X.A.frames = some X.stack
  stk : X.stack = X.outer ∨ (X.stack = X.env :: X.outer /\ X.env.frame = some X.env.locals)
  exf : ∀ b ∈ X.ex, b ≠ X.env.locals /\ ∀ x c, X.env.cells.lookup x = some c -> c ≠ b
  bs : ∀ b o, X.base.get? b = some o -> X.s₀.heap.get? b = some o /\ X.H₀ b = none
  bsz : X.base.objs.size <= X.s₀.heap.objs.size
  noex : ∀ b o, X.base.get? b = some o -> b ∉ X.ex
  exfs : ∀ b ∈ X.ex, b ∉ X.fs
  funs : X.s₀.heap.FunFrames X.base X.outer
  frf : ∀ b ∈ X.fs, X.H₀ b = none
structure Inv (X : Cx) (pins : List (Addr × Obj)) (σ : List (Option V)) (H : Hp) (s : Shared) : Prop where
  ok : X.Ok
  os : s.os = X.s₀.os
  bare : AllBare s.gens
  base : Un X.fs X.ex X.H₀ H X.s₀.heap s.heap
  loc : ∃ m, s.heap.Ns X.env.locals m /\ ∀ (i : Nat) (x : Str) (v : V), X.N[i]? = some x -> σ[i]? = some (some v) -> Vis X.env.scope x -> ∃ u, RelV v u /\ Look X.env s.heap m x u
  cell : ∀ x c, X.env.cells.lookup x = some c -> ∃ v, s.heap.IsCell c v
  free : H X.env.locals = none
  freeC : ∀ x c, X.env.cells.lookup x = some c -> H c = none
  pin : ∀ p ∈ X.pn ++ pins, s.heap.get? p.1 = some p.2 /\ H p.1 = none /\ p.1 ≠ X.env.locals /\ p.1 ∉ X.fs /\ ∀ v, p.2.data ≠ .cell v
  hok : HOk X.prog X.w H s.heap
  len : σ.length = X.N.length
section
variable {X : Cx} {pins : List (Addr × Obj)} {σ : List (Option V)} {H H' : Hp} {s : Shared} {h' : Heap}
theorem Cx.Ok.nofr (ok : X.Ok) {b : Addr} {o : Obj} (e : X.base.get? b = some o) : b ∉ X.fs := fun hb => by
  have := (ok.funs.mem hb).1
  rw [e] at this; cases this
theorem Inv.bs (I : Inv X pins σ H s) : ∀ b o, X.base.get? b = some o -> s.heap.get? b = some o /\ H b = none := fun b o e =>
  ⟨I.base.keep b o (I.ok.bs b o e).1 (I.ok.bs b o e).2 (I.ok.nofr e) (I.ok.noex b o e), I.base.free b o (I.ok.bs b o e).1 (I.ok.bs b o e).2 (I.ok.noex b o e)⟩
theorem Inv.bk (I : Inv X pins σ H s) : ∀ b o, X.base.get? b = some o -> s.heap.get? b = some o := fun b o e => (I.bs b o e).1
theorem Inv.mod (I : Inv X pins σ H s) : Mod X.K X.mg X.base := I.ok.mod
theorem Inv.kIn (I : Inv X pins σ H s) : X.K.In s.heap := I.ok.mod.kin.keeps I.bk
theorem Inv.lt (I : Inv X pins σ H s) : X.env.locals < s.heap.objs.size := let ⟨_, hn, _⟩ := I.loc; hn.lt
theorem Inv.sz (I : Inv X pins σ H s) : X.s₀.heap.objs.size <= s.heap.objs.size := yAK I.ok.above (yBI I.lt)
theorem Inv.nofs (I : Inv X pins σ H s) {a : Addr} (h : s.heap.objs.size <= a) : a ∉ X.fs := fun hb => by
  obtain ⟨_, o, ho, _⟩ := I.ok.funs.mem hb
  exact absurd (yAQ (Heap.lt_size ho) (yAK I.sz h)) (yBR _)
theorem Inv.cne (I : Inv X pins σ H s) : ∀ x c, X.env.cells.lookup x = some c -> c ≠ X.env.locals := fun x c e z => by
  obtain ⟨v, o, ho, hd⟩ := I.cell x c e
  obtain ⟨m, ⟨o', es, ep, ho', hd', _⟩, _⟩ := I.loc
  rw [z, ho'] at ho; cases ho; rw [hd'] at hd; cases hd
theorem Inv.funs (I : Inv X pins σ H s) : s.heap.FunFrames X.base X.outer := by
  have all : ∀ (l : List Env), (∀ b ∈ frs l, b ∈ X.fs) -> X.s₀.heap.FunFrames X.base l -> s.heap.FunFrames X.base l := by
    intro l
    induction l with
    | nil => intro _ _; trivial
    | cons env r ih =>
      intro hs hl
      obtain ⟨hk, ⟨L, o, hf, hn, ho, hd⟩, hr⟩ := hl
      have hL : L ∈ X.fs := hs L (by unfold frs; rw [List.filterMap_cons, hf]; exact yAE)
      obtain ⟨sl, e⟩ := I.base.slot L o ho (I.ok.frf L hL) hL fun z => I.ok.exfs L z hL
      exact ⟨hk, ⟨L, _, hf, hn, e, hd⟩, ih (fun b hb => hs b (by unfold frs; rw [List.filterMap_cons, hf]; exact yAJ _ hb)) hr⟩
  exact all X.outer (fun _ hb => hb) I.ok.funs
theorem Inv.stack (I : Inv X pins σ H s) : s.heap.FunFrames X.base X.stack := by
  rcases I.ok.stk with e | ⟨e, hf⟩
  . rw [e]; exact I.funs
  . rw [e]
    obtain ⟨m, hn, _⟩ := I.loc
    refine .cons (by rw [I.ok.kind]; decide) hf hn ?_ I.funs
    exact Heap.get?_none_of_le (yAK I.ok.bsz I.ok.above)
theorem Inv.stkSub (I : Inv X pins σ H s) : ∀ b ∈ frs X.stack, b ∈ X.env.locals :: X.fs := fun b hb => by
  rcases I.ok.stk with e | ⟨e, hf⟩
  . rw [e] at hb; exact yAJ _ hb
  . rw [e] at hb
    unfold frs at hb
    rw [List.filterMap_cons, hf] at hb
    exact hb
theorem Inv.stkFree (I : Inv X pins σ H s) : ∀ b ∈ frs X.stack, H b = none := fun b hb => by
  rcases yAD.mp (I.stkSub b hb) with e | hb
  . rw [e]; exact I.free
  . obtain ⟨_, o, ho, _⟩ := I.ok.funs.mem hb
    exact I.base.free b o ho (I.ok.frf b hb) fun z => I.ok.exfs b z hb
theorem Inv.step {g' : Array GenState} {t' : Nat} {d' : Drawn} {ch : List Addr} (I : Inv X pins σ H s)
    (hch : ∀ b ∈ ch, (b ∈ X.ex ∨ X.s₀.heap.objs.size <= b) /\ b ≠ X.env.locals /\ (∀ x c, X.env.cells.lookup x = some c -> c ≠ b) /\ ∀ p ∈ X.pn ++ pins, p.1 ≠ b)
    (keep : ∀ b o, b ≠ X.env.locals -> b ∉ X.fs -> b ∉ ch -> s.heap.get? b = some o -> H b = none -> h'.get? b = some o)
    (slot : ∀ b o, b ≠ X.env.locals -> b ∈ X.fs -> b ∉ ch -> s.heap.get? b = some o -> H b = none -> ∃ sl, h'.get? b = some { o with slots := sl }) (free : ∀ b o, b ∉ ch -> s.heap.get? b = some o -> H b = none -> H' b = none)
    (there : ∀ b o, b ∉ ch -> s.heap.get? b = some o -> ∃ o', h'.get? b = some o')
    (tups : ∀ b xs, H b = some (.tup xs) -> H' b = some (.tup xs)) (frzs : ∀ b o u, H b = some (.frz o u) -> H' b = some (.frz o u)) (tbls : ∀ b ps, H b = some (.tbl ps) -> ∃ more, H' b = some (.tbl (ps ++ more)))
    (ns : ∀ m, s.heap.Ns X.env.locals m -> h'.Ns X.env.locals m) (hok : HOk X.prog X.w H' h') (hg : AllBare g') :
    Inv X pins σ H' { s with heap := h', gens := g', drawn := d', toks := t' } := by
  have neL : ∀ b o, X.s₀.heap.get? b = some o -> b ≠ X.env.locals := fun b o e => yAN (yAQ (Heap.lt_size e) I.ok.above)
  have neC : ∀ b o, X.s₀.heap.get? b = some o -> b ∉ X.ex -> b ∉ ch := fun b o e hx hb => by
    rcases (hch b hb).1 with z | z
    . exact hx z
    . exact absurd (yAQ (Heap.lt_size e) z) (yBR _)
  have cellK : ∀ x c, X.env.cells.lookup x = some c -> ∀ v, s.heap.IsCell c v -> h'.IsCell c v := fun x c e v ⟨o, ho, hd⟩ => by
    have nch : c ∉ ch := fun z => (hch c z).2.2.1 x c e rfl
    by_cases hc : c ∈ X.fs
    . obtain ⟨sl, q⟩ := slot c o (I.cne x c e) hc nch ho (I.freeC x c e)
      exact ⟨_, q, hd⟩
    . exact ⟨o, keep c o (I.cne x c e) hc nch ho (I.freeC x c e), hd⟩
  refine ⟨I.ok, I.os, hg, ⟨fun b o e n hb hx => ?_, fun b o e n hb hx => ?_, fun b o e n hx => ?_, fun b o e hx => ?_, fun b xs e => tups b xs (I.base.tups b xs e), fun b o xs e => frzs b o xs (I.base.frzs b o xs e), fun b ps e => ?_⟩, ?_, fun x c e => ?_, ?_, fun x c e => ?_, fun p hp => ?_, hok, I.len⟩
  . exact keep b o (neL b o e) hb (neC b o e hx) (I.base.keep b o e n hb hx) (I.base.free b o e n hx)
  . obtain ⟨sl, e1⟩ := I.base.slot b o e n hb hx
    obtain ⟨sl', e2⟩ := slot b _ (neL b o e) hb (neC b o e hx) e1 (I.base.free b o e n hx)
    exact ⟨sl', e2⟩
  . obtain ⟨o', e1⟩ := I.base.there b o e hx
    exact free b o' (neC b o e hx) e1 (I.base.free b o e n hx)
  . obtain ⟨o', e1⟩ := I.base.there b o e hx
    exact there b o' (neC b o e hx) e1
  . obtain ⟨m1, e1⟩ := I.base.tbls b ps e
    obtain ⟨m2, e2⟩ := tbls b _ e1
    exact ⟨m1 ++ m2, by rw [e2, Array.append_assoc]⟩
  . obtain ⟨m, hn, hl⟩ := I.loc
    refine ⟨m, ns m hn, fun i x v e1 e2 e3 => ?_⟩
    obtain ⟨u, r, l⟩ := hl i x v e1 e2 e3
    refine ⟨u, r, ?_⟩
    rcases l with l | ⟨k, c, e, z⟩
    . exact .inl l
    . exact .inr ⟨k, c, e, cellK x c e _ z⟩
  . obtain ⟨v, z⟩ := I.cell x c e
    exact ⟨v, cellK x c e v z⟩
  . obtain ⟨m, ⟨o, _, _, ho, _⟩, _⟩ := I.loc
    exact free _ o (fun z => (hch _ z).2.1 rfl) ho I.free
  . obtain ⟨v, o, ho, hd⟩ := I.cell x c e
    exact free c o (fun z => (hch c z).2.2.1 x c e rfl) ho (I.freeC x c e)
  . obtain ⟨e, n, ne, nf, d⟩ := I.pin p hp
    have nch : p.1 ∉ ch := fun z => (hch p.1 z).2.2.2 p hp rfl
    exact ⟨keep p.1 p.2 ne nf nch e n, free p.1 p.2 nch e n, ne, nf, d⟩
theorem Inv.un {t' : Nat} (I : Inv X pins σ H s) (u : Un X.fs [] H H' s.heap h') (hok : HOk X.prog X.w H' h') : Inv X pins σ H' { s with heap := h', toks := t' } := by
  obtain ⟨m, ⟨o, es, ep, ho, r⟩, _⟩ := id I.loc
  obtain ⟨sl, hL⟩ := u.any ho I.free (by simp)
  exact I.step (g' := s.gens) (d' := s.drawn) (ch := []) (fun _ z => nomatch z) (fun b o _ hb _ e n => u.keep b o e n hb (by simp)) (fun b o _ hb _ e n => u.slot b o e n hb (by simp)) (fun b o _ e n => u.free b o e n (by simp)) (fun b o _ e => u.there b o e (by simp)) u.tups u.frzs u.tbls (fun m' hm => by
    obtain ⟨o', es', ep', ho', r'⟩ := hm
    rw [ho] at ho'; cases ho'
    exact ⟨_, es', ep', hL, r'⟩) hok I.bare
theorem Inv.call {g' : Array GenState} {t' : Nat} {d' : Drawn} {ch : List Addr} (I : Inv X pins σ H s) (u : Un (frs X.stack) ch H H' s.heap h') (hok : HOk X.prog X.w H' h') (hg : AllBare g')
    (hch : ∀ b ∈ ch, (b ∈ X.ex ∨ X.s₀.heap.objs.size <= b) /\ b ≠ X.env.locals /\ (∀ x c, X.env.cells.lookup x = some c -> c ≠ b) /\ ∀ p ∈ X.pn ++ pins, p.1 ≠ b) :
    Inv X pins σ H' { s with heap := h', gens := g', drawn := d', toks := t' } := by
  obtain ⟨m, ⟨o, es, ep, ho, r⟩, _⟩ := id I.loc
  obtain ⟨sl, hL⟩ := u.any ho I.free fun z => (hch _ z).2.1 rfl
  exact I.step (ch := ch) hch (fun b o hL hb hc e n => u.keep b o e n (fun z => (yAD.mp (I.stkSub b z)).elim hL hb) hc) (fun b o _ _ hc e n => u.any e n hc) (fun b o hc e n => u.free b o e n hc) (fun b o hc e => u.there b o e hc) u.tups u.frzs u.tbls (fun m' hm => by
    obtain ⟨o', es', ep', ho', r'⟩ := hm
    rw [ho] at ho'; cases ho'
    exact ⟨_, es', ep', hL, r'⟩) hok hg
theorem Inv.turned {t' : Nat} {it : Addr} (I : Inv X pins σ H s) (k : ∀ b o, b ≠ it -> s.heap.get? b = some o -> h'.get? b = some o) (hn : H it = none) (hL : it ≠ X.env.locals)
    (h1 : it ∈ X.ex ∨ X.s₀.heap.objs.size <= it) (h2 : ∀ x c, X.env.cells.lookup x = some c -> c ≠ it) (h3 : ∀ p ∈ X.pn ++ pins, p.1 ≠ it) : Inv X pins σ H { s with heap := h', toks := t' } := by
  have nit : ∀ b u, H b = some u -> b ≠ it := fun b u e z => by rw [z, hn] at e; cases e
  refine I.step (g' := s.gens) (d' := s.drawn) (ch := [it]) (fun b hb => ?_) (fun b o _ _ hc e _ => k b o (fun z => hc (by simp [z])) e) (fun b o _ _ hc e _ => ⟨o.slots, k b o (fun z => hc (by simp [z])) e⟩) (fun _ _ _ _ n => n)
    (fun b o hc e => ⟨o, k b o (fun z => hc (by simp [z])) e⟩) (fun _ _ e => e) (fun _ _ _ e => e) (fun b ps e => ⟨#[], by rw [e]; simp⟩) (fun m hm => ?_) (fun b u e => ?_) I.bare
  . have e : b = it := by simpa using hb
    subst e
    exact ⟨h1, hL, h2, h3⟩
  . obtain ⟨o, es, ep, ho, r⟩ := hm
    exact ⟨o, es, ep, k _ o (Ne.symm hL) ho, r⟩
  . refine (I.hok b u e).stay (fun c v hc q => k c v ?_ q) (fun _ q => q) fun _ _ q => q
    rcases hc with z | z
    . rw [z]; exact nit b u e
    . exact nit c _ z
theorem Inv.tok (I : Inv X pins σ H s) (t : Nat) : Inv X pins σ H { s with toks := t } := I.un (h' := s.heap) (t' := t) Un.refl I.hok
theorem Inv.kept {t' : Nat} (I : Inv X pins σ H s) (k : ∀ b u, s.heap.get? b = some u -> h'.get? b = some u) : Inv X pins σ H { s with heap := h', toks := t' } := I.un (Un.kept k) (I.hok.kept k)
theorem Inv.laid {a : Addr} {o : HO} {t' : Nat} (I : Inv X pins σ H s) (k : ∀ b u, s.heap.get? b = some u -> h'.get? b = some u) (hp : s.heap.objs.size <= a) (new : ObjOk X.prog X.w (upd H a o) h' a o) :
    Inv X pins σ (upd H a o) { s with heap := h', toks := t' } := I.un (Un.laid k hp (I.hok.fresh hp)) (I.hok.laid k hp new)
theorem Inv.write {x e : Addr} {o : HO} {t' : Nat} (I : Inv X pins σ H s) (mu : Mut (H x)) (he : e = x ∨ H e = some (.own x)) (k : ∀ b u, b ≠ e -> s.heap.get? b = some u -> h'.get? b = some u) (heo : ∃ u, h'.get? e = some u)
    (new : ObjOk X.prog X.w (upd H x o) h' x o) : Inv X pins σ (upd H x o) { s with heap := h', toks := t' } := I.un (Un.write mu he k heo) (I.hok.write mu he k heo new)
theorem Inv.pins_of {pins' : List (Addr × Obj)} (I : Inv X pins σ H s) (h : ∀ p ∈ pins', s.heap.get? p.1 = some p.2 /\ H p.1 = none /\ p.1 ≠ X.env.locals /\ p.1 ∉ X.fs /\ ∀ v, p.2.data ≠ .cell v) : Inv X pins' σ H s :=
  ⟨I.ok, I.os, I.bare, I.base, I.loc, I.cell, I.free, I.freeC, fun p hp => (yAU.mp hp).elim (fun z => I.pin p (List.mem_append_left _ z)) (h p), I.hok, I.len⟩
theorem nodup_ix {N : List Str} (hN : N.Nodup) {i j : Nat} {x : Str} (a : N[i]? = some x) (b : N[j]? = some x) : i = j := by
  obtain ⟨h1, e1⟩ := yAG.mp a
  obtain ⟨h2, e2⟩ := yAG.mp b
  exact (List.getElem_inj hN).mp (e1.trans e2.symm)
theorem store_ok2 {M : Model} {A : Around} {E : Value -> Shared -> Prop} {i : Nat} {x : Str} {v : V} {u : Value} {Q : Unit -> Shared -> Prop} (I : Inv X pins σ H s) (hN : X.N.Nodup) (hi : X.N[i]? = some x) (hx : Loc X.env.scope x) (r : RelV v u)
    (h : ∀ s', Inv X pins (σ.set i (some v)) H s' -> (∃ a, Heap.SameBut a s.heap s'.heap /\ (a = X.env.locals ∨ X.env.cells.lookup x = some a)) -> Q () s') (hf : X.fn x = true ∨ X.env.scope.names.lookup x = some .local := by first | exact .inl rfl | exact .inr rfl | assumption) : wpAny M A (storeName X.env x u) Q E s := by
  obtain ⟨m, hn, hl⟩ := id I.loc
  have hcls : (X.env.scope.kind == .class || (X.env.scope.kind == .module && X.env.locals != X.env.globals)) = false := by rw [I.ok.kind]; rfl
  have hiσ : i < σ.length := by rw [I.len]; exact (yAG.mp hi).1
  have cne := I.cne
  have tracked : ∀ {a : Addr} {h' : Heap}, (∃ o, s.heap.get? a = some o /\ H a = none) -> Heap.SameBut a s.heap h' -> HOk X.prog X.w H h' := fun {a h'} ha hs b ob e => by
    obtain ⟨_, _, hfree⟩ := ha
    refine (I.hok b ob e).stay (fun c w' hc q => (hs.2 c ?_).trans q) (fun _ q => q) fun _ _ q => q
    rintro rfl
    rcases hc with rfl | hc
    . rw [hfree] at e; cases e
    . rw [hfree] at hc; cases hc
  rcases hx with hk | hk
  . refine wpAny_storeName_local hk hn (fun h' hn' hs => ?_) hcls
    obtain ⟨oL, _, _, hoL, _⟩ := id hn
    refine h _ ⟨I.ok, I.os, I.bare, ⟨fun b o e n hb hx => ?_, fun b o e n hb hx => ?_, I.base.free, fun b o e hx => ?_, I.base.tups, I.base.frzs, I.base.tbls⟩, ⟨_, hn', fun j y v' e1 e2 e3 => ?_⟩, fun y c e => ?_, I.free, I.freeC, fun p hp => ?_, tracked ⟨oL, hoL, I.free⟩ hs, by simpa using I.len⟩ ⟨_, hs, .inl rfl⟩
    . exact (hs.2 b (yAN (yAQ (Heap.lt_size e) I.ok.above))).trans (I.base.keep b o e n hb hx)
    . obtain ⟨sl, e1⟩ := I.base.slot b o e n hb hx
      exact ⟨sl, (hs.2 b (yAN (yAQ (Heap.lt_size e) I.ok.above))).trans e1⟩
    . obtain ⟨o', e1⟩ := I.base.there b o e hx
      exact ⟨o', (hs.2 b (yAN (yAQ (Heap.lt_size e) I.ok.above))).trans e1⟩
    . by_cases hj : j = i
      . subst hj
        rw [hi] at e1; cases e1
        rw [List.getElem?_set_self hiσ] at e2
        cases e2
        exact ⟨u, r, .inl ⟨hk, by simp⟩⟩
      . rw [List.getElem?_set_ne (Ne.symm hj)] at e2
        obtain ⟨u', r', q⟩ := hl j y v' e1 e2 e3
        refine ⟨u', r', ?_⟩
        rcases q with ⟨k, e⟩ | ⟨k, c, e, z⟩
        . refine .inl ⟨k, ?_⟩
          have : y ≠ x := fun e => hj (nodup_ix hN e1 (e ▸ hi))
          simp [this, e]
        . exact .inr ⟨k, c, e, z.sameBut hs (cne y c e)⟩
    . obtain ⟨w', z⟩ := I.cell y c e
      exact ⟨w', z.sameBut hs (cne y c e)⟩
    . obtain ⟨e, n, ne, nf, d⟩ := I.pin p hp
      exact ⟨(hs.2 p.1 ne).trans e, n, ne, nf, d⟩
  . have hfn : X.fn x = true := by
      rcases hf with z | z
      . exact z
      . rw [z] at hk; cases hk
    obtain ⟨c, hc⟩ := I.ok.has x (.inl hk)
    obtain ⟨w', z⟩ := I.cell x c hc
    refine wpAny_storeName_cell I.ok.kind hk hc z (fun h' hc' hs => ?_)
    obtain ⟨oc, hoc, hocd⟩ := id z
    refine h { s with heap := h' } ⟨I.ok, I.os, I.bare, ⟨fun b o e n hb hx => ?_, fun b o e n hb hx => ?_, I.base.free, fun b o e hx => ?_, I.base.tups, I.base.frzs, I.base.tbls⟩, ⟨m, hn.sameBut hs (Ne.symm (cne x c hc)), fun j y v' e1 e2 e3 => ?_⟩, fun y c' e => ?_, I.free, I.freeC, fun p hp => ?_, tracked ⟨oc, hoc, I.freeC x c hc⟩ hs, by simpa using I.len⟩ ⟨c, hs, .inr hc⟩
    . exact (hs.2 b (yAN (yAQ (Heap.lt_size e) (I.ok.cab x c hfn hc)))).trans (I.base.keep b o e n hb hx)
    . obtain ⟨sl, e1⟩ := I.base.slot b o e n hb hx
      exact ⟨sl, (hs.2 b (yAN (yAQ (Heap.lt_size e) (I.ok.cab x c hfn hc)))).trans e1⟩
    . obtain ⟨o', e1⟩ := I.base.there b o e hx
      exact ⟨o', (hs.2 b (yAN (yAQ (Heap.lt_size e) (I.ok.cab x c hfn hc)))).trans e1⟩
    . by_cases hj : j = i
      . subst hj
        rw [hi] at e1; cases e1
        rw [List.getElem?_set_self hiσ] at e2
        cases e2
        exact ⟨u, r, .inr ⟨.inl hk, c, hc, hc'⟩⟩
      . rw [List.getElem?_set_ne (Ne.symm hj)] at e2
        obtain ⟨u', r', q⟩ := hl j y v' e1 e2 e3
        refine ⟨u', r', ?_⟩
        rcases q with q | ⟨k, c', e, z'⟩
        . exact .inl q
        . refine .inr ⟨k, c', e, z'.sameBut hs ?_⟩
          rintro rfl
          exact hj (nodup_ix hN e1 (I.ok.inj _ _ _ e hc ▸ hi))
    . by_cases hcc : c' = c
      . subst hcc; exact ⟨_, hc'⟩
      . obtain ⟨w2, z2⟩ := I.cell y c' e
        exact ⟨w2, z2.sameBut hs hcc⟩
    . obtain ⟨e, n, ne, nf, d⟩ := I.pin p hp
      refine ⟨(hs.2 p.1 ?_).trans e, n, ne, nf, d⟩
      intro q
      rw [q, hoc] at e
      have q' : oc = p.2 := Option.some.inj e
      exact d w' (by rw [<- q']; exact hocd)
theorem ZCH {M : Model} {A : Around} {E : Value -> Shared -> Prop} {i : Nat} {x : Str} {v : V} {u : Value} {Q : Unit -> Shared -> Prop} (I : Inv X pins σ H s) (hN : X.N.Nodup) (hi : X.N[i]? = some x) (hx : Loc X.env.scope x) (r : RelV v u)
    (h : ∀ s', Inv X pins (σ.set i (some v)) H s' -> Q () s') (hf : X.fn x = true ∨ X.env.scope.names.lookup x = some .local := by first | exact .inl rfl | exact .inr rfl | assumption) : wpAny M A (storeName X.env x u) Q E s :=
  store_ok2 I hN hi hx r (fun s' I' _ => h s' I') hf
theorem Inv.call' {s' : Shared} {ch : List Addr} (I : Inv X pins σ H s) (ho : s'.os = s.os) (u : Un (frs X.stack) ch H H' s.heap s'.heap) (hok : HOk X.prog X.w H' s'.heap) (hg : AllBare s'.gens)
    (hch : ∀ b ∈ ch, (b ∈ X.ex ∨ X.s₀.heap.objs.size <= b) /\ b ≠ X.env.locals /\ (∀ x c, X.env.cells.lookup x = some c -> c ≠ b) /\ ∀ p ∈ X.pn ++ pins, p.1 ≠ b) : Inv X pins σ H' s' := by
  obtain ⟨h', g', d', t', o'⟩ := s'
  have e : o' = s.os := ho
  subst e
  exact I.call (g' := g') (t' := t') (d' := d') u hok hg hch
end
abbrev XK := Value -> Option Addr -> Hp -> Prop
abbrev St := List (Option V)
abbrev VK := V -> Hp -> Prop
abbrev TE := St -> Hp -> VK -> Prop
abbrev TT := St -> Hp -> (Bool -> Hp -> Prop) -> Prop
abbrev TA := St -> Hp -> (List V -> Hp -> Prop) -> Prop
structure Ends where
  nx : St -> Hp -> Prop
  rt : VK
  bk : St -> Hp -> Prop := fun _ _ => False
  ct : St -> Hp -> Prop := fun _ _ => False
abbrev TS := Ends -> St -> Hp -> Prop
def EP (X : Cx) (pins : List (Addr × Obj)) (σ : St) (Q : VK) (u : Value) (s' : Shared) : Prop := ∃ v H', Inv X pins σ H' s' /\ RelV v u /\ Q v H'
def TP (X : Cx) (pins : List (Addr × Obj)) (σ : St) (Q : Bool -> Hp -> Prop) (b : Bool) (s' : Shared) : Prop := ∃ H', Inv X pins σ H' s' /\ Q b H'
def AP (X : Cx) (pins : List (Addr × Obj)) (σ : St) (Q : List V -> Hp -> Prop) (us : List Value) (s' : Shared) : Prop := ∃ vs H', Inv X pins σ H' s' /\ Vals vs us /\ Q vs H'
def SP (X : Cx) (pins : List (Addr × Obj)) (D : Ends) (f : Flow) (s' : Shared) : Prop :=
  match f with
  | .next => ∃ σ' H', Inv X pins σ' H' s' /\ D.nx σ' H'
  | .brk => ∃ σ' H', Inv X pins σ' H' s' /\ D.bk σ' H'
  | .cont => ∃ σ' H', Inv X pins σ' H' s' /\ D.ct σ' H'
  | .ret u => ∃ v σ' H', Inv X pins σ' H' s' /\ RelV v u /\ D.rt v H'
def PE (X : Cx) (e : Expr) (t : TE) : Prop :=
  ∀ (pins : List (Addr × Obj)) (s : Shared) (σ : St) (H : Hp) (Q : VK), Inv X pins σ H s -> t σ H Q -> wpAny (model X.prog X.w) X.A (eval e X.env) (EP X pins σ Q) X.xe s
def PT (X : Cx) (e : Expr) (t : TT) : Prop :=
  ∀ (pins : List (Addr × Obj)) (s : Shared) (σ : St) (H : Hp) (Q : Bool -> Hp -> Prop), Inv X pins σ H s -> t σ H Q -> wpAny (model X.prog X.w) X.A (isTrue e X.env (eval e X.env)) (TP X pins σ Q) X.xe s
def PW (X : Cx) (e : Expr) (t : TT) : Prop :=
  ∀ (whole : Sem Value) (pins : List (Addr × Obj)) (s : Shared) (σ : St) (H : Hp) (Q : Bool -> Hp -> Prop), Inv X pins σ H s -> t σ H Q -> wpAny (model X.prog X.w) X.A (isTrue e X.env whole) (TP X pins σ Q) X.xe s
theorem PW.pt {X : Cx} {e : Expr} {t : TT} (h : PW X e t) : PT X e t := h _
def PA (X : Cx) (es : List Expr) (t : TA) : Prop :=
  ∀ (pos : Pos) (pins : List (Addr × Obj)) (s : Shared) (σ : St) (H : Hp) (Q : List V -> Hp -> Prop), Inv X pins σ H s -> t σ H Q -> wpAny (model X.prog X.w) X.A (spliced (backTo pos (starEach es X.env))) (AP X pins σ Q) X.xe s
def PS (X : Cx) (st : Stmt) (t : TS) : Prop :=
  ∀ (pins : List (Addr × Obj)) (s : Shared) (σ : St) (H : Hp) (D : Ends), Inv X pins σ H s -> t D σ H -> wpAny (model X.prog X.w) X.A (exec st X.env) (SP X pins D) X.xe s
def PSs (X : Cx) (st : List Stmt) (t : TS) : Prop :=
  ∀ (pins : List (Addr × Obj)) (s : Shared) (σ : St) (H : Hp) (D : Ends), Inv X pins σ H s -> t D σ H -> wpAny (model X.prog X.w) X.A (execs st X.env) (SP X pins D) X.xe s
theorem thn {α : Type} {t : Sem α} {Q Q' : α -> Shared -> Prop} {M : Model} {A : Around} {E : Value -> Shared -> Prop} {s : Shared} (h : wpAny M A t Q E s) (hQ : ∀ a s, Q a s -> Q' a s) : wpAny M A t Q' E s := wpAny_mono h hQ fun _ _ x => x
section
variable {X : Cx}
def tVar (i : Nat) : TE := fun σ H Q => ∃ v, σ[i]? = some (some v) /\ Q v H
def tC (v : V) : TE := fun _ H Q => Q v H
theorem pe_var {i : Nat} {x : Str} {pos : Pos} (hN : X.N[i]? = some x) (hv : Vis X.env.scope x) (hd : (x == ("__debug__" : Str)) = false := by decide) (hcd : (x == ("__classdict__" : Str)) = false := by decide) : PE X (.Name x pos) (tVar i) := by
  intro pins s σ H Q I h
  obtain ⟨v, e, h⟩ := h
  obtain ⟨m, hn, hl⟩ := I.loc
  obtain ⟨u, r, l⟩ := hl i x v hN e hv
  have fin : EP X pins σ Q u s := ⟨v, H, I, r, h⟩
  rcases l with ⟨hk, hm⟩ | ⟨hk, c, hc, hcell⟩
  . exact wpAny_Name (wpAny_loadName_local I.ok.kind hk hn hm fin) hd
  . rcases hk with hk | hk
    . exact wpAny_Name (wpAny_loadName_cell I.ok.kind hk hc hcell fin) hd
    . exact wpAny_Name (wpAny_loadName_free I.ok.kind hk hc hcell fin hcd) hd
theorem ZAE {i j pos} : PE X (.Constant (.int i) j pos) (tC (.int i)) := fun _ _ _ H _ I h => wpAny_Constant_int ⟨.int i, H, I.tok _, ⟨_, rfl⟩, h⟩
theorem ZC3 {b j pos} : PE X (.Constant (.bool b) j pos) (tC (.bl b)) := fun _ _ _ H _ I h => Constant_bool ⟨.bl b, H, I, rfl, h⟩
theorem pe_non {j pos} : PE X (.Constant .none j pos) (tC .non) := fun _ _ _ H _ I h => Constant_none ⟨.non, H, I, rfl, h⟩
def Gl (X : Cx) (x : Str) : Prop := X.env.kindOf x = some .globalImplicit
theorem ZDQ {E : Value -> Shared -> Prop} {pins : List (Addr × Obj)} {s : Shared} {σ : St} {H : Hp} {x : Str} {u : Value} {pos : Pos} {Q : Value -> Shared -> Prop} (I : Inv X pins σ H s) (hg : Gl X x) (hm : X.mg x = some u) (h : Q u s)
    (hd : (x == ("__debug__" : Str)) = false := by decide) : wpAny (model X.prog X.w) X.A (eval (.Name x pos) X.env) Q E s :=
  Calls.Name_function_global I.ok.kind hg (Calls.loadGlobal_global (by rw [I.ok.glob]; exact I.mod.glob.keeps I.bk) hm h) hd
theorem ZCq {E : Value -> Shared -> Prop} {pins : List (Addr × Obj)} {s : Shared} {σ : St} {H : Hp} {x : Str} {u : Value} {pos : Pos} {Q : Value -> Shared -> Prop} (I : Inv X pins σ H s) (hg : Gl X x) (hm : X.mg x = none) (hv : bootBuiltins x = some u) (h : Q u s)
    (hn : x ≠ "__name__" := by decide) (hd : (x == ("__debug__" : Str)) = false := by decide) : wpAny (model X.prog X.w) X.A (eval (.Name x pos) X.env) Q E s := by
  obtain ⟨mb, h1, h2⟩ := I.mod.blt
  exact Calls.Name_function_global I.ok.kind hg (Calls.loadGlobal_builtin (by rw [I.ok.glob]; exact I.mod.glob.keeps I.bk) hm (by rw [I.ok.blt]; exact h1.keeps I.bk) ((h2 x hn).trans hv) h) hd
theorem pe_glob {x : Str} {v : V} {u : Value} {pos : Pos} (hg : Gl X x) (hm : X.mg x = some u) (r : RelV v u) (hd : (x == ("__debug__" : Str)) = false := by decide) : PE X (.Name x pos) (tC v) :=
  fun _ _ _ H _ I h => ZDQ I hg hm ⟨v, H, I, r, h⟩ hd
theorem pe_bltn {x : Str} {v : V} {u : Value} {pos : Pos} (hg : Gl X x) (hm : X.mg x = none) (hv : bootBuiltins x = some u) (r : RelV v u) (hn : x ≠ "__name__" := by decide) (hd : (x == ("__debug__" : Str)) = false := by decide) : PE X (.Name x pos) (tC v) :=
  fun _ _ _ H _ I h => ZCq I hg hm hv ⟨v, H, I, r, h⟩ hn hd
variable {a b : Expr} {ta tb : TE} {pos : Pos}
def tB (t : TE) : TT := fun σ H Q => t σ H fun x H1 => ∃ c, x = .bl c /\ Q c H1
theorem ZBT {e : Expr} {t : TE} (h : PE X e t) (he : ∀ whole, isTrue e X.env whole = (do let v <- whole; standAt e.pos; holding [v] (truthy v)) := by intro _; rfl) : PT X e (tB t) := by
  intro pins s σ H Q I hw
  refine isTrue_plain (thn (h pins s σ H _ I hw) fun v s1 ⟨x, H1, I1, r1, q1⟩ => ?_) (he _)
  obtain ⟨d, rfl, q⟩ := q1
  cases r1
  exact wpAny_truthy_bool ⟨H1, I1, q⟩
variable {tA tB' : TT} {rest : List Expr}
def tAnd (t u : TT) : TT := fun σ H Q => t σ H fun c H1 => if c = true then u σ H1 Q else Q false H1
def tOr (t u : TT) : TT := fun σ H Q => t σ H fun c H1 => if c = true then Q true H1 else u σ H1 Q
def tNot (t : TT) : TT := fun σ H Q => t σ H fun c H1 => Q (!c) H1
theorem ZDN (ha : PT X a tA) : PW X (.BoolOp .And [a] pos) tA := by
  intro wh pins s σ H Q I h
  refine isTrue_and (thn (ha pins s σ H Q I h) fun c s1 e => ?_)
  cases c with
  | true => exact isTrue_and_nil e
  | false => exact e
theorem ZCo (ha : PT X a tA) : PW X (.BoolOp .Or [a] pos) tA := by
  intro wh pins s σ H Q I h
  refine isTrue_or (thn (ha pins s σ H Q I h) fun c s1 e => ?_)
  cases c with
  | false => exact isTrue_or_nil e
  | true => exact e
theorem ZDy (ha : PT X a tA) (hb : PW X (.BoolOp .And (b :: rest) pos) tB') : PW X (.BoolOp .And (a :: b :: rest) pos) (tAnd tA tB') := by
  intro wh pins s σ H Q I h
  refine isTrue_and (thn (ha pins s σ H _ I h) fun c s1 ⟨H1, I1, q1⟩ => ?_)
  cases c with
  | true => exact hb wh pins s1 σ H1 Q I1 q1
  | false => exact ⟨H1, I1, q1⟩
theorem ZDM (ha : PT X a tA) (hb : PW X (.BoolOp .Or (b :: rest) pos) tB') : PW X (.BoolOp .Or (a :: b :: rest) pos) (tOr tA tB') := by
  intro wh pins s σ H Q I h
  refine isTrue_or (thn (ha pins s σ H _ I h) fun c s1 ⟨H1, I1, q1⟩ => ?_)
  cases c with
  | true => exact ⟨H1, I1, q1⟩
  | false => exact hb wh pins s1 σ H1 Q I1 q1
theorem ZCp (ha : PT X a tA) : PT X (.UnaryOp .Not a pos) (tNot tA) := by
  intro pins s σ H Q I h
  exact isTrue_not (ha pins s σ H (fun c H1 => Q (!c) H1) I h)
def tAndV (ta tb : TE) : TE := fun σ H Q => ta σ H fun x H1 => ∃ c, x = .bl c /\ if c = true then tb σ H1 Q else Q (.bl false) H1
def tOrV (ta tb : TE) : TE := fun σ H Q => ta σ H fun x H1 => ∃ c, x = .bl c /\ if c = true then Q (.bl true) H1 else tb σ H1 Q
def ZEH (ta : TE) : TE := fun σ H Q => ta σ H fun x H1 => ∃ c, x = .bl c /\ Q (.bl (!c)) H1
theorem pe_not (ha : PE X a ta) : PE X (.UnaryOp .Not a pos) (ZEH ta) := by
  intro pins s σ H Q I h
  refine UnaryOp_ (thn (ha pins s σ H _ I h) fun v s1 ⟨x, H1, I1, r1, q1⟩ => ?_)
  obtain ⟨c, rfl, q1⟩ := q1
  cases r1
  exact not_of (wpAny_truthy_bool ⟨.bl (!c), H1, I1, rfl, q1⟩)
def tIf (t : TT) (ta tb : TE) : TE := fun σ H Q => t σ H fun c H1 => if c = true then ta σ H1 Q else tb σ H1 Q
theorem ZCL {c : Expr} (hc : PT X c tA) (ha : PE X a ta) (hb : PE X b tb) : PE X (.IfExp c a b pos) (tIf tA ta tb) := by
  intro pins s σ H Q I h
  refine wpAny_IfExp (thn (hc pins s σ H _ I h) fun d s1 ⟨H1, I1, q1⟩ => ?_)
  cases d with
  | true => exact ha pins s1 σ H1 Q I1 q1
  | false => exact hb pins s1 σ H1 Q I1 q1
end
def SqL (K : W.Frag) (H : Hp) (a : Addr) (xs : List V) : Prop :=
  Rd H a (.lst xs) ∨
    ∃ (o : Obj) (its : Array Value) (n : Nat), K.lookup a = some o /\ o.cls = .type "list" /\ o.dict = none /\ o.data = .seq its n /\ its.size <= sizeLine /\ Vals xs its.toList
def SqT (K : W.Frag) (H : Hp) (a : Addr) (xs : List V) : Prop :=
  Rd H a (.tup xs) ∨
    ∃ (o : Obj) (its : Array Value) (n : Nat), K.lookup a = some o /\ o.cls = .type "tuple" /\ o.data = .seq its n /\ its.size <= sizeLine /\ Vals xs its.toList
def absV : Value -> Option V
  | .none => some .non
  | .bool b => some (.bl b)
  | .int i _ => some (.int i)
  | .str x _ => some (.str x)
  | .bytes b _ => some (.byt b)
  | .float b _ => some (.flt b)
  | .ref a => some (.ref a)
  | .type n => some (.ty n)
  | _ => none
theorem RelV.abs {x : V} {u : Value} (r : RelV x u) : absV u = some x := by
  cases x with
  | non => cases r; rfl
  | bl _ => cases r; rfl
  | int _ => obtain ⟨t, rfl⟩ := r; rfl
  | str _ => obtain ⟨t, rfl⟩ := r; rfl
  | byt _ => obtain ⟨t, rfl⟩ := r; rfl
  | flt _ => obtain ⟨t, rfl⟩ := r; rfl
  | ref _ => cases r; rfl
  | ty _ => cases r; rfl
theorem RelV.inj {x y : V} {u : Value} (r : RelV x u) (q : RelV y u) : x = y := Option.some.inj (r.abs.symm.trans q.abs)
theorem Vals.inj : ∀ {xs ys : List V} {us : List Value}, Vals xs us -> Vals ys us -> xs = ys
  | _, _, _, .nil, .nil => rfl
  | _, _, _, .cons r t, .cons r' t' => by rw [r.inj r', Vals.inj t t']
section
variable {X : Cx} {pins : List (Addr × Obj)} {σ : St} {H : Hp} {s : Shared} {a : Addr} {xs ys : List V}
theorem SqL.of {K : W.Frag} (h : H a = some (.lst xs)) : SqL K H a xs := .inl (.inl h)
theorem SqT.of {K : W.Frag} (h : H a = some (.tup xs)) : SqT K H a xs := .inl (.inl h)
theorem Inv.list (I : Inv X pins σ H s) (h : SqL X.K H a xs) : ∃ its : List Value, Vals xs its /\ PlainL s.heap a its.toArray /\ xs.length <= sizeLine := by
  rcases h with h | ⟨o, its, n, hk, hc, hd, hs, hz, r⟩
  . obtain ⟨z, its, n, r, e⟩ := h.ok I.hok
    exact ⟨its, r, ⟨_, n, e, rfl, rfl, rfl⟩, z⟩
  . refine ⟨its.toList, r, ⟨o, n, I.kIn a o hk, hc, hd, by simpa using hs⟩, ?_⟩
    have e := r.length
    simp only [yAL] at e
    omega
theorem Inv.tuple (I : Inv X pins σ H s) (h : SqT X.K H a xs) : ∃ its : List Value, Vals xs its /\ IsTup s.heap a its.toArray /\ xs.length <= sizeLine := by
  rcases h with h | ⟨o, its, n, hk, hc, hs, hz, r⟩
  . obtain ⟨z, its, r, p⟩ := h.ok I.hok
    exact ⟨its, r, p, z⟩
  . refine ⟨its.toList, r, ⟨o, I.kIn a o hk, hc, n, by simpa using hs⟩, ?_⟩
    have e := r.length
    simp only [yAL] at e
    omega
theorem Inv.list_inj (I : Inv X pins σ H s) (h : SqL X.K H a xs) (h' : SqL X.K H a ys) : xs = ys := by
  obtain ⟨its, r, ⟨o, n, e, _, _, d⟩, _⟩ := I.list h
  obtain ⟨its', r', ⟨o', n', e', _, _, d'⟩, _⟩ := I.list h'
  rw [e] at e'; cases e'
  rw [d] at d'
  injection d' with d1 _
  have : its = its' := by simpa using congrArg Array.toList d1
  subst this
  exact r.inj r'
end
abbrev Cx.wish (X : Cx) (E : Value -> Shared -> Prop) : Cx := { X with xe := E }
abbrev Cx.nox (X : Cx) : Cx := X.wish fun _ _ => False
theorem Cx.Ok.wish {X : Cx} (ok : X.Ok) (E : Value -> Shared -> Prop) : (X.wish E).Ok :=
  ⟨ok.mod, ok.kind, ok.glob, ok.blt, ok.above, ok.inj, ok.has, ok.cab, ok.hd, ok.frames, ok.stk, ok.exf, ok.bs, ok.bsz, ok.noex, ok.exfs, ok.funs, ok.frf⟩
theorem Cx.Ok.unwish {X : Cx} {E : Value -> Shared -> Prop} (ok : (X.wish E).Ok) : X.Ok :=
  ⟨ok.mod, ok.kind, ok.glob, ok.blt, ok.above, ok.inj, ok.has, ok.cab, ok.hd, ok.frames, ok.stk, ok.exf, ok.bs, ok.bsz, ok.noex, ok.exfs, ok.funs, ok.frf⟩
section
variable {X : Cx} {pins : List (Addr × Obj)} {σ : St} {H : Hp} {s : Shared} {E : Value -> Shared -> Prop}
theorem Inv.wish (I : Inv X pins σ H s) (E : Value -> Shared -> Prop) : Inv (X.wish E) pins σ H s := ⟨I.ok.wish E, I.os, I.bare, I.base, I.loc, I.cell, I.free, I.freeC, I.pin, I.hok, I.len⟩
theorem Inv.unwish (I : Inv (X.wish E) pins σ H s) : Inv X pins σ H s := ⟨I.ok.unwish, I.os, I.bare, I.base, I.loc, I.cell, I.free, I.freeC, I.pin, I.hok, I.len⟩
theorem SP.unwish {D : Ends} {f : Flow} {s' : Shared} (h : SP (X.wish E) pins D f s') : SP X pins D f s' := by
  cases f with
  | next => obtain ⟨σ', H', I, q⟩ := h; exact ⟨σ', H', I.unwish, q⟩
  | brk => obtain ⟨σ', H', I, q⟩ := h; exact ⟨σ', H', I.unwish, q⟩
  | cont => obtain ⟨σ', H', I, q⟩ := h; exact ⟨σ', H', I.unwish, q⟩
  | ret u => obtain ⟨v, σ', H', I, r, q⟩ := h; exact ⟨v, σ', H', I.unwish, r, q⟩
theorem PSs.nox {st : List Stmt} {t : TS} (h : PSs X.nox st t) : PSs X st t := fun pins s σ H D I hw =>
  wpAny_mono (h pins s σ H D (I.wish _) hw) (fun _ _ q => q.unwish) fun _ _ z => False.elim z
end
section
variable {X : Cx} {st : Stmt} {rest : List Stmt} {t u : TS} {e : Expr} {te : TE} {pos : Pos}
def ZEI : TS := fun D σ H => D.nx σ H
def tSeq (t u : TS) : TS := fun D σ H => t { D with nx := u D } σ H
theorem ZAe : PSs X [] ZEI := fun _ _ σ H _ I h => wpAny_execs_nil ⟨σ, H, I, h⟩
theorem ZAC (h1 : PS X st t) (h2 : PSs X rest u) : PSs X (st :: rest) (tSeq t u) := by
  intro pins s σ H D I h
  refine wpAny_execs_cons (thn (h1 pins s σ H { D with nx := u D } I h) fun f s1 q => ?_)
  cases f with
  | next =>
    obtain ⟨σ', H', I', q⟩ := q
    exact h2 pins s1 σ' H' D I' q
  | ret v => exact q
  | brk => exact q
  | cont => exact q
theorem ZAK (h1 : PS X st t) : PSs X [st] t := by
  intro pins s σ H D I h
  refine wpAny_execs_cons (thn (h1 pins s σ H D I h) fun f s1 q => ?_)
  cases f with
  | next => exact wpAny_execs_nil q
  | ret v => exact q
  | brk => exact q
  | cont => exact q
theorem Inv.quiet {pins : List (Addr × Obj)} {σ : St} {H : Hp} {s : Shared} (I : Inv X pins σ H s) : interactive X.env = false := by simp [interactive, I.ok.kind]
def ZEJ (te : TE) : TS := fun D σ H => te σ H fun _ H1 => D.nx σ H1
theorem ZA0 (he : PE X e te) (hs : swapsWith e none pos.line X.env = pure false := by rfl) : PS X (.Expr e pos) (ZEJ te) := by
  intro pins s σ H D I h
  exact wpAny_Expr_any (thn (he pins s σ H _ I h) fun v s1 ⟨x, H1, I1, r1, q1⟩ => ⟨σ, H1, I1, q1⟩) I.quiet hs
def tRet (te : TE) : TS := fun D σ H => te σ H D.rt
theorem ZAd (he : PE X e te) : PS X (.Return (some e) pos) (tRet te) := by
  intro pins s σ H D I h
  exact wpAny_Return_some (thn (he pins s σ H _ I h) fun v s1 ⟨x, H1, I1, r1, q1⟩ => ⟨x, σ, H1, I1, r1, q1⟩)
def tRetN : TS := fun D _ H => D.rt .non H
def tIfS (c : TT) (t u : TS) : TS := fun D σ H => c σ H fun b H1 => if b = true then t D σ H1 else u D σ H1
theorem ZBF {c : Expr} {a b : List Stmt} {tc : TT} (hc : PT X c tc) (ha : PSs X a t) (hb : PSs X b u) : PS X (.If c a b pos) (tIfS tc t u) := by
  intro pins s σ H D I h
  refine wpAny_If (thn (hc pins s σ H _ I h) fun d s1 ⟨H1, I1, q1⟩ => ?_)
  cases d with
  | true => exact ha pins s1 σ H1 D I1 q1
  | false => exact hb pins s1 σ H1 D I1 q1
def ZDp : TS := fun _ _ _ => False
theorem ps_never : PS X st ZDp := fun _ _ _ _ _ _ h => h.elim
end
abbrev TG := V -> St -> Hp -> (St -> Hp -> Prop) -> Prop
abbrev TGs := List V -> St -> Hp -> (St -> Hp -> Prop) -> Prop
def PG (X : Cx) (target : Expr) (t : TG) : Prop :=
  ∀ (pins : List (Addr × Obj)) (s : Shared) (σ : St) (H : Hp) (v : V) (u : Value) (Q : St -> Hp -> Prop), Inv X pins σ H s -> RelV v u -> t v σ H Q ->
    wpAny (model X.prog X.w) X.A (assign target X.env u) (fun _ s' => ∃ σ' H', Inv X pins σ' H' s' /\ Q σ' H') X.xe s
def PGs (X : Cx) (ts : List Expr) (t : TGs) : Prop :=
  ∀ (pins : List (Addr × Obj)) (s : Shared) (σ : St) (H : Hp) (vs : List V) (us : List Value) (Q : St -> Hp -> Prop), Inv X pins σ H s -> Vals vs us -> t vs σ H Q ->
    wpAny (model X.prog X.w) X.A (assignInOrder ((assignEach ts X.env).map (·.2)) us) (fun _ s' => ∃ σ' H', Inv X pins σ' H' s' /\ Q σ' H') X.xe s
abbrev TSet := V -> V -> V -> Hp -> (Hp -> Prop) -> Prop
def PSet (X : Cx) (t : TSet) : Prop :=
  ∀ (pins : List (Addr × Obj)) (s : Shared) (σ : St) (H : Hp) (o i v : V) (ov iv u : Value) (Q : Hp -> Prop), Inv X pins σ H s -> RelV o ov -> RelV i iv -> RelV v u -> t o i v H Q ->
    wpAny (model X.prog X.w) X.A (setItem ov iv u) (fun _ s' => ∃ H', Inv X pins σ H' s' /\ Q H') X.xe s
abbrev TIp := V -> V -> Hp -> VK -> Prop
def PIp (X : Cx) (op : Operator) (t : TIp) : Prop :=
  ∀ (pins : List (Addr × Obj)) (s : Shared) (σ : St) (H : Hp) (x y : V) (v u : Value) (Q : VK), Inv X pins σ H s -> RelV x v -> RelV y u -> t x y H Q ->
    wpAny (model X.prog X.w) X.A (inplaceOp op v u) (EP X pins σ Q) X.xe s
section
variable {X : Cx} {pos : Pos}
def ZEE (i : Nat) : TG := fun v σ H Q => Q (σ.set i (some v)) H
theorem ZA8 {i : Nat} {x : Str} (hN : X.N.Nodup) (hi : X.N[i]? = some x) (hx : Loc X.env.scope x) (hf : X.fn x = true ∨ X.env.scope.names.lookup x = some .local := by first | exact .inl rfl | exact .inr rfl | assumption) : PG X (.Name x pos) (ZEE i) := by
  intro pins s σ H v u Q I r h
  exact wpAny_assign_Name (ZCH I hN hi hx r (fun s' I' => ⟨_, H, I', h⟩) hf)
def gNil : TGs := fun vs σ H Q => vs = [] /\ Q σ H
def ZET (t : TG) (u : TGs) : TGs := fun vs σ H Q => ∃ v r, vs = v :: r /\ t v σ H fun σ' H' => u r σ' H' Q
theorem pgs_nil : PGs X [] gNil := by
  intro pins s σ H vs us Q I r h
  obtain ⟨e, h⟩ := h
  subst e
  cases r
  exact assignInOrder_nil ⟨σ, H, I, h⟩
theorem ZB7 {e : Expr} {es : List Expr} {t : TG} {u : TGs} (h1 : PG X e t) (h2 : PGs X es u)
    (hs : (assignEach (e :: es) X.env).map (·.2) = assign e X.env :: (assignEach es X.env).map (·.2) := by rfl) : PGs X (e :: es) (ZET t u) := by
  intro pins s σ H vs us Q I r h
  obtain ⟨v, vr, e1, h⟩ := h
  subst e1
  cases r with
  | cons r rr =>
    rw [hs]
    refine assignInOrder_cons (thn (h1 pins s σ H _ _ _ I r h) fun _ s1 ⟨σ1, H1, I1, q1⟩ => ?_)
    exact h2 pins s1 σ1 H1 _ _ Q I1 rr q1
def gTup (K : W.Frag) (n : Nat) (t : TGs) : TG := fun v σ H Q => ∃ a xs, v = .ref a /\ SqT K H a xs /\ xs.length = n /\ t xs σ H Q
theorem pg_tup {es : List Expr} {k : Nat} {t : TGs} {n : Nat} (hc : X.calm = true) (h : PGs X es t)
    (hn : (assignEach es X.env).length = n := by rfl) (hst : (assignEach es X.env).findIdx? (·.1) = none := by rfl) : PG X (.Tuple es k pos) (gTup X.K n t) := by
  intro pins s σ H v u Q I r hw
  obtain ⟨a, xs, e1, hq, hl, hw⟩ := hw
  subst e1
  cases r
  obtain ⟨its, rv, ht, hz⟩ := I.tuple hq
  refine assign_Tuple_tuple (I.ok.hd hc) ht (by simp [hn, <- hl, rv.length]) hst fun h' hx => ?_
  have I1 : Inv X pins σ H { s with heap := h' } := I.kept (t' := s.toks) fun b o e => hx b o (yAN (Heap.lt_size e)) e
  exact h pins _ σ H xs _ Q I1 (by simpa using rv) hw
def gSub (to ti : TE) (t : TSet) : TG := fun v σ H Q => to σ H fun o H1 => ti σ H1 fun i H2 => t o i v H2 fun H3 => Q σ H3
theorem ZD0 {o i : Expr} {to ti : TE} {t : TSet} (ho : PE X o to) (hi : PE X i ti) (hs : PSet X t)
    (ha : ∀ v, assign (.Subscript o i pos) X.env v = (do
      let ov <- holding [v] (eval o X.env)
      let iv <- holding [v, ov] (eval i X.env)
      standAt pos
      holding [v, ov, iv] (setItem ov iv v)
      release [v, ov, iv] []) := by intro _; rfl) : PG X (.Subscript o i pos) (gSub to ti t) := by
  intro pins s σ H v u Q I r h
  rw [ha]
  refine wpAny_bind (wpAny_holding (thn (ho pins s σ H _ I h) fun ov s1 ⟨x, H1, I1, r1, q1⟩ => ?_))
  refine wpAny_bind (wpAny_holding (thn (hi pins s1 σ H1 _ I1 q1) fun iv s2 ⟨y, H2, I2, r2, q2⟩ => ?_))
  refine wpAny_bind (wpAny_standAt (wpAny_bind (wpAny_holding (thn (hs pins s2 σ H2 x y v ov iv u _ I2 r1 r2 r q2) fun _ s3 ⟨H3, I3, q3⟩ => ?_))))
  exact wpAny_release ⟨σ, H3, I3, q3⟩
def tAsg (te : TE) (g : TG) : TS := fun D σ H => te σ H fun x H1 => g x σ H1 D.nx
theorem ZDz {tg e : Expr} {te : TE} {g : TG} (he : PE X e te) (hg : PG X tg g) (hs : swapsWithSole [tg] e pos.line X.env = pure false := by rfl) (hw : swappedStores [tg] e X.env = pure none := by rfl)
    (h1 : (assignEach [tg] X.env).map (·.2) = [assign tg X.env] := by rfl) : PS X (.Assign [tg] e pos) (tAsg te g) := by
  intro pins s σ H D I h
  refine wpAny_Assign_stores (thn (he pins s σ H _ I h) fun v s1 ⟨x, H1, I1, r1, q1⟩ => ?_) hs hw
  rw [h1]
  exact thn (hg pins s1 σ H1 x v _ I1 r1 q1) fun _ s2 q => q
theorem ZAM {i : Nat} {x : Str} {e : Expr} {te : TE} {pos' : Pos} (hN : X.N.Nodup) (hi : X.N[i]? = some x) (hx : Loc X.env.scope x) (he : PE X e te) (hs : swapsWith e (some (.Name x pos')) pos.line X.env = pure false := by rfl) (hf : X.fn x = true ∨ X.env.scope.names.lookup x = some .local := by first | exact .inl rfl | exact .inr rfl | assumption) :
    PS X (.Assign [.Name x pos'] e pos) (tAsg te (ZEE i)) := by
  intro pins s σ H D I h
  refine wpAny_Assign_Name (thn (he pins s σ H _ I h) fun v s1 ⟨y, H1, I1, r1, q1⟩ => ?_) hs
  exact ZCH I1 hN hi hx r1 (fun s2 I2 => ⟨_, H1, I2, q1⟩) hf
def tAug (i : Nat) (te : TE) (ti : TIp) : TS := fun D σ H => ∃ x, σ[i]? = some (some x) /\ te σ H fun y H1 => ti x y H1 fun z H2 => D.nx (σ.set i (some z)) H2
theorem ps_aug {i : Nat} {x : Str} {e : Expr} {te : TE} {op : Operator} {ti : TIp} {pos' : Pos} (hN : X.N.Nodup) (hi : X.N[i]? = some x) (hx : Loc X.env.scope x) (he : PE X e te) (ho : PIp X op ti) (hf : X.fn x = true ∨ X.env.scope.names.lookup x = some .local := by first | exact .inl rfl | exact .inr rfl | assumption) :
    PS X (.AugAssign (.Name x pos') op e pos) (tAug i te ti) := by
  intro pins s σ H D I h
  obtain ⟨v, e1, h⟩ := h
  obtain ⟨m, hn, hl⟩ := I.loc
  have vis : Vis X.env.scope x := by rcases hx with k | k; exact .inl k; exact .inr (.inl k)
  obtain ⟨u, r, l⟩ := hl i x v hi e1 vis
  refine wpAny_AugAssign_Name ?_
  have go : wpAny (model X.prog X.w) X.A (eval e X.env) (fun w s₂ => wpAny (model X.prog X.w) X.A (inplaceOp op u w) (fun r s₃ => wpAny (model X.prog X.w) X.A (storeName X.env x r) (fun _ => SP X pins D .next) X.xe s₃) X.xe s₂) X.xe s := by
    refine thn (he pins s σ H _ I h) fun w s1 ⟨y, H1, I1, r1, q1⟩ => ?_
    refine thn (ho pins s1 σ H1 v y u w _ I1 r r1 q1) fun z s2 ⟨zv, H2, I2, r2, q2⟩ => ?_
    exact ZCH I2 hN hi hx r2 (fun s3 I3 => ⟨_, H2, I3, q2⟩) hf
  rcases l with ⟨hk, hm⟩ | ⟨hk, c, hc, hcell⟩
  . exact wpAny_loadName_local I.ok.kind hk hn hm go
  . rcases hk with hk | hk
    . exact wpAny_loadName_cell I.ok.kind hk hc hcell go
    . rcases hx with k | k
      . have : X.env.scope.names.lookup x = some .free := hk
        rw [k] at this; cases this
      . have : X.env.scope.names.lookup x = some .free := hk
        rw [k] at this; cases this
def ipI (f : Int -> Int -> Int) : TIp := fun x y H Q => ∃ i j, x = .int i /\ y = .int j /\ Q (.int (f i j)) H
theorem ip_add : PIp X .Add (ipI fun i j => i + j) := by
  intro pins s σ H x y v u Q I r1 r2 h
  obtain ⟨i, j, e1, e2, q⟩ := h
  subst e1; subst e2
  obtain ⟨t, rfl⟩ := r1
  obtain ⟨t', rfl⟩ := r2
  exact iadd_int ⟨.int _, H, I.tok _, ⟨_, rfl⟩, q⟩
end
section
variable {X : Cx} {pos : Pos}
def tWhile (c : TT) (tb : TS) : TS := fun D σ H => ∃ W : Nat -> St -> Hp -> Prop, (∃ m, W m σ H) /\ ∀ m σ H, W m σ H ->
  c σ H fun b H1 => if b = true then ∃ N : St -> Hp -> Prop, (∀ σ' H', N σ' H' -> ∃ m', m' < m /\ W m' σ' H') /\ tb { D with nx := N, ct := N, bk := D.nx } σ H1 else D.nx σ H1
theorem ZCJ {c : Expr} {body : List Stmt} {tc : TT} {tb : TS} (hp : PassesOwn (model X.prog X.w) X.A X.env X.xe) (hc : PT X c tc) (hb : PSs X body tb) : PS X (.While c body [] pos) (tWhile tc tb) := by
  intro pins s σ H D I h
  obtain ⟨W, ⟨m0, w0⟩, turn⟩ := h
  refine wpAny_While (codeAny_whileLoop (fun n s' => ∃ σ' H', Inv X pins σ' H' s' /\ W n σ' H') ?_ m0 ⟨σ, H, I, w0⟩)
  rintro n s1 ⟨σ1, H1, I1, w1⟩
  refine wpAny_passesOwn hp (thn (hc pins s1 σ1 H1 _ I1 (turn n σ1 H1 w1)) fun b s2 ⟨H2, I2, q2⟩ => ?_)
  cases b with
  | true =>
    obtain ⟨N, hN, q2⟩ := q2
    rw [if_pos rfl]
    refine wpAny_passesOwn hp (thn (hb pins s2 σ1 H2 _ I2 q2) fun f s3 q3 => ?_)
    cases f with
    | next =>
      obtain ⟨σ3, H3, I3, n3⟩ := q3
      obtain ⟨m', hm, w3⟩ := hN σ3 H3 n3
      exact ⟨m', hm, σ3, H3, I3, w3⟩
    | cont =>
      obtain ⟨σ3, H3, I3, n3⟩ := q3
      obtain ⟨m', hm, w3⟩ := hN σ3 H3 n3
      exact ⟨m', hm, σ3, H3, I3, w3⟩
    | brk => exact q3
    | ret v => exact q3
  | false =>
    rw [if_neg yAX]
    exact wpAny_execs_nil ⟨σ1, H2, I2, q2⟩
end
structure It where
  go : Nat -> Hp -> Prop
  yld : Nat -> Hp -> V -> Hp -> Prop
  stop : Nat -> Hp -> Prop
def FpOk (X : Cx) (pins : List (Addr × Obj)) (H : Hp) (b : Addr) : Prop :=
  H b = none /\ b ≠ X.env.locals /\ b ∉ X.fs /\ (b ∈ X.ex ∨ X.s₀.heap.objs.size <= b) /\ (∀ x c, X.env.cells.lookup x = some c -> c ≠ b) /\ ∀ p ∈ X.pn ++ pins, p.1 ≠ b
theorem Inv.fpOk {X : Cx} {pins : List (Addr × Obj)} {σ : St} {H H' : Hp} {s : Shared} {b : Addr} (I : Inv X pins σ H s) (hb : s.heap.objs.size <= b) (hn : H' b = none) : FpOk X pins H' b := by
  refine ⟨hn, Nat.ne_of_gt (yAQ I.lt hb), I.nofs hb, .inr (yAK I.sz hb), fun x c e z => ?_, fun p hp z => ?_⟩
  . obtain ⟨v, q⟩ := I.cell x c e
    exact absurd (yAQ q.lt (by rw [z]; exact hb)) (yBR _)
  . exact absurd (yAQ (Heap.lt_size (I.pin p hp).1) (by rw [z]; exact hb)) (yBR _)
structure Turn (P : Program) (w : World) (K : W.Frag) (tg : Expr) (J : It) (fp : List Addr) (it : Addr) (tn : Nat -> Heap -> Prop) : Prop where
  mem : it ∈ fp
  obj : ∀ i h, tn i h -> ∀ b ∈ fp, ∃ o, h.get? b = some o /\ ∀ v, o.data ≠ .cell v
  keep : ∀ i h h', tn i h -> (∀ b ∈ fp, ∀ o, h.get? b = some o -> h'.get? b = some o) -> tn i h'
  item : ∀ (X : Cx), X.prog = P -> X.w = w -> X.K = K -> X.calm = true -> ∀ (i : Nat) (pins : List (Addr × Obj)) (s : Shared) (σ : St) (H : Hp) (E : Value -> Shared -> Prop), Inv X pins σ H s -> (∀ b ∈ fp, FpOk X pins H b) -> tn i s.heap -> J.go i H ->
    wpAny (model P w) X.A (pyNext (.ref it)) (fun r s1 => ∃ u, r = some u /\
      wpAny (model P w) X.A (letOwnedTupleGo tg (.ref it) u) (fun _ s2 => ∃ x H', Inv X pins σ H' s2 /\ RelV x u /\ J.yld i H x H' /\ tn (i + 1) s2.heap /\ ∀ b ∈ fp, H' b = none) E s1) E s
  done : ∀ (X : Cx), X.prog = P -> X.w = w -> X.K = K -> X.calm = true -> ∀ (i : Nat) (pins : List (Addr × Obj)) (s : Shared) (σ : St) (H : Hp) (E : Value -> Shared -> Prop), Inv X pins σ H s -> (∀ b ∈ fp, FpOk X pins H b) -> tn i s.heap -> J.stop i H ->
    wpAny (model P w) X.A (pyNext (.ref it)) (fun r s1 => r = none /\ Inv X pins σ H s1) E s
  self : ∀ (A : Around) (i : Nat) (s : Shared) (Q : Value -> Shared -> Prop) (E : Value -> Shared -> Prop), tn i s.heap -> Q (.ref it) s -> wpAny (model P w) A (pyIter (.ref it)) Q E s
abbrev TI := St -> Hp -> (It -> Hp -> Prop) -> Prop
def PIE (X : Cx) (pins : List (Addr × Obj)) (σ : St) (tg : Expr) (R : It -> Hp -> Prop) (itv : Value) (s2 : Shared) : Prop :=
  ∃ (it : Addr) (fp : List Addr) (tn : Nat -> Heap -> Prop) (J : It) (H' : Hp), itv = .ref it /\ Inv X pins σ H' s2 /\ Turn X.prog X.w X.K tg J fp it tn /\ tn 0 s2.heap /\ (∀ b ∈ fp, FpOk X pins H' b) /\ R J H'
def PI (X : Cx) (tg iter : Expr) (wi : TI) : Prop :=
  ∀ (pins : List (Addr × Obj)) (s : Shared) (σ : St) (H : Hp) (R : It -> Hp -> Prop), Inv X pins σ H s -> wi σ H R ->
    wpAny (model X.prog X.w) X.A (eval iter X.env) (fun v s1 => wpAny (model X.prog X.w) X.A (pyIter v) (PIE X pins σ tg R) X.xe s1) X.xe s
theorem go_of {M : Model} {A : Around} {E : Value -> Shared -> Prop} {s : Shared} {tg : Expr} {it : Addr} {u : Value} {o : Obj} {n : String} {vs : Array Value} {Q : Unit -> Shared -> Prop} (ho : s.heap.get? it = some o) (hc : o.cls = .type n) (hd : o.data = .fields vs)
    (hn : ["enumerate", "zip", "dict_itemiterator", "dict_reverseitemiterator", "odict_iterator", "itertools.zip_longest", "itertools.pairwise"].contains n = false) (hQ : Q () s) : wpAny M A (letOwnedTupleGo tg (.ref it) u) Q E s := by
  unfold letOwnedTupleGo
  cases tg <;> first
    | exact wpAny_pure hQ
    | (cases u <;> first
        | exact wpAny_pure hQ
        | (refine wpAny_bind (wpAny_load ho ?_)
           rw [hc, hd]
           show wpAny M A (if (["enumerate", "zip", "dict_itemiterator", "dict_reverseitemiterator", "odict_iterator", "itertools.zip_longest", "itertools.pairwise"].contains n && vs[0]? == some (rawInt _)) = true then _ else _) Q E s
           rw [if_neg (by intro h; rw [hn, Bool.false_and] at h; cases h)]
           exact wpAny_pure hQ))
def Itl (K : W.Frag) (a : Addr) : It :=
  ⟨fun i H => ∃ xs x, SqL K H a xs /\ xs[i]? = some x, fun i H x H' => H' = H /\ ∀ xs, SqL K H a xs -> xs[i]? = some x, fun i H => ∃ xs, SqL K H a xs /\ xs.length <= i⟩
def Itr (lo : Int) (n : Nat) : It := ⟨fun i _ => i < n, fun i H x H' => H' = H /\ x = .int (lo + i), fun i _ => n <= i⟩
theorem turn_list {P : Program} {w : World} {K : W.Frag} {tg : Expr} (a it : Addr) : Turn P w K tg (Itl K a) [it] it (fun i h => h.IsListIter it a i) where
  mem := by simp
  obj := fun i h st b hb => by
    have e : b = it := by simpa using hb
    subst e
    obtain ⟨o, e, c, d⟩ := st
    exact ⟨o, e, fun v z => by rw [d] at z; cases z⟩
  keep := fun i h h' st k => st.at fun o e => k it (by simp) o e
  item := by
    intro X hP hw hK hc i pins s σ H E I hf st hg
    subst hP hw hK
    obtain ⟨xs, x, hq, hx⟩ := hg
    obtain ⟨its, rv, p, hz⟩ := I.list hq
    obtain ⟨u, hu, ru⟩ := rv.get hx
    obtain ⟨f0, f1, f2, f3, f4, f5⟩ := hf it (by simp)
    refine wpAny_pyNext_list_item st p.isList (x := u) (by simpa using hu) fun h' st' sb => ?_
    have I1 : Inv X pins σ H { s with heap := h' } := I.turned (t' := s.toks) (fun b o hb e => (sb.2 b hb).trans e) f0 f1 f3 f4 f5
    obtain ⟨o, e, c, d⟩ := id st'
    exact ⟨u, rfl, go_of (s := { s with heap := h' }) e c d (by decide) ⟨x, H, I1, ru, ⟨rfl, fun ys hy => by rw [I.list_inj hy hq]; exact hx⟩, st', fun b hb => (hf b hb).1⟩⟩
  done := by
    intro X hP hw hK hc i pins s σ H E I hf st hg
    subst hP hw hK
    obtain ⟨xs, hq, hx⟩ := hg
    obtain ⟨its, rv, p, hz⟩ := I.list hq
    obtain ⟨f0, f1, f2, f3, f4, f5⟩ := hf it (by simp)
    have hl := rv.length
    exact wpAny_pyNext_list_end (I.ok.hd hc) st p.isList (by simp; omega) fun h' eb => ⟨rfl, I.turned (t' := s.toks) (fun b o hb e => eb b o hb e) f0 f1 f3 f4 f5⟩
  self := fun _ _ _ _ _ st h => wpAny_pyIter_listiter st h
theorem turn_range {P : Program} {w : World} {K : W.Frag} {tg : Expr} (it : Addr) (lo : Int) (n : Nat) : Turn P w K tg (Itr lo n) [it] it (fun i h => IsRangeIter h it (lo + (i : Nat) * 1) ((n : Int) - (i : Nat)) 1) where
  mem := by simp
  obj := fun i h st b hb => by
    have e : b = it := by simpa using hb
    subst e
    exact ⟨_, st, fun v z => by
      have z' : Data.fields _ = Data.cell v := z
      cases z'⟩
  keep := fun i h h' st k => k it (by simp) _ st
  item := by
    intro X hP hw hK hc i pins s σ H E I hf st hg
    subst hP hw hK
    obtain ⟨f0, f1, f2, f3, f4, f5⟩ := hf it (by simp)
    have W := Walks.range (prog := X.prog) (w := X.w) (I.ok.hd hc) it lo 1 n
    refine W.item i s _ _ hg st fun v h' tk hv st' kk => ?_
    obtain ⟨t, rfl⟩ := hv
    have I1 : Inv X pins σ H { s with heap := h', toks := tk } := I.turned (fun b o hb e => kk b o (by simpa using hb) e) f0 f1 f3 f4 f5
    refine ⟨_, rfl, go_of (s := { s with heap := h', toks := tk }) (n := "range_iterator") st' rfl rfl (by decide) ⟨.int (lo + i), H, I1, ⟨t, ?_⟩, ⟨rfl, rfl⟩, st', fun b hb => (hf b hb).1⟩⟩
    rw [Int.mul_one]
  done := by
    intro X hP hw hK hc i pins s σ H E I hf st hg
    subst hP hw hK
    obtain ⟨f0, f1, f2, f3, f4, f5⟩ := hf it (by simp)
    exact wpAny_pyNext_range_end (I.ok.hd hc) st (by have : n <= i := hg; omega) fun h' eb => ⟨rfl, I.turned (t' := s.toks) (fun b o hb e => eb b o hb e) f0 f1 f3 f4 f5⟩
  self := fun _ _ _ _ _ st h => wpAny_pyIter_rangeiter st h
section
variable {X : Cx} {tg : Expr}
def ZER (K : W.Frag) (tl : TE) : TI := fun σ H R => tl σ H fun x H1 => ∃ a, x = .ref a /\ (∃ xs, SqL K H1 a xs) /\ R (Itl K a) H1
theorem ZBy {l : Expr} {tl : TE} (hl : PE X l tl) : PI X tg l (ZER X.K tl) := by
  intro pins s σ H R I h
  refine thn (hl pins s σ H _ I h) fun v s1 ⟨x, H1, I1, r1, q1⟩ => ?_
  obtain ⟨a, e, ⟨xs, hq⟩, q⟩ := q1
  subst e
  cases r1
  obtain ⟨its, rv, p, hz⟩ := I1.list hq
  refine wpAny_pyIter_list p.isList ?_
  refine ⟨s1.heap.objs.size, [s1.heap.objs.size], _, _, H1, rfl, I1.kept (t' := s1.toks) fun b o e => Heap.get?_push_of_some _ e, turn_list a _, ⟨_, Heap.get?_push_size _ rfl, rfl, rfl⟩, fun b hb => ?_, q⟩
  have e : b = s1.heap.objs.size := by simpa using hb
  subst e
  exact I1.fpOk (yAA _) (I1.hok.fresh (yAA _))
theorem range_it {pins : List (Addr × Obj)} {σ : St} {H : Hp} {s : Shared} {R : It -> Hp -> Prop} {E : Value -> Shared -> Prop} {lo hi : Int} {t u v : Tok} {tk : Nat} (I : Inv X pins σ H s) (h1 : -(2 ^ 62) <= lo) (h2 : lo < 2 ^ 62) (h3 : -(2 ^ 62) <= hi) (h4 : hi < 2 ^ 62)
    (q : R (Itr lo (hi - lo).toNat) H) : wpAny (model X.prog X.w) X.A (pyIter (.ref s.heap.objs.size)) (PIE X pins σ tg R) E { s with heap := s.heap.push { cls := .type "range", data := .fields #[.int lo t, .int hi u, .int 1 v] }, toks := tk } := by
  refine wpAny_pyIter_range (IsRange.new ..) (small_one h1 h2 h3 h4) ?_
  have I1 : Inv X pins σ H { s with heap := s.heap.push { cls := .type "range", data := .fields #[.int lo t, .int hi u, .int 1 v] }, toks := tk } := I.kept fun b o e => Heap.get?_push_of_some _ e
  refine ⟨(s.heap.push { cls := .type "range", data := .fields #[.int lo t, .int hi u, .int 1 v] }).objs.size, [(s.heap.push { cls := .type "range", data := .fields #[.int lo t, .int hi u, .int 1 v] }).objs.size], _, _, H, rfl,
    I1.kept (t' := tk) fun b o e => Heap.get?_push_of_some _ e, turn_range _ lo (hi - lo).toNat, ?_, fun b hb => ?_, q⟩
  . have e1 : lo + ((0 : Nat) : Int) * 1 = lo := by simp
    have e2 : (((hi - lo).toNat : Nat) : Int) - ((0 : Nat) : Int) = Builtin.Range.rangeSize lo hi 1 := by rw [rangeSize_one]; split <;> omega
    show IsRangeIter _ _ (lo + ((0 : Nat) : Int) * 1) ((((hi - lo).toNat : Nat) : Int) - ((0 : Nat) : Int)) 1
    rw [e1, e2]
    exact Heap.get?_push_size _ rfl
  . have e : b = (s.heap.push { cls := .type "range", data := .fields #[.int lo t, .int hi u, .int 1 v] }).objs.size := by simpa using hb
    subst e
    exact I1.fpOk (yAA _) (I1.hok.fresh (yAA _))
def ZEQ (ta : TA) : TI := fun σ H R => ta σ H fun vs H1 => ∃ j : Int, vs = [.int j] /\ -(2 ^ 62) <= j /\ j < 2 ^ 62 /\ R (Itr 0 j.toNat) H1
def iRng2 (ta : TA) : TI := fun σ H R => ta σ H fun vs H1 => ∃ i j : Int, vs = [.int i, .int j] /\ (-(2 ^ 62) <= i /\ i < 2 ^ 62 /\ -(2 ^ 62) <= j /\ j < 2 ^ 62) /\ R (Itr i (j - i).toNat) H1
theorem pi_range1 {a : Expr} {ta : TA} {p pos : Pos} (hg : Gl X "range") (hm : X.mg "range" = none) (ha : PA X [a] ta) (hs : starEach [a] X.env = [(false, eval a X.env)] := by rfl) : PI X tg (.Call (.Name "range" p) [a] [] pos) (ZEQ ta) := by
  intro pins s σ H R I h
  refine Call_ (ZCq I hg hm boot_range (PyProof.Rows.callWith_type1 (thn (ha pos pins s σ H _ I h) fun us s1 ⟨vs, H1, I1, r1, q1⟩ => ?_) hs rfl))
  obtain ⟨j, e, q1, q2, q⟩ := q1
  subst e
  cases r1 with
  | cons r rr =>
    cases rr
    obtain ⟨t, rfl⟩ := r
    exact call_range_1 (range_it I1 (by omega) (by omega) q1 q2 (by simpa using q))
def tFor (wi : TI) (g : TG) (tb : TS) : TS := fun D σ H => wi σ H fun J H1 => ∃ W : Nat -> Nat -> St -> Hp -> Prop, (∃ m, W 0 m σ H1) /\ ∀ i m σ H, W i m σ H ->
  (J.stop i H /\ D.nx σ H) ∨ (J.go i H /\ ∃ N : St -> Hp -> Prop, (∀ σ' H', N σ' H' -> ∃ m', m' < m /\ W (i + 1) m' σ' H') /\ ∀ x H', J.yld i H x H' -> g x σ H' fun σ2 H2 => tb { D with nx := N, ct := N, bk := D.nx } σ2 H2)
def ZDC (fp : List Addr) (h : Heap) : List (Addr × Obj) := fp.filterMap fun b => (h.get? b).map fun o => (b, o)
theorem ZBm {fp : List Addr} {h : Heap} {b : Addr} {o : Obj} (hb : b ∈ fp) (e : h.get? b = some o) : (b, o) ∈ ZDC fp h := List.mem_filterMap.mpr ⟨b, hb, by rw [e]; rfl⟩
theorem of_pinsAt {fp : List Addr} {h : Heap} {p : Addr × Obj} (hp : p ∈ ZDC fp h) : p.1 ∈ fp /\ h.get? p.1 = some p.2 := by
  obtain ⟨b, hb, e⟩ := List.mem_filterMap.mp hp
  cases q : h.get? b with
  | none => rw [q] at e; cases e
  | some o =>
    rw [q] at e
    have e' : (b, o) = p := Option.some.inj e
    subst e'
    exact ⟨hb, q⟩
theorem Inv.pinned {pins : List (Addr × Obj)} {σ : St} {H : Hp} {s : Shared} {fp : List Addr} (I : Inv X pins σ H s) (hf : ∀ b ∈ fp, FpOk X pins H b) (ho : ∀ b ∈ fp, ∃ o, s.heap.get? b = some o /\ ∀ v, o.data ≠ .cell v) : Inv X (pins ++ ZDC fp s.heap) σ H s :=
  I.pins_of fun p hp => (yAU.mp hp).elim (fun z => I.pin p (yBE _ z)) fun z => by
    obtain ⟨hb, e⟩ := of_pinsAt z
    obtain ⟨f0, f1, f2, _⟩ := hf p.1 hb
    obtain ⟨o, e', d⟩ := ho p.1 hb
    rw [e] at e'; cases e'
    exact ⟨e, f0, f1, f2, d⟩
theorem Inv.unpinned {pins pl : List (Addr × Obj)} {σ : St} {H : Hp} {s : Shared} (I : Inv X (pins ++ pl) σ H s) : Inv X pins σ H s := I.pins_of fun p hp => I.pin p (yBE _ (List.mem_append_left _ hp))
theorem ZCY {iter : Expr} {body : List Stmt} {wi : TI} {g : TG} {tb : TS} {pos : Pos} (hp : PassesOwn (model X.prog X.w) X.A X.env X.xe) (hc : X.calm = true) (hi : PI X tg iter wi) (hg : PG X tg g) (hb : PSs X body tb)
    (hs : ∀ x, foldedSetIterable iter X.env x = pure x := by intro _; rfl) : PS X (.For tg iter body [] pos) (tFor wi g tb) := by
  intro pins s σ H D I h
  refine wpAny_For (thn (hi pins s σ H _ I h) fun v s1 h1 => thn h1 fun itv s2 h2 => ?_) hs
  obtain ⟨it, fp, tn, J, H2, e, I2, T, st2, f2, W, ⟨m0, w0⟩, turn⟩ := h2
  subst e
  -- what stays true of the iterator's objects through the loop
  have stat : ∀ {H' : Hp}, (∀ b ∈ fp, H' b = none) -> ∀ b ∈ fp, FpOk X pins H' b := fun hn b hb => ⟨hn b hb, (f2 b hb).2⟩
  refine codeAny_forLoop_any (fun n s' => ∃ i σ' H', Inv X pins σ' H' s' /\ tn i s'.heap /\ (∀ b ∈ fp, H' b = none) /\ W i n σ' H') ?_ m0 ⟨0, σ, H2, I2, st2, fun b hb => (f2 b hb).1, w0⟩
  rintro n s3 ⟨i, σ3, H3, I3, st3, fr3, w3⟩
  rcases turn i n σ3 H3 w3 with ⟨stop, qn⟩ | ⟨go, N, hN, step⟩
  . refine wpAny_passesOwn hp (thn (T.done X rfl rfl rfl hc i pins s3 σ3 H3 X.xe I3 (stat fr3) st3 stop) fun r s4 ⟨hr, I4⟩ => ?_)
    subst hr
    exact wpAny_execs_nil ⟨σ3, H3, I4, qn⟩
  . refine wpAny_passesOwn hp (thn (T.item X rfl rfl rfl hc i pins s3 σ3 H3 X.xe I3 (stat fr3) st3 go) fun r s4 ⟨u, hr, h4⟩ => ?_)
    subst hr
    refine wpAny_passesOwn hp (thn h4 fun _ s5 ⟨x, H5, I5, r5, y5, st5, fr5⟩ => ?_)
    have I5' := I5.pinned (stat fr5) (T.obj _ _ st5)
    refine wpAny_passesOwn hp (thn (hg _ s5 σ3 H5 x u _ I5' r5 (step x H5 y5)) fun _ s6 ⟨σ6, H6, I6, q6⟩ => ?_)
    refine wpAny_passesOwn hp (thn (hb _ s6 σ6 H6 _ I6 q6) fun f s7 q7 => ?_)
    have again : ∀ {σ7 : St} {H7 : Hp}, Inv X (pins ++ ZDC fp s5.heap) σ7 H7 s7 -> N σ7 H7 -> ∃ m, m < n /\ ∃ i σ' H', Inv X pins σ' H' s7 /\ tn i s7.heap /\ (∀ b ∈ fp, H' b = none) /\ W i m σ' H' := fun {σ7 H7} I7 n7 => by
      obtain ⟨m', hm, w7⟩ := hN σ7 H7 n7
      refine ⟨m', hm, i + 1, σ7, H7, I7.unpinned, T.keep _ _ _ st5 fun b hb o e => (I7.pin (b, o) (yBE _ (yBE _ (ZBm hb e)))).1, fun b hb => ?_, w7⟩
      obtain ⟨o, e, d⟩ := T.obj _ _ st5 b hb
      exact (I7.pin (b, o) (yBE _ (yBE _ (ZBm hb e)))).2.1
    cases f with
    | next => obtain ⟨σ7, H7, I7, n7⟩ := q7; exact again I7 n7
    | cont => obtain ⟨σ7, H7, I7, n7⟩ := q7; exact again I7 n7
    | brk => obtain ⟨σ7, H7, I7, q7⟩ := q7; exact ⟨σ7, H7, I7.unpinned, q7⟩
    | ret v => obtain ⟨x7, σ7, H7, I7, r7, q7⟩ := q7; exact ⟨x7, σ7, H7, I7.unpinned, r7, q7⟩
end
theorem for_list {K : W.Frag} {a : Addr} {xs : List V} {g : TG} {tb : TS} {D : Ends} {σ : St} {H : Hp} (Pv : Nat -> St -> Hp -> Prop) (h0 : Pv 0 σ H) (hl : ∀ i σ H, i <= xs.length -> Pv i σ H -> SqL K H a xs)
    (hs : ∀ i x σ H, xs[i]? = some x -> Pv i σ H -> g x σ H fun σ2 H2 => tb { D with nx := Pv (i + 1), ct := Pv (i + 1), bk := D.nx } σ2 H2) (hd : ∀ σ H, Pv xs.length σ H -> D.nx σ H) :
    ∃ W : Nat -> Nat -> St -> Hp -> Prop, (∃ m, W 0 m σ H) /\ ∀ i m σ H, W i m σ H ->
      ((Itl K a).stop i H /\ D.nx σ H) ∨ ((Itl K a).go i H /\ ∃ N : St -> Hp -> Prop, (∀ σ' H', N σ' H' -> ∃ m', m' < m /\ W (i + 1) m' σ' H') /\ ∀ x H', (Itl K a).yld i H x H' -> g x σ H' fun σ2 H2 => tb { D with nx := N, ct := N, bk := D.nx } σ2 H2) := by
  refine ⟨fun i m σ H => m = xs.length - i /\ i <= xs.length /\ Pv i σ H, ⟨xs.length, by simp, yAH _, h0⟩, ?_⟩
  rintro i m σ H ⟨rfl, hi, p⟩
  have q := hl i σ H hi p
  by_cases hlt : i < xs.length
  . refine .inr ⟨⟨xs, xs[i], q, by simp [hlt]⟩, Pv (i + 1), fun σ' H' p' => ⟨xs.length - (i + 1), by omega, rfl, hlt, p'⟩, fun x H' y => ?_⟩
    obtain ⟨e, y⟩ := y
    subst e
    exact hs i x σ _ (y xs q) p
  . have e : i = xs.length := by omega
    subst e
    exact .inl ⟨⟨xs, q, yAA _⟩, hd σ H p⟩
theorem for_range {lo : Int} {n : Nat} {g : TG} {tb : TS} {D : Ends} {σ : St} {H : Hp} (Pv : Nat -> St -> Hp -> Prop) (h0 : Pv 0 σ H)
    (hs : ∀ i σ H, i < n -> Pv i σ H -> g (.int (lo + i)) σ H fun σ2 H2 => tb { D with nx := Pv (i + 1), ct := Pv (i + 1), bk := D.nx } σ2 H2) (hd : ∀ σ H, Pv n σ H -> D.nx σ H) :
    ∃ W : Nat -> Nat -> St -> Hp -> Prop, (∃ m, W 0 m σ H) /\ ∀ i m σ H, W i m σ H ->
      ((Itr lo n).stop i H /\ D.nx σ H) ∨ ((Itr lo n).go i H /\ ∃ N : St -> Hp -> Prop, (∀ σ' H', N σ' H' -> ∃ m', m' < m /\ W (i + 1) m' σ' H') /\ ∀ x H', (Itr lo n).yld i H x H' -> g x σ H' fun σ2 H2 => tb { D with nx := N, ct := N, bk := D.nx } σ2 H2) := by
  refine ⟨fun i m σ H => m = n - i /\ i <= n /\ Pv i σ H, ⟨n, by simp, yAH _, h0⟩, ?_⟩
  rintro i m σ H ⟨rfl, hi, p⟩
  by_cases hlt : i < n
  . refine .inr ⟨hlt, Pv (i + 1), fun σ' H' p' => ⟨n - (i + 1), by omega, rfl, hlt, p'⟩, fun x H' y => ?_⟩
    obtain ⟨e, y⟩ := y
    subst e y
    exact hs i σ _ hlt p
  . have e : i = n := by omega
    subst e
    exact .inl ⟨yAA _, hd σ H p⟩
abbrev R2 := V -> V -> Hp -> VK -> Prop
def OpR (X : Cx) (f : Value -> Value -> Sem Value) (r : R2) : Prop :=
  ∀ (pins : List (Addr × Obj)) (s : Shared) (σ : St) (H : Hp) (x y : V) (v u : Value) (Q : VK), Inv X pins σ H s -> RelV x v -> RelV y u -> r x y H Q ->
    wpAny (model X.prog X.w) X.A (f v u) (EP X pins σ Q) X.xe s
def UnR (X : Cx) (f : Value -> Sem Value) (r : V -> Hp -> VK -> Prop) : Prop :=
  ∀ (pins : List (Addr × Obj)) (s : Shared) (σ : St) (H : Hp) (x : V) (v : Value) (Q : VK), Inv X pins σ H s -> RelV x v -> r x H Q ->
    wpAny (model X.prog X.w) X.A (f v) (EP X pins σ Q) X.xe s
def ZCg (X : Cx) (f : Value) (r : List V -> Hp -> VK -> Prop) : Prop :=
  ∀ (pins : List (Addr × Obj)) (s : Shared) (σ : St) (H : Hp) (xs : List V) (us : List Value) (Q : VK), Inv X pins σ H s -> Vals xs us -> r xs H Q ->
    wpAny (model X.prog X.w) X.A (call f us) (EP X pins σ Q) X.xe s
def tOp (r : R2) (ta tb : TE) : TE := fun σ H Q => ta σ H fun x H1 => tb σ H1 fun y H2 => r x y H2 Q
def tUn (r : V -> Hp -> VK -> Prop) (ta : TE) : TE := fun σ H Q => ta σ H fun x H1 => r x H1 Q
def rI (C : Int -> Int -> Prop) (g : Int -> Int -> V) : R2 := fun x y H Q => ∃ i j, x = .int i /\ y = .int j /\ C i j /\ Q (g i j) H
def rI0 (g : Int -> Int -> V) : R2 := fun x y H Q => ∃ i j, x = .int i /\ y = .int j /\ Q (g i j) H
def rU (g : Int -> V) : V -> Hp -> VK -> Prop := fun x H Q => ∃ i, x = .int i /\ Q (g i) H
section
variable {X : Cx} {a b c : Expr} {ta tb tc : TE} {pos : Pos}
theorem binT (ha : PE X a ta) (hb : PE X b tb) {pins : List (Addr × Obj)} {s : Shared} {σ : St} {H : Hp} {R : V -> V -> Hp -> Prop} (I : Inv X pins σ H s)
    (h : ta σ H fun x H1 => tb σ H1 fun y H2 => R x y H2) {Q : Value -> Shared -> Prop} {f : Value -> Value -> Sem Value}
    (hf : ∀ v u s2 x y H2, Inv X pins σ H2 s2 -> RelV x v -> RelV y u -> R x y H2 -> wpAny (model X.prog X.w) X.A (f v u) Q X.xe s2) :
    wpAny (model X.prog X.w) X.A (eval a X.env) (fun v s₁ => wpAny (model X.prog X.w) X.A (eval b X.env) (fun u s₂ => wpAny (model X.prog X.w) X.A (f v u) Q X.xe s₂) X.xe s₁) X.xe s := by
  refine thn (ha pins s σ H _ I h) fun v s1 ⟨x, H1, I1, r1, q1⟩ => ?_
  refine thn (hb pins s1 σ H1 _ I1 q1) fun u s2 ⟨y, H2, I2, r2, q2⟩ => ?_
  exact hf v u s2 x y H2 I2 r1 r2 q2
theorem ZAQ {op : Operator} {r : R2} (ho : OpR X (binaryOp op) r) (ha : PE X a ta) (hb : PE X b tb) : PE X (.BinOp a op b pos) (tOp r ta tb) := by
  intro pins s σ H Q I h
  exact wpAny_BinOp (binT ha hb I h fun v u s2 x y H2 I2 rx ry q => ho pins s2 σ H2 x y v u Q I2 rx ry q)
theorem ZDi {op : UnaryOp} {r : V -> Hp -> VK -> Prop} (ho : UnR X (unaryOp op) r) (ha : PE X a ta) : PE X (.UnaryOp op a pos) (tUn r ta) := by
  intro pins s σ H Q I h
  exact UnaryOp_ (thn (ha pins s σ H _ I h) fun v s1 ⟨x, H1, I1, r1, q1⟩ => ho pins s1 σ H1 x v Q I1 r1 q1)
theorem opI {f : Value -> Value -> Sem Value} {C : Int -> Int -> Prop} {g : Int -> Int -> Int}
    (rule : ∀ (i j : Int) (t u : Tok) (s : Shared) (Q : Value -> Shared -> Prop) (E : Value -> Shared -> Prop), C i j -> Q (.int (g i j) s.toks) { s with toks := s.toks + 1 } -> wpAny (model X.prog X.w) X.A (f (.int i t) (.int j u)) Q E s) :
    OpR X f (rI C fun i j => .int (g i j)) := by
  intro pins s σ H x y v u Q I rx ry h
  obtain ⟨i, j, rfl, rfl, hc, q⟩ := h
  obtain ⟨t, rfl⟩ := rx
  obtain ⟨t', rfl⟩ := ry
  exact rule i j t t' s _ _ hc ⟨.int (g i j), H, I.tok _, ⟨_, rfl⟩, q⟩
theorem opI0 {f : Value -> Value -> Sem Value} {g : Int -> Int -> Int}
    (rule : ∀ (i j : Int) (t u : Tok) (s : Shared) (Q : Value -> Shared -> Prop) (E : Value -> Shared -> Prop), Q (.int (g i j) s.toks) { s with toks := s.toks + 1 } -> wpAny (model X.prog X.w) X.A (f (.int i t) (.int j u)) Q E s) :
    OpR X f (rI0 fun i j => .int (g i j)) := by
  intro pins s σ H x y v u Q I rx ry h
  obtain ⟨i, j, rfl, rfl, q⟩ := h
  obtain ⟨t, rfl⟩ := rx
  obtain ⟨t', rfl⟩ := ry
  exact rule i j t t' s _ _ ⟨.int (g i j), H, I.tok _, ⟨_, rfl⟩, q⟩
theorem opB0 {f : Value -> Value -> Sem Value} {g : Int -> Int -> Bool}
    (rule : ∀ (i j : Int) (t u : Tok) (s : Shared) (Q : Value -> Shared -> Prop) (E : Value -> Shared -> Prop), Q (.bool (g i j)) s -> wpAny (model X.prog X.w) X.A (f (.int i t) (.int j u)) Q E s) :
    OpR X f (rI0 fun i j => .bl (g i j)) := by
  intro pins s σ H x y v u Q I rx ry h
  obtain ⟨i, j, rfl, rfl, q⟩ := h
  obtain ⟨t, rfl⟩ := rx
  obtain ⟨t', rfl⟩ := ry
  exact rule i j t t' s _ _ ⟨.bl (g i j), H, I, rfl, q⟩
def CDiv (i j : Int) : Prop := 0 < j /\ j < 1073741824
def CPow (i j : Int) : Prop := 0 <= j /\ j <= 1000000 /\ i.natAbs < 2 ^ 64
def CMul (i j : Int) : Prop := (-(2 ^ 64) < i /\ i < 2 ^ 64) ∨ (-(2 ^ 64) < j /\ j < 2 ^ 64)
theorem CMul.ok {i j : Int} (h : CMul i j) : IntMulOk i j := by
  rcases h with ⟨h1, h2⟩ | ⟨h1, h2⟩
  . exact .of_left (intBits_le_64 h1 h2)
  . exact .of_right (intBits_le_64 h1 h2)
theorem two_pow_nn (k : Nat) : (0 : Int) <= 2 ^ k := by
  rw [two_pow_cast]
  exact Int.natCast_nonneg _
theorem ZA6 : OpR X (binaryOp .Add) (rI0 fun i j => .int (i + j)) := opI0 fun _ _ _ _ _ _ _ q => add_int q
theorem ZBh : OpR X (binaryOp .Sub) (rI0 fun i j => .int (i - j)) := opI0 fun _ _ _ _ _ _ _ q => sub_int q
theorem ZCZ : OpR X (binaryOp .Mult) (rI CMul fun i j => .int (i * j)) := opI fun _ _ _ _ _ _ _ hc q => mul_int q hc.ok
theorem ZBA : OpR X (binaryOp .FloorDiv) (rI CDiv fun i j => .int (i / j)) := opI fun i j _ _ _ _ _ hc q => by
  have h1 : (0 : Int) < j := hc.1
  have h2 : j < 1073741824 := hc.2
  exact floordiv_int (by omega) (by rw [Int.fdiv_eq_ediv_of_nonneg i (by omega)]; exact q) (.inl (PyProof.noPylong_small (by omega)))
theorem ZAu : OpR X (binaryOp .Mod) (rI (fun _ j => 0 < j) fun i j => .int (i % j)) := opI fun i j _ _ _ _ _ hc q => by
  have h1 : (0 : Int) < j := hc
  exact mod_int' (by omega) (by rw [Int.fmod_eq_emod_of_nonneg i (by omega)]; exact q)
theorem op_pow : OpR X (binaryOp .Pow) (rI CPow fun i j => .int (i ^ j.toNat)) := opI fun _ _ _ _ _ _ _ hc q => pow_int_small hc.1 hc.2.1 hc.2.2 q
theorem ZD2 : OpR X (binaryOp .RShift) (rI (fun _ j => 0 <= j) fun i j => .int (i / 2 ^ j.toNat)) := opI fun i j _ _ _ _ _ hc q =>
  rshift_int hc (by rw [Int.fdiv_eq_ediv_of_nonneg i (two_pow_nn _)]; exact q)
theorem ZD3 : OpR X (binaryOp .BitAnd) (rI0 fun i j => .int (Builtin.bitAnd i j)) := opI0 fun _ _ _ _ _ _ _ q => and_int q
theorem unI {f : Value -> Sem Value} {g : Int -> Int}
    (rule : ∀ (i : Int) (t : Tok) (s : Shared) (Q : Value -> Shared -> Prop) (E : Value -> Shared -> Prop), Q (.int (g i) s.toks) { s with toks := s.toks + 1 } -> wpAny (model X.prog X.w) X.A (f (.int i t)) Q E s) :
    UnR X f (rU fun i => .int (g i)) := by
  intro pins s σ H x v Q I rx h
  obtain ⟨i, rfl, q⟩ := h
  obtain ⟨t, rfl⟩ := rx
  exact rule i t s _ _ ⟨.int (g i), H, I.tok _, ⟨_, rfl⟩, q⟩
theorem ZCk : UnR X (unaryOp .USub) (rU fun i => .int (-i)) := unI fun _ _ _ _ _ q => neg_int q
end
def scal : V -> V -> Bool
  | .non, .non => true | .non, .int _ => true | .int _, .non => true | .non, .bl _ => true | .bl _, .non => true | .non, .str _ => true | .str _, .non => true
  | .int _, .int _ => true | .bl _, .bl _ => true | .str _, .str _ => true | .byt _, .byt _ => true
  | .int _, .str _ => true | .str _, .int _ => true | .bl _, .str _ => true | .str _, .bl _ => true
  | _, _ => false
def rEq : R2 := fun x y H Q => scal x y = true /\ Q (.bl (decide (x = y))) H
def rNe : R2 := fun x y H Q => scal x y = true /\ Q (.bl (!decide (x = y))) H
theorem dec_int {i j : Int} : decide (V.int i = V.int j) = (i == j) := by
  rw [Bool.eq_iff_iff]
  simp
theorem dec_bl {i j : Bool} : decide (V.bl i = V.bl j) = (i == j) := by
  rw [Bool.eq_iff_iff]
  simp
theorem dec_str {i j : Str} : decide (V.str i = V.str j) = (i == j) := by
  rw [Bool.eq_iff_iff]
  simp
theorem dec_byt {i j : Array UInt8} : decide (V.byt i = V.byt j) = (i.toList == j.toList) := by
  rw [Bool.eq_iff_iff]
  cases i
  cases j
  simp
section
variable {X : Cx} {a b c : Expr} {ta tb tc : TE} {pos : Pos}
theorem ZAb {pins : List (Addr × Obj)} {σ : St} {H : Hp} {s : Shared} {Q : VK} {k k' : Bool} (I : Inv X pins σ H s) (q : Q (.bl k) H) (e : k = k') : EP X pins σ Q (.bool k') s := by
  subst e
  exact ⟨.bl k, H, I, rfl, q⟩
theorem ZB8 : OpR X (compareOp .Eq) rEq := by
  intro pins s σ H x y v u Q I rx ry h
  obtain ⟨hs, q⟩ := h
  cases x with
  | non =>
    cases rx
    cases y with
    | non => cases ry; exact PySem.EqNone.eq_none_none (ZAb I q (by simp))
    | bl j => cases ry; exact PySem.EqNone.eq_none_bool (ZAb I q (by simp))
    | int j => obtain ⟨t', rfl⟩ := ry; exact PySem.EqNone.eq_none_int (ZAb I q (by simp))
    | str j => obtain ⟨t', rfl⟩ := ry; exact PySem.EqNone.eq_none_str (ZAb I q (by simp))
    | _ => exact absurd (show false = true from hs) yAX
  | bl i =>
    cases rx
    cases y with
    | non => cases ry; exact PySem.EqNone.eq_bool_none (ZAb I q (by simp))
    | bl j => cases ry; exact eq_bool (ZAb I q dec_bl)
    | str j => obtain ⟨t', rfl⟩ := ry; exact PySem.EqMixed.eq_bool_str (ZAb I q (by simp))
    | _ => exact absurd (show false = true from hs) yAX
  | int i =>
    obtain ⟨t, rfl⟩ := rx
    cases y with
    | non => cases ry; exact PySem.EqNone.eq_int_none (ZAb I q (by simp))
    | int j => obtain ⟨t', rfl⟩ := ry; exact eq_int (ZAb I q dec_int)
    | str j => obtain ⟨t', rfl⟩ := ry; exact PySem.EqMixed.eq_int_str (ZAb I q (by simp))
    | _ => exact absurd (show false = true from hs) yAX
  | str i =>
    obtain ⟨t, rfl⟩ := rx
    cases y with
    | non => cases ry; exact PySem.EqNone.eq_str_none (ZAb I q (by simp))
    | bl j => cases ry; exact PySem.EqMixed.eq_str_bool (ZAb I q (by simp))
    | int j => obtain ⟨t', rfl⟩ := ry; exact PySem.EqMixed.eq_str_int (ZAb I q (by simp))
    | str j => obtain ⟨t', rfl⟩ := ry; exact eq_str (ZAb I q dec_str)
    | _ => exact absurd (show false = true from hs) yAX
  | byt i =>
    obtain ⟨t, rfl⟩ := rx
    cases y with
    | byt j => obtain ⟨t', rfl⟩ := ry; exact PySem.W.eq_bytes (ZAb I q dec_byt)
    | _ => exact absurd (show false = true from hs) yAX
  | _ => cases y <;> exact absurd (show false = true from hs) yAX
theorem ZEN : OpR X (compareOp .NotEq) rNe := by
  intro pins s σ H x y v u Q I rx ry h
  obtain ⟨hs, q⟩ := h
  cases x with
  | non =>
    cases rx
    cases y with
    | non => cases ry; exact PySem.EqNone.ne_none_none (ZAb I q (by simp))
    | bl j => cases ry; exact PySem.EqNone.ne_none_bool (ZAb I q (by simp))
    | int j => obtain ⟨t', rfl⟩ := ry; exact PySem.EqNone.ne_none_int (ZAb I q (by simp))
    | str j => obtain ⟨t', rfl⟩ := ry; exact PySem.EqNone.ne_none_str (ZAb I q (by simp))
    | _ => exact absurd (show false = true from hs) yAX
  | bl i =>
    cases rx
    cases y with
    | non => cases ry; exact PySem.EqNone.ne_bool_none (ZAb I q (by simp))
    | bl j => cases ry; exact ne_bool (ZAb I q (congrArg not dec_bl))
    | str j => obtain ⟨t', rfl⟩ := ry; exact PySem.EqMixed.ne_bool_str (ZAb I q (by simp))
    | _ => exact absurd (show false = true from hs) yAX
  | int i =>
    obtain ⟨t, rfl⟩ := rx
    cases y with
    | non => cases ry; exact PySem.EqNone.ne_int_none (ZAb I q (by simp))
    | int j => obtain ⟨t', rfl⟩ := ry; exact ne_int (ZAb I q (congrArg not dec_int))
    | str j => obtain ⟨t', rfl⟩ := ry; exact PySem.EqMixed.ne_int_str (ZAb I q (by simp))
    | _ => exact absurd (show false = true from hs) yAX
  | str i =>
    obtain ⟨t, rfl⟩ := rx
    cases y with
    | non => cases ry; exact PySem.EqNone.ne_str_none (ZAb I q (by simp))
    | bl j => cases ry; exact PySem.EqMixed.ne_str_bool (ZAb I q (by simp))
    | int j => obtain ⟨t', rfl⟩ := ry; exact PySem.EqMixed.ne_str_int (ZAb I q (by simp))
    | str j => obtain ⟨t', rfl⟩ := ry; exact ne_str (ZAb I q (congrArg not dec_str))
    | _ => exact absurd (show false = true from hs) yAX
  | byt i =>
    obtain ⟨t, rfl⟩ := rx
    cases y with
    | byt j => obtain ⟨t', rfl⟩ := ry; exact PySem.W.ne_bytes (ZAb I q (congrArg not dec_byt))
    | _ => exact absurd (show false = true from hs) yAX
  | _ => cases y <;> exact absurd (show false = true from hs) yAX
theorem ZDj : OpR X (compareOp .Lt) (rI0 fun i j => .bl (decide (i < j))) := opB0 fun _ _ _ _ _ _ _ q => lt_int q
theorem op_le : OpR X (compareOp .LtE) (rI0 fun i j => .bl (decide (i <= j))) := opB0 fun _ _ _ _ _ _ _ q => le_int q
theorem op_gt : OpR X (compareOp .Gt) (rI0 fun i j => .bl (decide (j < i))) := opB0 fun _ _ _ _ _ _ _ q => gt_int q
theorem op_ge : OpR X (compareOp .GtE) (rI0 fun i j => .bl (decide (j <= i))) := opB0 fun _ _ _ _ _ _ _ q => ge_int q
theorem op_notN : OpR X (compareOp .IsNot) (fun x y H Q => y = .non /\ Q (.bl (!decide (x = .non))) H) := by
  intro pins s σ H x y v u Q I rx ry h
  obtain ⟨rfl, q⟩ := h
  cases ry
  refine isnot_none_gen (ZAb I q ?_)
  cases x <;> first
    | (cases rx; rfl)
    | (obtain ⟨t, rfl⟩ := rx; rfl)
theorem ZAV (b : Expr) {op : CmpOp} (h : op ≠ .In := by decide) (h2 : op ≠ .NotIn := by decide) : behindInMarks op b = false := by
  have e1 : (op == CmpOp.In) = false := by cases op <;> first | rfl | exact absurd rfl h
  have e2 : (op == CmpOp.NotIn) = false := by cases op <;> first | rfl | exact absurd rfl h2
  cases b <;> simp [behindInMarks, e1, e2]
theorem ZBz {op : CmpOp} {r : R2} (ho : OpR X (compareOp op) r) (ha : PE X a ta) (hb : PE X b tb) (hm : behindInMarks op b = false) : PE X (.Compare a [op] [b] pos) (tOp r ta tb) := by
  intro pins s σ H Q I h
  exact wpAny_Compare1 (binT ha hb I h fun v u s2 x y H2 I2 rx ry q => ho pins s2 σ H2 x y v u Q I2 rx ry q) hm
def ZEF (t : TE) : TT := fun σ H Q => t σ H fun x H' => ∃ k, x = .bl k /\ Q k H'
theorem ZAU {op : CmpOp} {r : R2} (ho : OpR X (compareOp op) r) (ha : PE X a ta) (hb : PE X b tb) (hm : behindInMarks op b = false) : PT X (.Compare a [op] [b] pos) (ZEF (tOp r ta tb)) := by
  intro pins s σ H Q I h
  refine wpAny_isTrue_Compare1 (thn (ha pins s σ H _ I h) fun v s1 ⟨x, H1, I1, r1, q1⟩ => thn (hb pins s1 σ H1 _ I1 q1) fun u s2 ⟨y, H2, I2, r2, q2⟩ =>
    thn (ho pins s2 σ H2 x y v u _ I2 r1 r2 q2) fun c s3 ⟨z, H3, I3, r3, k, e, q3⟩ => ?_) hm
  subst e
  cases r3
  exact wpAny_truthy_bool ⟨H3, I3, q3⟩
def tChain (r r' : R2) (ta tb tc : TE) : TE := fun σ H Q => ta σ H fun x H1 => tb σ H1 fun y H2 => r x y H2 fun z H3 => ∃ k, z = .bl k /\
  (if k = true then tc σ H3 fun w' H4 => r' y w' H4 Q else Q (.bl false) H3)
theorem ZDa : (sizeLine : Nat) < 2 ^ 63 := by rw [sizeLine_eq]; decide
theorem ZDH {x : V} {us : List Value} (r : Vals [x] us) : ∃ u, us = [u] /\ RelV x u := by
  cases r with
  | cons r1 r2 => cases r2; exact ⟨_, rfl, r1⟩
theorem ZEA {x y : V} {us : List Value} (r : Vals [x, y] us) : ∃ u w', us = [u, w'] /\ RelV x u /\ RelV y w' := by
  cases r with
  | cons r1 r2 =>
    cases r2 with
    | cons r3 r4 => cases r4; exact ⟨_, _, rfl, r1, r3⟩
theorem call_max2 (hc : X.calm = true) : ZCg X (.builtin "max") (fun xs H Q => ∃ i j, xs = [.int i, .int j] /\ Q (.int (if j > i then j else i)) H) := by
  intro pins s σ H xs us Q I r h
  obtain ⟨i, j, rfl, q⟩ := h
  obtain ⟨u, w', rfl, ⟨t, rfl⟩, ⟨t', rfl⟩⟩ := ZEA r
  refine max_two_ints (I.ok.hd hc) fun h' tk k => ⟨_, H, I.kept k, ?_, q⟩
  by_cases hj : j > i
  . rw [if_pos hj, if_pos hj]; exact ⟨_, rfl⟩
  . rw [if_neg hj, if_neg hj]; exact ⟨_, rfl⟩
theorem call_min2 (hc : X.calm = true) : ZCg X (.builtin "min") (fun xs H Q => ∃ i j, xs = [.int i, .int j] /\ Q (.int (if j < i then j else i)) H) := by
  intro pins s σ H xs us Q I r h
  obtain ⟨i, j, rfl, q⟩ := h
  obtain ⟨u, w', rfl, ⟨t, rfl⟩, ⟨t', rfl⟩⟩ := ZEA r
  refine min_two_ints (I.ok.hd hc) fun h' tk k => ⟨_, H, I.kept k, ?_, q⟩
  by_cases hj : j < i
  . rw [if_pos hj, if_pos hj]; exact ⟨_, rfl⟩
  . rw [if_neg hj, if_neg hj]; exact ⟨_, rfl⟩
end
structure ObjM (h : Heap) (x dx C : Addr) (mA : Str -> Option Value) : Prop where
  obj : h.get? x = some (PySem.W.instObj C dx)
  ns : h.Ns1 dx mA
  ne : dx ≠ x
theorem lookIn_ns {h : Heap} {dx : Addr} {mA : Str -> Option Value} (n : h.Ns1 dx mA) : ∃ od, h.get? dx = some od /\ ∀ name, PySem.W.lookIn name od = some (mA name) := by
  obtain ⟨o, es, ep, ho, hd, hk, _, hm⟩ := n
  refine ⟨o, ho, fun name => ?_⟩
  have e := hm name
  unfold nsFind findBy at e
  rw [<- Array.find?_toList] at e
  unfold PySem.W.lookIn
  rw [hd]
  dsimp only
  split
  . rename_i y q
    rw [q] at e
    exact congrArg some e
  . rename_i q
    rw [q] at e
    have a : es.toList.any (·.refKey) = false := by
      rw [List.any_eq_false]
      intro y hy
      obtain ⟨z, t, hkey⟩ := hk y (Array.mem_toList_iff.mp hy)
      simp [DictEntry.refKey, hkey]
    have a' : ¬ es.toList.any (·.refKey) = true := by rw [a]; exact yAX
    rw [if_neg a']
    exact congrArg some e
theorem ObjM.look {h : Heap} {x dx C : Addr} {mA : Str -> Option Value} (I : ObjM h x dx C mA) : ∃ od, PySem.W.InstAt h x (PySem.W.instObj C dx) C (some od) /\ ∀ name, PySem.W.lookIn name od = some (mA name) :=
  let ⟨od, ho, hl⟩ := lookIn_ns I.ns
  ⟨od, ⟨I.obj, rfl, rfl, ho⟩, hl⟩
section
variable {prog : Program} {w : World} {A : Around} {E : Value -> Shared -> Prop} {s : Shared} {K : W.Frag} {x dx C f : Addr} {mA : Str -> Option Value} {name : Str} {v : Value}
theorem get_map {expr : Bool} {Q : Value -> Shared -> Prop} (X : K.In s.heap) (I : ObjM s.heap x dx C mA) (hg : PySem.W.plainGet K C name = true) (hh : PySem.W.hasDictIn K C = true)
    (ha : W.findIn K (.ref C) name = some none) (hv : mA name = some v) (hv' : PySem.W.handedIn v = true) (h : Q v { s with toks := s.toks + 1 }) :
    wpAny (model prog w) A (getAttr (.ref x) name expr) Q E s := by
  obtain ⟨od, J, hl⟩ := I.look
  exact PySem.W.get_value X J (PySem.W.plainGet_of hg).1 (PySem.W.findObj_own hh ha rfl (by rw [hl, hv])) hv' h
theorem get_meth {pl : Sem Bool} {Q : Value × List Value -> Shared -> Prop} (X : K.In s.heap) (I : ObjM s.heap x dx C mA) (hg : PySem.W.plainGet K C name = true)
    (hf : W.findIn K (.ref C) name = some (some (.ref f))) (ht : PySem.W.isFn K (.ref f) = true) (hv : mA name = none) (h : Q (.ref f, [.ref x]) s) :
    wpAny (model prog w) A (getMethod (.ref x) name pl) Q E s := by
  obtain ⟨od, J, hl⟩ := I.look
  exact PySem.W.method_fn X J (PySem.W.plainGet_of hg).1 (PySem.W.plainGet_of hg).2 hf (beq_iff_eq.mp ht) (by show (PySem.W.lookIn name od).map (·.isSome) = some false; rw [hl, hv]; rfl) h
theorem set_map {ns : List Str} {Q : Unit -> Shared -> Prop} (X : K.In s.heap) (I : ObjM s.heap x dx C mA)
    (hs : W.findIn K (.ref C) "__setattr__" = some (some (.builtin "object.__setattr__"))) (hp : PySem.W.plainOver K C = true) (ht : PySem.W.takerIn K C name = some none) (hh : PySem.W.hasDictIn K C = true)
    (hw : PySem.Within mA ns) (hsz : ns.length <= sizeLine)
    (h : ∀ h', ObjM h' x dx C (fun y => if y = name then some v else mA y) -> Heap.SameBut dx s.heap h' -> Q () { s with heap := h', toks := s.toks + 2 }) :
    wpAny (model prog w) A (setAttr (.ref x) name v) Q E s := by
  obtain ⟨od, J, hl⟩ := I.look
  refine PySem.W.set_plain X J hs (PySem.W.osa_open (s := { s with toks := s.toks + 1 }) (r := none) X J hp ht fun b => ?_)
  obtain ⟨cd, hc, hd'⟩ := PySem.W.any_some hh
  have hx : s.heap.get? x = some ⟨.ref C, some dx, .plain, #[]⟩ := I.obj
  refine wpAny_bind (wpAny_pure (wpAny_bind (wpAny_bind (wpAny_loadPart hx (wpAny_bind (PySem.W.Looks.here (s := { s with toks := s.toks + 1 }) (PySem.W.looks_clsIn X hc) ?_))))))
  rw [hd']
  refine wpAny_pure (a := some dx) (wpAny_bind (wpAny_pure (wpAny_bind ?_)))
  refine wpAny_nsSet1 (s := { s with toks := s.toks + 1 }) I.ns fun h' hn2 hs2 => ?_
  obtain ⟨oD, esD, epD, hoD, hdD, hcD⟩ := hn2.count (PySem.Within.cons name v hw)
  refine wpAny_bind (wpAny_lookBehind hoD (by rw [hdD]; exact pastItsLine_dict (yAK hcD (by rw [yAF]; omega))) ?_)
  exact wpAny_pure (h _ ⟨(hs2.2 _ (Ne.symm I.ne)).trans I.obj, hn2, I.ne⟩ hs2)
theorem make_map {R : Result -> Shared -> Prop} {vs : List Value} {kw : List (Str × Value)} (X : K.In s.heap) (hm : PySem.W.makesIn K C = true)
    (hi : W.findIn K (.ref C) "__init__" = some (some (.ref f))) (hf : PySem.W.typeIn K (.ref f) = some (.type "function"))
    (h : codeAny (model prog w) (A.under (.builtin "type.__call__" ⟨.ref C :: vs, kw⟩)) (.call (.ref f) ⟨.ref (s.heap.objs.size + 1) :: vs, kw⟩) (PySem.W.InitBack (s.heap.objs.size + 1) R)
      { s with heap := (s.heap.push PySem.W.emptyDict).push (PySem.W.instObj C s.heap.objs.size) }) :
    codeAny (model prog w) A (.call (.ref C) ⟨vs, kw⟩) R s := by
  obtain ⟨hh, g, d, t, os⟩ := s
  exact PySem.W.make_core (PySem.W.makes_of X hm) (PySem.W.looks_findIn X hi) (fun self => PySem.W.bind_fn X self hf) (.inl rfl) h
end
def putF (f : Str) (v : V) : List (Str × V) -> List (Str × V)
  | [] => [(f, v)]
  | (g, x) :: r => if g = f then (g, v) :: r else (g, x) :: putF f v r
theorem ZAv (f g : Str) (v : V) : ∀ fs : List (Str × V), (putF f v fs).lookup g = if g = f then some v else fs.lookup g
  | [] => by
    show List.lookup g [(f, v)] = _
    by_cases h : g = f
    . have hb : (g == f) = true := beq_iff_eq.mpr h
      simp only [List.lookup, hb, if_pos h]
    . have hb : (g == f) = false := beq_eq_false_iff_ne.mpr h
      simp only [List.lookup, hb, if_neg h]
  | (k, x) :: r => by
    have ih := ZAv f g v r
    rw [show putF f v ((k, x) :: r) = (if k = f then (k, v) :: r else (k, x) :: putF f v r) from rfl]
    by_cases hk : k = f
    . rw [if_pos hk]
      by_cases h : g = k
      . have hb : (g == k) = true := beq_iff_eq.mpr h
        simp only [List.lookup, hb, if_pos (h.trans hk)]
      . have hb : (g == k) = false := beq_eq_false_iff_ne.mpr h
        simp only [List.lookup, hb, if_neg (fun e : g = f => h (e.trans hk.symm))]
    . rw [if_neg hk]
      by_cases h : g = k
      . have hb : (g == k) = true := beq_iff_eq.mpr h
        simp only [List.lookup, hb, if_neg (fun e : g = f => hk (h.symm.trans e))]
      . have hb : (g == k) = false := beq_eq_false_iff_ne.mpr h
        simp only [List.lookup, hb]
        exact ih
theorem ZCc (f : Str) (v : V) : ∀ fs : List (Str × V), f ∈ (putF f v fs).map (·.1) /\ ∀ g, g ∈ fs.map (·.1) -> g ∈ (putF f v fs).map (·.1)
  | [] => ⟨by simp [putF], fun g h => by simp at h⟩
  | (k, x) :: r => by
    obtain ⟨i1, i2⟩ := ZCc f v r
    rw [show putF f v ((k, x) :: r) = (if k = f then (k, v) :: r else (k, x) :: putF f v r) from rfl]
    by_cases hk : k = f
    . rw [if_pos hk]
      subst hk
      exact ⟨by simp, fun g h => by simpa using h⟩
    . rw [if_neg hk]
      refine ⟨?_, fun g h => ?_⟩
      . rw [yAT]
        exact yAJ _ i1
      . rw [yAT] at h ⊢
        rcases yAD.mp h with e | e
        . exact yAD.mpr (.inl e)
        . exact yAJ _ (i2 g e)
theorem ZB0 (f : Str) (v : V) : ∀ fs : List (Str × V), (putF f v fs).length <= fs.length + 1
  | [] => by simp [putF]
  | (k, x) :: r => by
    have ih := ZB0 f v r
    rw [show putF f v ((k, x) :: r) = (if k = f then (k, v) :: r else (k, x) :: putF f v r) from rfl]
    by_cases hk : k = f
    . rw [if_pos hk, yAF, yAF]; omega
    . rw [if_neg hk, yAF, yAF]; omega
theorem RelO.some_of {v : V} {o : Option Value} (r : RelO (some v) o) : ∃ u, o = some u /\ RelV v u := by
  cases o with
  | none => exact (show False from r).elim
  | some u => exact ⟨u, rfl, r⟩
theorem RelO.none_of {o : Option Value} (r : RelO none o) : o = none := by
  cases o with
  | none => rfl
  | some u => exact (show False from r).elim
theorem handed_of {v : V} {u : Value} (r : RelV v u) : PySem.W.handedIn u = true := by
  cases v with
  | non => cases (show u = Value.none from r); rfl
  | bl b => cases (show u = Value.bool b from r); rfl
  | int i => obtain ⟨t, e⟩ := (show ∃ t, u = Value.int i t from r); cases e; rfl
  | str x => obtain ⟨t, e⟩ := (show ∃ t, u = Value.str x t from r); cases e; rfl
  | byt b => obtain ⟨t, e⟩ := (show ∃ t, u = Value.bytes b t from r); cases e; rfl
  | flt b => obtain ⟨t, e⟩ := (show ∃ t, u = Value.float b t from r); cases e; rfl
  | ref a => cases (show u = Value.ref a from r); rfl
  | ty n => cases (show u = Value.type n from r); rfl
section
variable {P : Program} {w : World} {H H' : Hp} {h h' : Heap} {a C dx : Addr} {fs fs' : List (Str × V)}
theorem ZC5 (hok : HOk P w H h) (e : H a = some (.ins C dx fs)) : ∃ mA, ObjM h a dx C mA /\ (∀ f, RelO (fs.lookup f) (mA f)) /\ PySem.Within mA (fs.map (·.1)) /\ fs.length <= 1000 /\ H dx = some (.own a) := by
  obtain ⟨d, z, ne, ob, mA, n, r, q⟩ := (show ObjOk P w H h a (.ins C dx fs) from hok a _ e)
  exact ⟨mA, ⟨ob, n, ne⟩, r, q, z, d⟩
end
structure Cls (K : W.Frag) (C : Addr) : Prop where
  pg : PySem.W.plainGet K C Str.empty = true
  hd : PySem.W.hasDictIn K C = true
  po : PySem.W.plainOver K C = true
  sa : W.findIn K (.ref C) "__setattr__" = some (some (.builtin "object.__setattr__"))
theorem Cls.get {K : W.Frag} {C : Addr} (c : Cls K C) (f : Str) : PySem.W.plainGet K C f = true := c.pg
def NoAttr (K : W.Frag) (C : Addr) (f : Str) : Prop := W.findIn K (.ref C) f = some none
theorem NoAttr.taker {K : W.Frag} {C : Addr} {f : Str} (n : NoAttr K C f) : PySem.W.takerIn K C f = some none := by
  unfold PySem.W.takerIn
  rw [show W.findIn K (.ref C) f = some none from n]
  rfl
structure Meth (K : W.Frag) (C : Addr) (m : Str) (f : Addr) : Prop where
  at_ : W.findIn K (.ref C) m = some (some (.ref f))
  fn : PySem.W.isFn K (.ref f) = true
  kp : W.keepIn K (.ref f) = true
section
variable {X : Cx} {pins : List (Addr × Obj)} {σ : St} {H : Hp} {s : Shared} {a C dx : Addr} {fs : List (Str × V)} {f : Str} {v : V} {A : Around} {E : Value -> Shared -> Prop}
theorem getattr_ok {b : Bool} {Q : Value -> Shared -> Prop} (I : Inv X pins σ H s) (e : H a = some (.ins C dx fs)) (c : Cls X.K C) (n : NoAttr X.K C f) (l : fs.lookup f = some v)
    (h : ∀ u s', Inv X pins σ H s' -> RelV v u -> Q u s') : wpAny (model X.prog X.w) A (getAttr (.ref a) f b) Q E s := by
  obtain ⟨mA, O, r, _, _, _⟩ := ZC5 I.hok e
  obtain ⟨u, hu, ru⟩ := RelO.some_of (v := v) (o := mA f) (by rw [<- l]; exact r f)
  exact get_map I.kIn O (c.get f) c.hd n hu (handed_of ru) (h u _ (I.tok _) ru)
theorem getmeth_ok {m : Str} {g : Addr} {pl : Sem Bool} {Q : Value × List Value -> Shared -> Prop} (I : Inv X pins σ H s) (e : H a = some (.ins C dx fs)) (c : Cls X.K C) (k : Meth X.K C m g) (l : fs.lookup m = none)
    (h : Q (.ref g, [.ref a]) s) : wpAny (model X.prog X.w) A (getMethod (.ref a) m pl) Q E s := by
  obtain ⟨mA, O, r, _, _, _⟩ := ZC5 I.hok e
  have hn : mA m = none := RelO.none_of (by rw [<- l]; exact r m)
  exact get_meth I.kIn O (c.get m) k.at_ k.fn hn h
theorem setattr_ok {y : V} {u : Value} {Q : Unit -> Shared -> Prop} (I : Inv X pins σ H s) (e : H a = some (.ins C dx fs)) (c : Cls X.K C) (n : NoAttr X.K C f) (hl : fs.length < 1000) (ry : RelV y u)
    (h : ∀ s', Inv X pins σ (upd H a (.ins C dx (putF f y fs))) s' -> Q () s') : wpAny (model X.prog X.w) A (setAttr (.ref a) f u) Q E s := by
  obtain ⟨mA, O, r, wi, _, ho⟩ := ZC5 I.hok e
  have hz : (fs.map (·.1)).length <= sizeLine := by rw [yAB, sizeLine_eq]; omega
  refine set_map I.kIn O c.sa c.po n.taker c.hd wi hz fun h' O' sb => h _ ?_
  have hd : ∃ o, h'.get? dx = some o := let ⟨o, _, _, e', _⟩ := O'.ns; ⟨o, e'⟩
  refine I.write (x := a) (e := dx) (by rw [e]; exact True.intro) (.inr ho) (fun b q hb z => (sb.2 b hb).trans z) hd ?_
  refine ⟨by rw [ZAI O.ne]; exact ho, ?_, O.ne, O'.obj, _, O'.ns, fun g => ?_, fun g hg => ?_⟩
  . have := ZB0 f y fs; omega
  . show RelO ((putF f y fs).lookup g) (if g = f then some u else mA g)
    rw [ZAv]
    by_cases q : g = f
    . rw [if_pos q, if_pos q]; exact ry
    . rw [if_neg q, if_neg q]; exact r g
  . by_cases q : g = f
    . rw [q]; exact (ZCc f y fs).1
    . refine (ZCc f y fs).2 g (wi g fun z => hg ?_)
      show (if g = f then some u else mA g) = none
      rw [if_neg q]; exact z
theorem Inv.made (I : Inv X pins σ H s) : Inv X pins σ (upd (upd H s.heap.objs.size (.own (s.heap.objs.size + 1))) (s.heap.objs.size + 1) (.ins C s.heap.objs.size []))
    { s with heap := (s.heap.push PySem.W.emptyDict).push (PySem.W.instObj C s.heap.objs.size) } := by
  have e1 : (s.heap.push PySem.W.emptyDict).get? s.heap.objs.size = some PySem.W.emptyDict := Heap.get?_push_size s.heap rfl
  have e2 : ((s.heap.push PySem.W.emptyDict).push (PySem.W.instObj C s.heap.objs.size)).get? (s.heap.objs.size + 1) = some (PySem.W.instObj C s.heap.objs.size) := by
    have := Heap.get?_push_size (s.heap.push PySem.W.emptyDict) (o := PySem.W.instObj C s.heap.objs.size) rfl
    rwa [Heap.size_push] at this
  have e3 : (s.heap.push PySem.W.emptyDict).Ns s.heap.objs.size (fun _ => none) := ⟨PySem.W.emptyDict, #[], _, e1, rfl, (fun e he => absurd he (by simp)), fun _ => rfl⟩
  have I1 := I.laid (a := s.heap.objs.size) (o := .own (s.heap.objs.size + 1)) (h' := s.heap.push PySem.W.emptyDict) (t' := s.toks) (fun b u q => Heap.get?_push_of_some _ q) (yAA _) ⟨_, e1⟩
  refine I1.laid (a := s.heap.objs.size + 1) (o := .ins C s.heap.objs.size []) (t' := s.toks) (fun b u q => Heap.get?_push_of_some _ q) (Nat.le_of_eq (Heap.size_push _ _)) ?_
  have ne : s.heap.objs.size ≠ s.heap.objs.size + 1 := yAN (yBS _)
  refine ⟨by rw [ZAI ne, ZAF], yAH _, ne, e2, fun _ => none, (Heap.Ns1.of_empty e3).at fun o q => Heap.get?_push_of_some _ q, fun _ => True.intro, fun y hy => absurd rfl hy⟩
theorem attr_of {prog : Program} {w : World} {env : Env} {e : Expr} {f : Str} {pos : Pos} {s : Shared} {Q : Value -> Shared -> Prop} (hb : attributeBase e f env (eval e env) = eval e env)
    (h : wpAny (model prog w) A (eval e env) (fun o s₁ => wpAny (model prog w) A (getAttr o f true) Q E s₁) E s) : wpAny (model prog w) A (eval (.Attribute e f pos) env) Q E s :=
  Attribute_any_ h (by rw [arm_eval_Attribute, hb])
end
def tFld (K : W.Frag) (ta : TE) (f : Str) : TE := fun σ H Q => ta σ H fun x H1 => ∃ a C dx fs v, x = .ref a /\ H1 a = some (.ins C dx fs) /\ Cls K C /\ NoAttr K C f /\ fs.lookup f = some v /\ Q v H1
def sFld (K : W.Frag) (ta tv : TE) (f : Str) : TS := fun D σ H => tv σ H fun y H1 => ta σ H1 fun x H2 => ∃ a C dx fs, x = .ref a /\ H2 a = some (.ins C dx fs) /\ Cls K C /\ NoAttr K C f /\ fs.length < 1000 /\
  D.nx σ (upd H2 a (.ins C dx (putF f y fs)))
def InOp (X : Cx) (op : Operator) (rd : V -> V -> Hp -> VK -> Prop) : Prop :=
  ∀ (pins : List (Addr × Obj)) (s : Shared) (σ : St) (H : Hp) (x y : V) (u v : Value) (Q : VK), Inv X pins σ H s -> RelV x u -> RelV y v -> rd x y H Q -> wpAny (model X.prog X.w) X.A (inplaceOp op u v) (EP X pins σ Q) X.xe s
def sFldAug (K : W.Frag) (ta tv : TE) (rd : V -> V -> Hp -> VK -> Prop) (f : Str) : TS := fun D σ H => ta σ H fun x H1 => ∃ a C dx fs v, x = .ref a /\ H1 a = some (.ins C dx fs) /\ Cls K C /\ NoAttr K C f /\ fs.lookup f = some v /\
  tv σ H1 fun y H2 => rd v y H2 fun z H3 => ∃ dx' fs', H3 a = some (.ins C dx' fs') /\ fs'.length < 1000 /\ D.nx σ (upd H3 a (.ins C dx' (putF f z fs')))
section
variable {X : Cx} {o e value : Expr} {f : Str} {pos pos' tpos : Pos} {ta tv : TE}
theorem ZAr (he : PE X e ta) (hb : attributeBase e f X.env (eval e X.env) = eval e X.env) : PE X (.Attribute e f pos) (tFld X.K ta f) := by
  intro pins s σ H Q I h
  refine attr_of hb (thn (he pins s σ H _ I h) fun u s1 ⟨x, H1, I1, rx, a, C, dx, fs, v, ex, ea, c, n, l, q⟩ => ?_)
  subst ex
  obtain rfl : u = Value.ref a := rx
  exact getattr_ok I1 ea c n l fun u' s2 I2 ru => ⟨v, H1, I2, ru, q⟩
theorem ZBq (ha : PE X o ta) (hv : PE X value tv) (hs : swapsWith value (some (.Attribute o f pos')) pos.line X.env = pure false) : PS X (.Assign [.Attribute o f pos'] value pos) (sFld X.K ta tv f) := by
  intro pins s σ H D I h
  refine plainObj_wpAny_Assign_Attribute (thn (hv pins s σ H _ I h) fun u s1 ⟨y, H1, I1, ry, q⟩ => thn (ha pins s1 σ H1 _ I1 q) fun ov s2 ⟨x, H2, I2, rx, a, C, dx, fs, ex, ea, c, n, l, q2⟩ => ?_) hs
  subst ex
  obtain rfl : ov = Value.ref a := rx
  exact setattr_ok I2 ea c n l ry fun s3 I3 => ⟨σ, _, I3, q2⟩
theorem ps_fldaug {op : Operator} {rd : V -> V -> Hp -> VK -> Prop} (ha : PE X o ta) (hv : PE X value tv) (hop : InOp X op rd) : PS X (.AugAssign (.Attribute o f tpos) op value pos) (sFldAug X.K ta tv rd f) := by
  intro pins s σ H D I h
  refine wpAny_AugAssign_AttributeAny (thn (ha pins s σ H _ I h) fun ov s1 ⟨x, H1, I1, rx, a, C, dx, fs, v, ex, ea, c, n, l, q⟩ => ?_)
  subst ex
  obtain rfl : ov = Value.ref a := rx
  refine getattr_ok I1 ea c n l fun u s2 I2 ru => thn (hv pins s2 σ H1 _ I2 q) fun w3 s3 ⟨y, H2, I3, ry, q3⟩ => thn (hop pins s3 σ H2 v y u w3 _ I3 ru ry q3) fun w4 s4 ⟨z, H3, I4, rz, dx', fs', ea', l', q4⟩ => ?_
  exact setattr_ok I4 ea' c n l' rz fun s5 I5 => ⟨σ, _, I5, q4⟩
def rAdd : V -> V -> Hp -> VK -> Prop := fun x y H Q => ∃ i j, x = .int i /\ y = .int j /\ Q (.int (i + j)) H
theorem in_add : InOp X .Add rAdd := by
  rintro pins s σ H x y u v Q I rx ry ⟨i, j, rfl, rfl, q⟩
  obtain ⟨t, rfl⟩ := (show ∃ t, u = Value.int i t from rx)
  obtain ⟨t', rfl⟩ := (show ∃ t', v = Value.int j t' from ry)
  exact PyProof.Rows.iadd_int ⟨.int (i + j), H, I.tok _, ⟨_, rfl⟩, q⟩
end
section
variable {X : Cx} {pins : List (Addr × Obj)} {σ : St} {H : Hp} {s : Shared} {A : Around} {E : Value -> Shared -> Prop} {Q : Value -> Shared -> Prop} {c : Value} {b : Bool}
inductive TyOf (K : W.Frag) (H : Hp) : V -> Value -> Prop where
  | non : TyOf K H .non (.type "NoneType")
  | bl (x : Bool) : TyOf K H (.bl x) (.type "bool")
  | int (i : Int) : TyOf K H (.int i) (.type "int")
  | str (x : Str) : TyOf K H (.str x) (.type "str")
  | flt (x : UInt64) : TyOf K H (.flt x) (.type "float")
  | lst {a : Addr} {xs : List V} (e : H a = some (.lst xs)) : TyOf K H (.ref a) (.type "list")
  | frz {a : Addr} {o : Obj} {xs : List V} (e : H a = some (.frz o (.lst xs))) : TyOf K H (.ref a) (.type "list")
  | tup {a : Addr} {xs : List V} (e : H a = some (.tup xs)) : TyOf K H (.ref a) (.type "tuple")
  | dK {a : Addr} {kvs : List (Key × V)} (e : H a = some (.dK kvs)) : TyOf K H (.ref a) (.type "dict")
  | dT {a : Addr} {kvs : List (List Key × V)} (e : H a = some (.dT kvs)) : TyOf K H (.ref a) (.type "dict")
  | ins {a C dx : Addr} {fs : List (Str × V)} (e : H a = some (.ins C dx fs)) (cl : Cls K C) (ha : W.findIn K (.ref C) "__class__" = some (some (.builtin "object.__class__")))
      (hn : PySem.W.specialIn K (.builtin "object.__class__") "__get__" = some (some (.builtin "getset_descriptor.__get__"))) (htk : PySem.W.takesIn K (.builtin "object.__class__") = some true)
      (hm : PySem.W.mroIn K C (.type "object") = some true) : TyOf K H (.ref a) (.ref C)
theorem isinst_ok {x : V} {u t : Value} (I : Inv X pins σ H s) (rx : RelV x u) (ty : TyOf X.K H x t) (e : PySem.W.kitOne X.K t c = some b) (h : ∀ tk, Q (.bool b) { s with toks := tk }) :
    wpAny (model X.prog X.w) A (call (.builtin "isinstance") [u, c]) Q E s := by
  cases ty with
  | non => cases (show u = Value.none from rx); exact PySem.W.kia_one PySem.W.kitx_none I.kIn True.intro e (fun z => nomatch z) h
  | bl y => cases (show u = Value.bool y from rx); exact PySem.W.kia_one PySem.W.kitx_bool I.kIn True.intro e (fun z => nomatch z) h
  | int i => obtain ⟨t, q⟩ := (show ∃ t, u = Value.int i t from rx); cases q; exact PySem.W.kia_one PySem.W.kitx_int I.kIn True.intro e (fun z => nomatch z) h
  | str y => obtain ⟨t, q⟩ := (show ∃ t, u = Value.str y t from rx); cases q; exact PySem.W.kia_one PySem.W.kitx_str I.kIn True.intro e (fun z => nomatch z) h
  | flt y => obtain ⟨t, q⟩ := (show ∃ t, u = Value.float y t from rx); cases q; exact PySem.W.kia_one PySem.W.kitx_float I.kIn True.intro e (fun z => nomatch z) h
  | @lst a xs ea =>
    cases (show u = Value.ref a from rx)
    obtain ⟨_, _, n, _, h1⟩ := (show ObjOk X.prog X.w H s.heap a (.lst xs) from I.hok a _ ea)
    exact PySem.W.kia_one PySem.W.kitx_list I.kIn ⟨_, h1, rfl⟩ e (fun z => nomatch z) h
  | @frz a ob xs ea =>
    cases (show u = Value.ref a from rx)
    obtain ⟨_, _, _, n, _, h1⟩ := (show ObjOk X.prog X.w H s.heap a (.frz ob (.lst xs)) from I.hok a _ ea)
    exact PySem.W.kia_one PySem.W.kitx_list I.kIn ⟨_, h1, rfl⟩ e (fun z => nomatch z) h
  | @tup a xs ea =>
    cases (show u = Value.ref a from rx)
    obtain ⟨_, _, _, p⟩ := (show ObjOk X.prog X.w H s.heap a (.tup xs) from I.hok a _ ea)
    obtain ⟨o, h1, h2, _⟩ := p
    exact PySem.W.kia_one PySem.W.kitx_tuple I.kIn ⟨o, h1, h2⟩ e (fun z => nomatch z) h
  | @dK a kvs ea =>
    cases (show u = Value.ref a from rx)
    obtain ⟨_, _, vs, _, p⟩ := (show ObjOk X.prog X.w H s.heap a (.dK kvs) from I.hok a _ ea)
    obtain ⟨o, es, ep, h1, h2, _⟩ := p
    exact PySem.W.kia_one PySem.W.kitx_dict I.kIn ⟨o, h1, h2.1⟩ e (fun z => nomatch z) h
  | @dT a kvs ea =>
    cases (show u = Value.ref a from rx)
    obtain ⟨_, _, xs, _, o, es, ep, h1, h2, _⟩ := (show ObjOk X.prog X.w H s.heap a (.dT kvs) from I.hok a _ ea)
    exact PySem.W.kia_one PySem.W.kitx_dict I.kIn ⟨o, h1, h2.1⟩ e (fun z => nomatch z) h
  | @ins a C dx fs ea cl ha hn htk hm =>
    cases (show u = Value.ref a from rx)
    obtain ⟨mA, O, _⟩ := ZC5 I.hok ea
    obtain ⟨od, J, _⟩ := O.look
    exact PySem.W.kia_one (PySem.W.kitx_own (cl.get _) cl.hd ha hn htk hm) I.kIn J e (fun z => nomatch z) h
end
structure Room (k : Nat) (A : Around) : Prop where
  hd : A.handled = none
  dp : A.depth + 3 * k + 5 < recursionLimit
  un : A.units + 16 * k + 200 < cLine
theorem Room.mono {j k : Nat} {A : Around} (r : Room k A) (h : j <= k) : Room j A := ⟨r.hd, by have := r.dp; omega, by have := r.un; omega⟩
theorem Room.deeper {k : Nat} {A : Around} (r : Room (k + 1) A) (env : Env) : Room k (A.deeper env) :=
  ⟨r.hd, by have := r.dp; show A.depth + 1 + 3 * k + 5 < _; omega, by have := r.un; show A.units + 3 + 16 * k + 200 < _; omega⟩
theorem make_depth {A : Around} {C : Addr} {us : List Value} {kw : List (Str × Value)} : (A.under (.builtin "type.__call__" ⟨.ref C :: us, kw⟩)).depth = A.depth + 1 := by
  first | rfl | simp [Around.under, Code.weight, Code.isCreation, Code.isGuard, Code.isCaller, Code.frames, Code.isFrame, guardIds]
theorem make_units {A : Around} {C : Addr} {us : List Value} {kw : List (Str × Value)} : (A.under (.builtin "type.__call__" ⟨.ref C :: us, kw⟩)).units = A.units + 1 := by
  first | rfl | simp [Around.under, Code.cUnits, Code.frames, Code.isFrame]
theorem Room.make {k : Nat} {A : Around} (r : Room (k + 1) A) (C : Addr) (us : List Value) (kw : List (Str × Value)) : Room k (A.under (.builtin "type.__call__" ⟨.ref C :: us, kw⟩)) :=
  ⟨r.hd, by have := r.dp; rw [make_depth]; omega, by have := r.un; rw [make_units]; omega⟩
theorem Room.depth {k : Nat} {A : Around} (r : Room k A) : A.depth < recursionLimit := by have := r.dp; omega
theorem Room.units {k : Nat} {A : Around} (r : Room k A) : A.units + 64 < cLine := by have := r.un; omega
def tNil : TA := fun _ H Q => Q [] H
def ZBu (ta : TE) (tr : TA) : TA := fun σ H Q => ta σ H fun x H1 => tr σ H1 fun xs H2 => Q (x :: xs) H2
section
variable {X : Cx} {e : Expr} {es : List Expr} {te : TE} {t : TA} {pos : Pos}
theorem ZAG : PA X [] tNil := fun _ _ _ _ H Q I h => Calls.spliced_nil ⟨[], H, I, .nil, h⟩
theorem ZAA (ha : PE X e te) (hr : PA X es t) (hs : starEach (e :: es) X.env = (false, eval e X.env) :: starEach es X.env := by rfl) : PA X (e :: es) (ZBu te t) := by
  intro pos pins s σ H Q I h
  rw [hs]
  show wpAny _ _ (spliced ((false, eval e X.env) :: backTo pos (starEach es X.env))) _ _ s
  refine Calls.spliced_cons (thn (ha pins s σ H _ I h) fun u s1 ⟨x, H1, I1, r1, q1⟩ => ?_)
  exact thn (hr pos pins s1 σ H1 _ I1 q1) fun us s2 ⟨xs, H2, I2, r2, q2⟩ => ⟨x :: xs, H2, I2, .cons r1 r2, q2⟩
def tTup (t : TA) : TE := fun σ H Q => t σ H fun xs H1 => xs.length <= sizeLine /\ ∀ p, H1 p = none -> Q (.ref p) (upd H1 p (.tup xs))
def tLst (t : TA) : TE := fun σ H Q => t σ H fun xs H1 => xs.length <= sizeLine /\ ∀ p, H1 p = none -> Q (.ref p) (upd H1 p (.lst xs))
theorem ZDD {x1} (h : PA X es t) : PE X (.Tuple es x1 pos) (tTup t) := by
  intro pins s σ H Q I hq
  refine wpAny_Tuple_spliced (thn (h pos pins s σ H _ I hq) fun us s1 ⟨xs, H1, I1, r, z, q⟩ => ⟨by rw [<- r.length]; exact z, ?_⟩)
  have hf : H1 s1.heap.objs.size = none := I1.hok.fresh (yAA _)
  refine ⟨.ref s1.heap.objs.size, upd H1 s1.heap.objs.size (.tup xs), I1.laid (t' := s1.toks) (fun b u e => Heap.get?_push_of_some _ e) (yAA _) ?_, rfl, q _ hf⟩
  exact ⟨z, us, r, ⟨_, Heap.get?_push_size _ rfl, rfl, _, rfl⟩⟩
theorem ZBB (h : PA X es t) : PE X (.List es pos) (tLst t) := by
  intro pins s σ H Q I hq
  refine wpAny_List_spliced (thn (h pos pins s σ H _ I hq) fun us s1 ⟨xs, H1, I1, r, z, q⟩ => ⟨by rw [<- r.length]; exact z, ?_⟩)
  have hf : H1 s1.heap.objs.size = none := I1.hok.fresh (yAA _)
  refine ⟨.ref s1.heap.objs.size, upd H1 s1.heap.objs.size (.lst xs), I1.laid (t' := s1.toks) (fun b u e => Heap.get?_push_of_some _ e) (yAA _) ?_, rfl, q _ hf⟩
  exact ⟨z, us, 0, r, Heap.get?_push_size _ rfl⟩
end
abbrev Sp := List V -> Hp -> VK -> XK -> Prop
abbrev CXT := List Env -> Hp -> Shared -> XK -> Value -> Shared -> Prop
structure Env0 (P : Program) (w : World) (K : W.Frag) (mg : Str -> Option Value) (base : Heap) (A : Around) (outer : List Env) (s : Shared) (H : Hp) : Prop where
  frames : A.frames = some outer
  mod : Mod K mg base
  bs : ∀ b o, base.get? b = some o -> s.heap.get? b = some o /\ H b = none
  bsz : base.objs.size <= s.heap.objs.size
  funs : s.heap.FunFrames base outer
  frf : ∀ b ∈ frs outer, H b = none
  hok : HOk P w H s.heap
  bare : AllBare s.gens
def CE (outer : List Env) (P : Program) (w : World) (H : Hp) (s : Shared) (Q : VK) (u : Value) (s' : Shared) : Prop :=
  ∃ v H', s'.os = s.os /\ AllBare s'.gens /\ Un (frs outer) [] H H' s.heap s'.heap /\ HOk P w H' s'.heap /\ RelV v u /\ Q v H'
def CR (CX : CXT) (outer : List Env) (P : Program) (w : World) (H : Hp) (s : Shared) (Q : VK) (E : XK) (r : Result) (s' : Shared) : Prop :=
  match r with
  | .ok (.ret u) => CE outer P w H s Q u s'
  | .ok _ => False
  | .error e => CX outer H s E e s'
structure FnOk (P : Program) (w : World) (K : W.Frag) (mg : Str -> Option Value) (base : Heap) (CX : CXT) (k : Nat) (f : Addr) (fd : FuncData) (ps : List Str) (sp : Sp) : Prop where
  len : ∀ vs H Q E, sp vs H Q E -> vs.length = ps.length
  run : ∀ (A : Around) (outer : List Env) (s : Shared) (H : Hp) (args : Args) (us : List Value) (vs : List V) (Q : VK) (E : XK), Room k A -> Env0 P w K mg base A outer s H -> BindsTo s fd args (ps.zip us) -> Vals vs us -> sp vs H Q E ->
    codeAny (model P w) A (.call (.ref f) args) (CR CX outer P w H s Q E) s
theorem Env0.make {P : Program} {w : World} {K : W.Frag} {mg : Str -> Option Value} {base : Heap} {A : Around} {outer : List Env} {s : Shared} {H : Hp} (e : Env0 P w K mg base A outer s H) (C : Addr) (us : List Value) (kw : List (Str × Value)) :
    Env0 P w K mg base (A.under (.builtin "type.__call__" ⟨.ref C :: us, kw⟩)) outer s H := ⟨by first | exact e.frames | (simpa [Around.under, Code.envs, Code.isFrame, pushEnvs] using e.frames), e.mod, e.bs, e.bsz, e.funs, e.frf, e.hok, e.bare⟩
section
variable {X : Cx} {pins : List (Addr × Obj)} {σ : St} {H : Hp} {s s' : Shared}
theorem Inv.env0 (I : Inv X pins σ H s) : Env0 X.prog X.w X.K X.mg X.base X.A X.stack s H :=
  ⟨I.ok.frames, I.ok.mod, I.bs, yAK I.ok.bsz I.sz, I.stack, I.stkFree, I.hok, I.bare⟩
theorem Inv.after {Q : VK} {u : Value} (I : Inv X pins σ H s) (h : CE X.stack X.prog X.w H s Q u s') : EP X pins σ Q u s' := by
  obtain ⟨v, H', os, bare, un, hok, r, q⟩ := h
  obtain ⟨hh, g, d, t, os'⟩ := s'
  obtain rfl : os' = s.os := os
  exact ⟨v, H', I.call (h' := hh) (g' := g) (d' := d) (t' := t) (ch := []) un hok bare (fun b z => absurd z (by simp)), r, q⟩
end
def ZED (sp : Sp) (dvs : List V) (E : XK) (t : TA) : TE := fun σ H Q => t σ H fun vs H1 => sp (vs ++ dvs) H1 Q E
def ZDf (C : Addr) (m : Str) (sp : Sp) (dvs : List V) (E : XK) (ta : TE) (t : TA) : TE := fun σ H Q => ta σ H fun x H1 => ∃ a dx fs, x = .ref a /\ H1 a = some (.ins C dx fs) /\ fs.lookup m = none /\
  t σ H1 fun vs H2 => sp (x :: (vs ++ dvs)) H2 Q E
def ZDq (C : Addr) (sp : Sp) (dvs : List V) (E : XK) (t : TA) : TE := fun σ H Q => t σ H fun vs H1 => ∀ x dx, H1 x = none -> H1 dx = none -> dx ≠ x ->
  sp (.ref x :: (vs ++ dvs)) (upd (upd H1 dx (.own x)) x (.ins C dx [])) (fun v H2 => v = .non /\ Q (.ref x) H2) E
def Binds (K : W.Frag) (fd : FuncData) (ps : List Str) (ds : List Value) : Prop :=
  ∀ (s : Shared) (us : List Value), K.In s.heap -> (us ++ ds).length = ps.length -> BindsTo s fd ⟨us, []⟩ (ps.zip (us ++ ds))
theorem Binds.all {K : W.Frag} {fd : FuncData} {ps : List Str} (h : ∀ us : List Value, us.length = ps.length -> bindArgs fd ⟨us, []⟩ = pure (ps.zip us)) : Binds K fd ps [] := fun s us _ hl => by
  rw [yBF] at hl ⊢
  exact .of_eq (h us hl)
def ZBb (CX : CXT) (X : Cx) (E : XK) : Prop := ∀ (pins : List (Addr × Obj)) (σ : St) (H : Hp) (s : Shared) (e : Value) (s' : Shared), Inv X pins σ H s -> CX X.stack H s E e s' -> X.xe e s'
section
variable {X : Cx} {CX : CXT} {k : Nat} {f C : Addr} {fd : FuncData} {ps : List Str} {sp : Sp} {dvs : List V} {ds : List Value} {E : XK} {x m : Str} {p pos apos : Pos} {e o : Expr} {es : List Expr} {ta : TE} {t : TA}
theorem ZDu {pins : List (Addr × Obj)} {σ : St} {H : Hp} {s : Shared} {Q : VK} {us : List Value} {vs : List V} (F : FnOk X.prog X.w X.K X.mg X.base CX k f fd ps sp) (hr : Room k X.A) (hb : Binds X.K fd ps ds) (hd : Vals dvs ds) (hx : ZBb CX X E)
    (I : Inv X pins σ H s) (r : Vals vs us) (h : sp (vs ++ dvs) H Q E) : wpAny (model X.prog X.w) X.A (call (.ref f) us) (EP X pins σ Q) X.xe s := by
  have r2 : Vals (vs ++ dvs) (us ++ ds) := r.append hd
  have hl : (us ++ ds).length = ps.length := by rw [<- r2.length]; exact F.len _ _ _ _ h
  refine wpAny_call (codeAny_mono (F.run X.A X.stack s H ⟨us, []⟩ (us ++ ds) (vs ++ dvs) Q E hr I.env0 (hb s us I.kIn hl) r2 h) fun r s' hq => ?_)
  cases r with
  | error e => exact hx pins σ H s e s' I hq
  | ok fl =>
    cases fl with
    | ret u => exact I.after hq
    | next => exact False.elim hq
    | brk => exact False.elim hq
    | cont => exact False.elim hq
theorem pe_call (F : FnOk X.prog X.w X.K X.mg X.base CX k f fd ps sp) (hr : Room k X.A) (hg : Gl X x) (hm : X.mg x = some (.ref f)) (hk : W.keepIn X.K (.ref f) = true) (hb : Binds X.K fd ps ds) (hd : Vals dvs ds) (hx : ZBb CX X E)
    (ha : PA X (e :: es) t) (hdb : (x == ("__debug__" : Str)) = false := by decide) (he : starEach (e :: es) X.env = (false, eval e X.env) :: starEach es X.env := by rfl) (hpl : (backTo pos (starEach es X.env)).any (·.1) = false := by rfl) :
    PE X (.Call (.Name x p) (e :: es) [] pos) (ZED sp dvs E t) := by
  intro pins s σ H Q I h
  refine wpAny_Call_Name_kw (ZDQ I hg hm ?_ hdb)
  refine PySem.W.callWith_K (h₀ := X.base) I.ok.mod.kin hk (thn (ha pos pins s σ H _ I h) fun us s1 ⟨vs, H1, I1, r, q⟩ => ⟨I1.kIn, ?_⟩) he hpl
  exact ZDu F hr hb hd hx I1 r q
theorem pe_meth {pl : Sem Bool} (he : PE X o ta) (c : Cls X.K C) (hm : Meth X.K C m f) (F : FnOk X.prog X.w X.K X.mg X.base CX k f fd ps sp) (hr : Room k X.A) (hb : Binds X.K fd ps ds) (hd : Vals dvs ds) (hx : ZBb CX X E) (ha : PA X (e :: es) t)
    (hst : starEach (e :: es) X.env = (false, eval e X.env) :: starEach es X.env := by rfl) (hpl : (backTo pos (starEach es X.env)).any (·.1) = false := by rfl)
    (ht : eval (.Call (.Attribute o m apos) (e :: es) [] pos) X.env = (do
      let ov <- eval o X.env
      standAt apos.atName
      let (f, first) <- holding [ov] (getMethod ov m pl)
      callWith pos f first (backTo pos (starEach (e :: es) X.env)) (backToKw pos (keywordEach [] X.env))) := by rfl) :
    PE X (.Call (.Attribute o m apos) (e :: es) [] pos) (ZDf C m sp dvs E ta t) := by
  intro pins s σ H Q I h
  refine PySem.W.methodCall_KW (pl := pl) (thn (he pins s σ H _ I h) fun u s1 ⟨x, H1, I1, rx, a, dx, fs, ex, ea, l, q⟩ => ?_) ht
  subst ex
  obtain rfl : u = Value.ref a := rx
  refine getmeth_ok I1 ea c hm l ?_
  refine PySem.W.callWith_K (first := [.ref a]) (h₀ := X.base) I.ok.mod.kin hm.kp (thn (ha pos pins s1 σ H1 _ I1 q) fun us s2 ⟨vs, H2, I2, r, q2⟩ => ⟨I2.kIn, ?_⟩) hst hpl
  exact ZDu (us := .ref a :: us) (vs := .ref a :: vs) F hr hb hd hx I2 (.cons rfl r) q2
theorem pe_meth0 {pl : Sem Bool} (he : PE X o ta) (c : Cls X.K C) (hm : Meth X.K C m f) (F : FnOk X.prog X.w X.K X.mg X.base CX k f fd ps sp) (hr : Room k X.A) (hb : Binds X.K fd ps ds) (hd : Vals dvs ds) (hx : ZBb CX X E)
    (ht : eval (.Call (.Attribute o m apos) [] [] pos) X.env = (do
      let ov <- eval o X.env
      standAt apos.atName
      let (f, first) <- holding [ov] (getMethod ov m pl)
      callWith pos f first (backTo pos (starEach [] X.env)) (backToKw pos (keywordEach [] X.env))) := by rfl) :
    PE X (.Call (.Attribute o m apos) [] [] pos) (ZDf C m sp dvs E ta tNil) := by
  intro pins s σ H Q I h
  refine PySem.W.methodCall_KW (pl := pl) (thn (he pins s σ H _ I h) fun u s1 ⟨x, H1, I1, rx, a, dx, fs, ex, ea, l, q⟩ => ?_) ht
  subst ex
  obtain rfl : u = Value.ref a := rx
  refine getmeth_ok I1 ea c hm l ?_
  exact PySem.W.callWith_K0 (first := [.ref a]) I1.kIn hm.kp (ZDu (us := [.ref a]) (vs := [.ref a]) F hr hb hd hx I1 (.cons rfl .nil) q)
structure Mk (K : W.Frag) (C f : Addr) : Prop where
  makes : PySem.W.makesIn K C = true
  init : W.findIn K (.ref C) "__init__" = some (some (.ref f))
  fn : PySem.W.isFn K (.ref f) = true
  kp : W.keepIn K (.ref C) = true
theorem run_make {pins : List (Addr × Obj)} {σ : St} {H : Hp} {s : Shared} {Q : VK} {us : List Value} {vs : List V} (M : Mk X.K C f) (F : FnOk X.prog X.w X.K X.mg X.base CX k f fd ps sp) (hr : Room (k + 1) X.A) (hb : Binds X.K fd ps ds) (hd : Vals dvs ds)
    (hx : ZBb CX X E) (I : Inv X pins σ H s) (r : Vals vs us)
    (h : ∀ x dx, H x = none -> H dx = none -> dx ≠ x -> sp (.ref x :: (vs ++ dvs)) (upd (upd H dx (.own x)) x (.ins C dx [])) (fun v H2 => v = .non /\ Q (.ref x) H2) E) :
    wpAny (model X.prog X.w) X.A (call (.ref C) us) (EP X pins σ Q) X.xe s := by
  have hq := h (s.heap.objs.size + 1) s.heap.objs.size (I.hok.fresh (yAY _)) (I.hok.fresh (yAA _)) (yAN (yBS _))
  have I2 := Inv.made (C := C) I
  have r2 : Vals (V.ref (s.heap.objs.size + 1) :: (vs ++ dvs)) (Value.ref (s.heap.objs.size + 1) :: (us ++ ds)) := .cons rfl (r.append hd)
  have hl : (Value.ref (s.heap.objs.size + 1) :: us ++ ds).length = ps.length := by
    have e := r2.length
    rw [F.len _ _ _ _ hq] at e
    exact e.symm
  refine wpAny_call (make_map (f := f) I.kIn M.makes M.init (beq_iff_eq.mp M.fn) (codeAny_mono (F.run _ X.stack _ _ ⟨Value.ref (s.heap.objs.size + 1) :: us, []⟩ (Value.ref (s.heap.objs.size + 1) :: (us ++ ds)) _ _ E (hr.make C us [])
    (I2.env0.make C us []) (hb _ (Value.ref (s.heap.objs.size + 1) :: us) I2.kIn hl) r2 hq) fun r s' hq' => ?_))
  cases r with
  | error e => exact hx pins σ _ _ e s' I2 hq'
  | ok fl =>
    cases fl with
    | ret u =>
      obtain ⟨v, H', I3, rv, ev, q3⟩ := I2.after hq'
      subst ev
      exact ⟨rv, ⟨V.ref (s.heap.objs.size + 1), H', I3, rfl, q3⟩⟩
    | next => exact False.elim hq'
    | brk => exact False.elim hq'
    | cont => exact False.elim hq'
theorem pe_make (M : Mk X.K C f) (F : FnOk X.prog X.w X.K X.mg X.base CX k f fd ps sp) (hr : Room (k + 1) X.A) (hg : Gl X x) (hm : X.mg x = some (.ref C)) (hb : Binds X.K fd ps ds) (hd : Vals dvs ds) (hx : ZBb CX X E)
    (ha : PA X (e :: es) t) (hdb : (x == ("__debug__" : Str)) = false := by decide) (he : starEach (e :: es) X.env = (false, eval e X.env) :: starEach es X.env := by rfl) (hpl : (backTo pos (starEach es X.env)).any (·.1) = false := by rfl) :
    PE X (.Call (.Name x p) (e :: es) [] pos) (ZDq C sp dvs E t) := by
  intro pins s σ H Q I h
  refine wpAny_Call_Name_kw (ZDQ I hg hm ?_ hdb)
  refine PySem.W.callWith_K (h₀ := X.base) I.ok.mod.kin M.kp (thn (ha pos pins s σ H _ I h) fun us s1 ⟨vs, H1, I1, r, q⟩ => ⟨I1.kIn, ?_⟩) he hpl
  exact run_make M F hr hb hd hx I1 r q
end
def PK (X : Cx) (kws : List Keyword) (t : TA) : Prop :=
  ∀ (pos : Pos) (pins : List (Addr × Obj)) (s : Shared) (σ : St) (H : Hp) (Q : List V -> Hp -> Prop), Inv X pins σ H s -> t σ H Q -> wpAny (model X.prog X.w) X.A (evalAll ((backToKw pos (keywordEach kws X.env)).map (·.2))) (AP X pins σ Q) X.xe s
section
variable {X : Cx} {CX : CXT} {k : Nat} {f C : Addr} {fd : FuncData} {ps ks : List Str} {sp : Sp} {E : XK} {x m : Str} {p pos apos kpos : Pos} {e o : Expr} {es : List Expr} {kws : List Keyword} {te ta : TE} {t tk : TA} {nm : Option Str}
theorem pk_nil : PK X [] tNil := fun _ _ _ _ H Q I h => wpAny_evalAll_nil ⟨[], H, I, .nil, h⟩
theorem pk_cons (ha : PE X e te) (hr : PK X kws t) : PK X (⟨nm, e, kpos⟩ :: kws) (ZBu te t) := by
  intro pos pins s σ H Q I h
  show wpAny _ _ (evalAll ((do let v <- eval e X.env; standAt pos; pure v) :: (backToKw pos (keywordEach kws X.env)).map (·.2))) _ _ s
  refine wpAny_evalAll_cons (wpAny_bind (thn (ha pins s σ H _ I h) fun u s1 ⟨x, H1, I1, r1, q1⟩ => wpAny_bind (wpAny_standAt (wpAny_pure ?_))))
  exact thn (hr pos pins s1 σ H1 _ I1 q1) fun us s2 ⟨xs, H2, I2, r2, q2⟩ => ⟨x :: xs, H2, I2, .cons r1 r2, q2⟩
variable {g : List Value -> List Value -> List Value} {gV : List V -> List V -> List V}
end
structure FnScope (N P : List Str) (sc : Scope) : Prop where
  kind : sc.kind = .function
  co : sc.isCoroutine = false
  gen : sc.isGenerator = false
  nd : N.Nodup
  pre : N.take P.length = P
  par : ∀ x ∈ P, sc.names.lookup x = some .local ∨ sc.names.lookup x = some .cell
  nofree : ∀ y ∈ sc.names, y.2 ≠ .free
theorem bindL_out {kindOf : Str -> Option NameKind} {x : Str} : ∀ {binds : List (Str × Value)} {m : Str -> Option Value}, (∀ v, (x, v) ∉ binds) -> bindL kindOf binds m x = m x
  | [], _, _ => rfl
  | (n, v) :: r, m, h => by
    unfold bindL
    rw [bindL_out fun w hw => h w (yAJ _ hw)]
    split
    . have : x ≠ n := by rintro rfl; exact h v yAE
      simp [this]
    . rfl
theorem bindC_out {kindOf : Str -> Option NameKind} {x : Str} : ∀ {binds : List (Str × Value)} {m : Str -> Option Value}, (∀ v, (x, v) ∉ binds) -> bindC kindOf binds m x = m x
  | [], _, _ => rfl
  | (n, v) :: r, m, h => by
    unfold bindC
    rw [bindC_out fun w hw => h w (yAJ _ hw)]
    split
    . rfl
    . have : x ≠ n := by rintro rfl; exact h v yAE
      simp [this]
theorem bindL_get {kindOf : Str -> Option NameKind} {x : Str} {v : Value} : ∀ {P : List Str} {vs : List Value} {i : Nat} {m : Str -> Option Value}, P.Nodup -> P[i]? = some x -> vs[i]? = some v -> kindOf x = some .local ->
    bindL kindOf (P.zip vs) m x = some v
  | [], _, _, _, _, h, _, _ => by simp at h
  | _ :: _, [], _, _, _, _, h, _ => by simp at h
  | p :: P, w :: vs, 0, m, nd, h1, h2, hk => by
    simp at h1 h2; subst h1; subst h2
    show bindL kindOf ((p, w) :: P.zip vs) m p = _
    unfold bindL
    rw [bindL_out fun v hv => (yBT.mp nd).1 (List.of_mem_zip hv).1, if_pos hk]
    simp
  | p :: P, w :: vs, i + 1, m, nd, h1, h2, hk => by
    show bindL kindOf ((p, w) :: P.zip vs) m x = _
    unfold bindL
    exact bindL_get (i := i) (yBT.mp nd).2 (by simpa using h1) (by simpa using h2) hk
theorem bindC_get {kindOf : Str -> Option NameKind} {x : Str} {v : Value} : ∀ {P : List Str} {vs : List Value} {i : Nat} {m : Str -> Option Value}, P.Nodup -> P[i]? = some x -> vs[i]? = some v -> kindOf x ≠ some .local ->
    bindC kindOf (P.zip vs) m x = some v
  | [], _, _, _, _, h, _, _ => by simp at h
  | _ :: _, [], _, _, _, _, h, _ => by simp at h
  | p :: P, w :: vs, 0, m, nd, h1, h2, hk => by
    simp at h1 h2; subst h1; subst h2
    show bindC kindOf ((p, w) :: P.zip vs) m p = _
    unfold bindC
    rw [bindC_out fun v hv => (yBT.mp nd).1 (List.of_mem_zip hv).1, if_neg hk]
    simp
  | p :: P, w :: vs, i + 1, m, nd, h1, h2, hk => by
    show bindC kindOf ((p, w) :: P.zip vs) m x = _
    unfold bindC
    exact bindC_get (i := i) (yBT.mp nd).2 (by simpa using h1) (by simpa using h2) hk
def start (N : List Str) (vs : List V) : St := vs.map some ++ List.replicate (N.length - vs.length) none
def cxOf (CX : CXT) (P : Program) (w : World) (K : W.Frag) (mg : Str -> Option Value) (base : Heap) (N : List Str) (qual : Str) (scope : Scope) (f : Addr) (cd : Value) (A : Around) (outer : List Env) (s : Shared) (H : Hp) (E : XK) : Cx where
  prog := P
  w := w
  K := K
  mg := mg
  base := base
  A := A.deeper (envOfC qual scope s.heap.objs.size f cd)
  N := N
  s₀ := s
  H₀ := H
  env := envOfC qual scope s.heap.objs.size f cd
  outer := outer
  stack := envOfC qual scope s.heap.objs.size f cd :: outer
  ex := []
  calm := true
  fn := fun _ => true
  pn := []
  xe := fun e s' => wpAny (model P w) (A.deeper (envOfC qual scope s.heap.objs.size f cd)) (leaving (envOfC qual scope s.heap.objs.size f cd) e) (fun _ s'' => CX outer H s E e s'') (fun e' s'' => CX outer H s E e' s'') s'
theorem ZCQ {sc : Scope} {n : Nat} {x : Str} (h : sc.names.lookup x = some .cell) : ∃ c, (cellsFrom n sc.names []).lookup x = some c := by
  have q := PySem.W.cellsFrom_some sc.names n [] (.inl h)
  exact Option.isSome_iff_exists.mp q
theorem inv_start {CX : CXT} {P : Program} {w : World} {K : W.Frag} {mg : Str -> Option Value} {base : Heap} {N ps : List Str} {qual : Str} {scope : Scope} {f : Addr} {cd : Value} {A : Around} {outer : List Env} {s s1 : Shared} {H : Hp} {E : XK} {us : List Value} {vs : List V}
    (S : FnScope N ps scope) (hd : A.handled = none) (e0 : Env0 P w K mg base A outer s H) (hl : vs.length = ps.length) (r : Vals vs us)
    (x : InCallC s s.heap.objs.size (bindL (envOfC qual scope s.heap.objs.size f cd).kindOf (ps.zip us) fun _ => none) (cellsFrom (s.heap.objs.size + 1) scope.names []) (bindC (envOfC qual scope s.heap.objs.size f cd).kindOf (ps.zip us) fun _ => none) s1) :
    Inv (cxOf CX P w K mg base N qual scope f cd A outer s H E) [] (start N vs) H s1 := by
  have hpl : ps.length <= N.length := by have := congrArg List.length S.pre; rw [yAP] at this; omega
  obtain ⟨h1, tk, rfl, hk⟩ := x.done
  have noA : ∀ b : Addr, b ∉ (cxOf CX P w K mg base N qual scope f cd A outer s H E).ex := fun b z => absurd (show b ∈ ([] : List Addr) from z) (by simp)
  refine ⟨⟨e0.mod, S.kind, rfl, rfl, yAA _, fun y z c h1 h2 => ?_, fun y hy => ?_, fun y c _ h => ?_, fun _ => hd, Around.frames_deeper e0.frames, .inr ⟨rfl, rfl⟩, fun b z => absurd z (noA b), e0.bs, e0.bsz, fun b _ _ => noA b, fun b z => absurd z (noA b), e0.funs, e0.frf⟩,
    rfl, e0.bare, Un.kept hk, ⟨_, x.toInCall.ns, fun i y v h1 h2 h3 => ?_⟩, fun y c h => ⟨_, x.cell y c h⟩, e0.hok.fresh (yAA _), fun y c h => ?_, fun p hp => absurd (show p ∈ ([] : List (Addr × Obj)) from hp) (by simp), e0.hok.kept hk, ?_⟩
  . exact name_of_addr x.apart (PySem.mem_of_lookup h1) (PySem.mem_of_lookup h2)
  . have hy : scope.names.lookup y = some .cell ∨ scope.names.lookup y = some .free := hy
    rcases hy with hy | hy
    . exact ZCQ hy
    . exact absurd rfl (S.nofree _ (PySem.mem_of_lookup hy))
  . exact yBI (x.above y c (PySem.mem_of_lookup h))
  . have hi : i < vs.length := by
      unfold start at h2
      by_cases hi : i < vs.length
      . exact hi
      . rw [yBG (by simpa using hi)] at h2
        rw [List.getElem?_replicate] at h2
        split at h2 <;> cases h2
    have ha : vs[i]? = some v := by
      unfold start at h2
      rw [yBH (by simpa using hi), yAR] at h2
      cases e : vs[i]? with
      | none => rw [e] at h2; cases h2
      | some a => rw [e] at h2; cases h2; rfl
    obtain ⟨u, hu, rv⟩ := r.get ha
    have hp : ps[i]? = some y := by
      rw [<- S.pre, List.getElem?_take_of_lt (by omega)]; exact h1
    have ndP : ps.Nodup := by rw [<- S.pre]; exact S.nd.sublist (List.take_sublist _ _)
    refine ⟨u, rv, ?_⟩
    rcases S.par y (yAO hp) with k | k
    . exact .inl ⟨k, bindL_get ndP hp hu k⟩
    . obtain ⟨c, e⟩ := ZCQ (n := s.heap.objs.size + 1) k
      refine .inr ⟨.inl k, c, e, ?_⟩
      have q := x.cell y c e
      rw [bindC_get ndP hp hu (by show scope.names.lookup y ≠ _; rw [k]; decide)] at q
      exact q
  . exact e0.hok.fresh (yBI (x.above y c (PySem.mem_of_lookup h)))
  . unfold start
    show _ = N.length
    rw [yAC, yAB, yCB]
    omega
theorem fn_of {CX : CXT} {P : Program} {w : World} {K : W.Frag} {mg : Str -> Option Value} {base : Heap} {k : Nat} {f : Addr} {name qual : Str} {params : Arguments} {body : List Stmt} {scope : Scope} {dV kV doc pm cdv ct oc : Value} {an od : Option Addr}
    {osl : Array (Option Value)} {N ps : List Str} {sp : Sp} (lk : K.lookup f = some ⟨oc, od, .func (W.fnOf name qual params body scope dV kV doc pm an cdv ct), osl⟩) (hcd : W.codeIn K cdv qual = true) (S : FnScope N ps scope)
    (len : ∀ vs H Q E, sp vs H Q E -> vs.length = ps.length)
    (hbody : ∀ (A : Around) (outer : List Env) (s : Shared) (H : Hp) (vs : List V) (Q : VK) (E : XK), Room k (A.deeper (envOfC qual scope s.heap.objs.size f cdv)) -> sp vs H Q E ->
      ∃ t, PSs (cxOf CX P w K mg base N qual scope f cdv A outer s H E) body t /\ t { nx := fun _ H' => Q .non H', rt := Q } (start N vs) H) :
    FnOk P w K mg base CX (k + 1) f (W.fnOf name qual params body scope dV kV doc pm an cdv ct) ps sp := by
  refine ⟨len, fun A outer s H args us vs Q E hr e0 hb r hsp => ?_⟩
  have hl := len _ _ _ _ hsp
  have KX : K.In s.heap := e0.mod.kin.keeps fun b o e => (e0.bs b o e).1
  have lim : s.heap.NoLimit := e0.mod.nolimit.keeps fun b o e => (e0.bs b o e).1
  have hkind : ∀ y ∈ ps.zip us, scope.names.lookup y.1 = some .local ∨ (scope.names.lookup y.1 = some .cell /\ ((cellsFrom (s.heap.objs.size + 1) scope.names []).lookup y.1).isSome = true) := fun ⟨n, v⟩ hy => by
    rcases S.par n (List.of_mem_zip hy).1 with q | q
    . exact .inl q
    . exact .inr ⟨q, PySem.W.cellsFrom_some _ _ _ (.inl q)⟩
  refine codeAny_call_function hr.depth (KX _ _ lk) rfl S.co S.gen rfl (PySem.W.codeRec_of KX hcd) (hb _ _ _ _ ?_)
  refine wpAny_newFunctionEnv_cells S.kind hkind fun env he s1 x => ?_
  subst he
  refine ⟨lim.keeps x.toInCall.keep, codeAny_func ?_⟩
  obtain ⟨t, ht, hq⟩ := hbody A outer s H vs Q E (hr.deeper _) hsp
  have I : Inv (cxOf CX P w K mg base N qual scope f cdv A outer s H E) [] (start N vs) H s1 := inv_start S hr.hd e0 hl r x
  refine wpAny_mono (ht [] s1 (start N vs) H _ I hq) (fun fl s' hs => ?_) fun e s' hs => hs
  have fin : ∀ {σ' : St} {H' : Hp} {v : V} {u : Value}, Inv (cxOf CX P w K mg base N qual scope f cdv A outer s H E) [] σ' H' s' -> RelV v u -> Q v H' -> CE outer P w H s Q u s' :=
    fun {σ' H' v u} J rv q => ⟨v, H', J.os, J.bare, J.base, J.hok, rv, q⟩
  cases fl with
  | ret u =>
    obtain ⟨v, σ', H', J, rv, q⟩ := hs
    exact fin J rv q
  | next =>
    obtain ⟨σ', H', J, q⟩ := hs
    exact fin (v := V.non) (u := Value.none) J rfl q
  | brk =>
    obtain ⟨_, _, _, q⟩ := hs
    exact False.elim q
  | cont =>
    obtain ⟨_, _, _, q⟩ := hs
    exact False.elim q
section
variable {X : Cx} {x : Str} {p pos : Pos} {e : Expr} {es : List Expr} {t : TA} {id T : String} {r : List V -> Hp -> VK -> Prop}
def tCB (r : List V -> Hp -> VK -> Prop) (t : TA) : TE := fun σ H Q => t σ H fun vs H1 => r vs H1 Q
theorem ZAP (hc : ZCg X (.builtin id) r) (hg : Gl X x) (hm : X.mg x = none) (hv : bootBuiltins x = some (.builtin id)) (ha : PA X (e :: es) t) (hn : x ≠ "__name__" := by decide) (hdb : (x == ("__debug__" : Str)) = false := by decide)
    (he : starEach (e :: es) X.env = (false, eval e X.env) :: starEach es X.env := by rfl) (hpl : (backTo pos (starEach es X.env)).any (·.1) = false := by rfl) : PE X (.Call (.Name x p) (e :: es) [] pos) (tCB r t) := by
  intro pins s σ H Q I h
  refine wpAny_Call_Name_kw (ZCq I hg hm hv ?_ hn hdb)
  exact PyProof.Rows.callWith_builtin1 (thn (ha pos pins s σ H _ I h) fun us s1 ⟨vs, H1, I1, r1, q1⟩ => hc pins s1 σ H1 vs us Q I1 r1 q1) he hpl
theorem ZBC (hc : ZCg X (.type T) r) (hg : Gl X x) (hm : X.mg x = none) (hv : bootBuiltins x = some (.type T)) (ha : PA X (e :: es) t) (hn : x ≠ "__name__" := by decide) (hdb : (x == ("__debug__" : Str)) = false := by decide)
    (he : starEach (e :: es) X.env = (false, eval e X.env) :: starEach es X.env := by rfl) (hpl : (backTo pos (starEach es X.env)).any (·.1) = false := by rfl) : PE X (.Call (.Name x p) (e :: es) [] pos) (tCB r t) := by
  intro pins s σ H Q I h
  refine wpAny_Call_Name_kw (ZCq I hg hm hv ?_ hn hdb)
  exact PyProof.Rows.callWith_type1 (thn (ha pos pins s σ H _ I h) fun us s1 ⟨vs, H1, I1, r1, q1⟩ => hc pins s1 σ H1 vs us Q I1 r1 q1) he hpl
end
end L2
namespace HT
open PySem PyProof.Rows
section
open PySem.SeqAt
open PySem.AutoSeq1 (wpAny_loadPart')
open PySem.MeetsSeq PySem.MeetsSeq2 PySem.MeetsSeq3
end
section
variable {prog : Program} {w : World} {A : Around} {E : Value -> Shared -> Prop} {s : Shared}
def sIx (n d : Nat) : Option Int -> Nat
  | none => d
  | some v => if v < 0 then (v + (n : Int)).toNat else min v.toNat n
theorem sIx_none (n d : Nat) : sIx n d none = d := rfl
theorem sIx_nat (n d k : Nat) : sIx n d (some (k : Int)) = min k n := by
  show (if (k : Int) < 0 then ((k : Int) + (n : Int)).toNat else min (k : Int).toNat n) = min k n
  rw [if_neg (by omega), Int.toNat_natCast]
end
end HT
namespace L2
open PySem PySem.Spec PyProof.Rows
abbrev TO := St -> Hp -> (Option Int -> Hp -> Prop) -> Prop
def PO (X : Cx) (e : Option Expr) (t : TO) : Prop :=
  ∀ (pins : List (Addr × Obj)) (s : Shared) (σ : St) (H : Hp) (Q : Option Int -> Hp -> Prop), Inv X pins σ H s -> t σ H Q ->
    wpAny (model X.prog X.w) X.A (evalPart e X.env) (fun u s' => ∃ o H', Inv X pins σ H' s' /\ IsPart u o /\ Q o H') X.xe s
def ZDJ : TO := fun _ H Q => Q none H
def ZEG (t : TE) : TO := fun σ H Q => t σ H fun x H1 => ∃ i, x = .int i /\ Q (some i) H1
theorem intsAre_of {ns : List Int} : ∀ {us : List Value}, Vals (ns.map V.int) us -> IntsAre us ns := by
  induction ns with
  | nil => intro us r; rw [List.map_nil] at r; cases r; exact .nil
  | cons n ns ih =>
    intro us r
    rw [yAT] at r
    cases r with
    | cons r1 r2 =>
      obtain ⟨t, e⟩ := r1
      subst e
      exact .cons n t (ih r2)
section
variable {X : Cx} {e : Expr} {te : TE} {lo hi : Option Expr} {tl th : TO} {pos p2 : Pos}
theorem po_none : PO X none ZDJ := by
  intro pins s σ H Q I h
  rw [evalPart_none]
  exact wpAny_pure ⟨none, H, I, .none, h⟩
theorem ZBx (h : PE X e te) : PO X (some e) (ZEG te) := by
  intro pins s σ H Q I hw
  rw [evalPart_some]
  refine thn (h pins s σ H _ I hw) fun u s1 ⟨x, H1, I1, r1, q1⟩ => ?_
  obtain ⟨i, rfl, q⟩ := q1
  obtain ⟨t, rfl⟩ := r1
  exact ⟨some i, H1, I1, .int i t, q⟩
def SlR (X : Cx) (r : V -> Option Int -> Option Int -> Hp -> VK -> Prop) : Prop :=
  ∀ (pins : List (Addr × Obj)) (s : Shared) (σ : St) (H : Hp) (x : V) (v vl vu : Value) (lo hi : Option Int) (sl : Addr) (Q : VK), Inv X pins σ H s -> RelV x v -> s.heap.IsSliceOf sl vl vu .none -> IsPart vl lo -> IsPart vu hi -> r x lo hi H Q ->
    ∃ T id, typeLookup (.type T) "__getitem__" = pure (some (.builtin id)) /\ s.TypeIs v T /\ wpAny (model X.prog X.w) X.A (getItem v (.ref sl)) (EP X pins σ Q) X.xe s
def tSl (r : V -> Option Int -> Option Int -> Hp -> VK -> Prop) (te : TE) (tl th : TO) : TE := fun σ H Q => te σ H fun x H1 => tl σ H1 fun l H2 => th σ H2 fun u H3 => r x l u H3 Q
theorem ZCK {r : V -> Option Int -> Option Int -> Hp -> VK -> Prop} (hr : SlR X r) (he : PE X e te) (hl : PO X lo tl) (hu : PO X hi th) : PE X (.Subscript e (.Slice lo hi none p2) pos) (tSl r te tl th) := by
  intro pins s σ H Q I h
  refine Subscript_ (thn (he pins s σ H _ I h) fun v s1 ⟨x, H1, I1, r1, q1⟩ => ?_)
  refine wpAny_Slice (thn (hl pins s1 σ H1 _ I1 q1) fun vl s2 ⟨l, H2, I2, pl, q2⟩ => thn (hu pins s2 σ H2 _ I2 q2) fun vu s3 ⟨u, H3, I3, pu, q3⟩ => ?_)
  rw [evalPart_none]
  refine wpAny_pure ?_
  have I4 : Inv X pins σ H3 { s3 with heap := s3.heap.push { cls := .type "slice", data := .fields #[vl, vu, .none] } } := I3.kept (t' := s3.toks) fun b ob q => Heap.get?_push_of_some _ q
  obtain ⟨T, id, hT, ht, hg⟩ := hr pins { s3 with heap := s3.heap.push { cls := .type "slice", data := .fields #[vl, vu, .none] } } σ H3 x v vl vu l u s3.heap.objs.size Q I4 r1 (Heap.IsSliceOf.new ..) pl pu q3
  show wpAny (model X.prog X.w) X.A (subscriptTail e (.Slice lo hi none p2) v (.ref s3.heap.objs.size)) (EP X pins σ Q) X.xe { s3 with heap := s3.heap.push { cls := .type "slice", data := .fields #[vl, vu, .none] } }
  exact tail_any (ops := [.ref s3.heap.objs.size, v]) ht hT hg (by with_unfolding_all rfl)
def cutV (xs : List V) (lo hi : Option Int) : List V := (xs.drop (HT.sIx xs.length 0 lo)).take (HT.sIx xs.length xs.length hi - HT.sIx xs.length 0 lo)
theorem cutV_length (xs : List V) (lo hi : Option Int) : (cutV xs lo hi).length <= xs.length := by
  unfold cutV
  rw [yAP, yAZ]
  omega
end
def ixN (n : Nat) (i : Int) : Option Nat := if 0 <= i then (if i < n then some i.toNat else none) else if -(n : Int) <= i then some (i + n).toNat else none
def atI {α : Type} (xs : List α) (i : Int) : Option α := (ixN xs.length i).bind fun j => xs[j]?
theorem ixN_seq {n : Nat} {i : Int} {j : Nat} (h : ixN n i = some j) : seqIndex? i n = some j /\ j < n /\ -(n : Int) <= i /\ i < n := by
  unfold ixN at h
  by_cases h0 : 0 <= i
  . rw [if_pos h0] at h
    by_cases h1 : i < n
    . rw [if_pos h1] at h
      have e : i.toNat = j := Option.some.inj h
      exact ⟨by rw [seqIndex_of h0 h1, e], by omega, by omega, h1⟩
    . rw [if_neg h1] at h; cases h
  . rw [if_neg h0] at h
    by_cases h1 : -(n : Int) <= i
    . rw [if_pos h1] at h
      have e : (i + n).toNat = j := Option.some.inj h
      exact ⟨by rw [seqIndex_neg (by omega) h1, e], by omega, h1, by omega⟩
    . rw [if_neg h1] at h; cases h
theorem atI_get {α : Type} {xs : List α} {i : Int} {v : α} (h : atI xs i = some v) : ∃ j, seqIndex? i xs.length = some j /\ xs[j]? = some v /\ j < xs.length /\ -(xs.length : Int) <= i /\ i < xs.length := by
  unfold atI at h
  cases e : ixN xs.length i with
  | none => rw [e] at h; cases h
  | some j =>
    rw [e] at h
    obtain ⟨h1, h2, h3, h4⟩ := ixN_seq e
    exact ⟨j, h1, h, h2, h3, h4⟩
theorem atI_nat {α : Type} {xs : List α} {j : Nat} {v : α} (h : xs[j]? = some v) : atI xs (j : Int) = some v := by
  have hj : j < xs.length := (yAG.mp h).1
  have e : ixN xs.length (j : Int) = some j := by
    unfold ixN
    rw [if_pos (by omega), if_pos (by omega)]; simp
  unfold atI; rw [e]; exact h
def PlainIx (b : Expr) : Prop := ∀ o i, subscripted b false o i = operate [o, i] (getItem o i)
def IxR (X : Cx) (r : R2) : Prop :=
  ∀ (value slice : Expr) (pins : List (Addr × Obj)) (s : Shared) (σ : St) (H : Hp) (x y : V) (v u : Value) (Q : VK), Inv X pins σ H s -> RelV x v -> RelV y u -> r x y H Q ->
    subscripted slice false v u = operate [v, u] (getItem v u) -> wpAny (model X.prog X.w) X.A (subscriptTail value slice v u) (EP X pins σ Q) X.xe s
def MtR (X : Cx) (id : String) (r : V -> List V -> Hp -> VK -> Prop) : Prop :=
  ∀ (pins : List (Addr × Obj)) (s : Shared) (σ : St) (H : Hp) (x : V) (xs : List V) (v : Value) (us : List Value) (Q : VK), Inv X pins σ H s -> RelV x v -> Vals xs us -> r x xs H Q ->
    wpAny (model X.prog X.w) X.A (call (.builtin id) (v :: us)) (EP X pins σ Q) X.xe s
section
variable {X : Cx} {a b : Expr} {ta tb : TE} {pos : Pos}
theorem ZAh {r : R2} (hr : IxR X r) (ha : PE X a ta) (hb : PE X b tb) (hs : PlainIx b) : PE X (.Subscript a b pos) (tOp r ta tb) := by
  intro pins s σ H Q I h
  exact Subscript_ (binT ha hb I h fun v u s2 x y H2 I2 rx ry q => hr a b pins s2 σ H2 x y v u Q I2 rx ry q (hs _ _))
def rIxL (K : W.Frag) : R2 := fun x y H Q => ∃ p xs i v, x = .ref p /\ y = .int i /\ SqL K H p xs /\ atI xs i = some v /\ Q v H
def rIxT (K : W.Frag) : R2 := fun x y H Q => ∃ p xs i v, x = .ref p /\ y = .int i /\ SqT K H p xs /\ atI xs i = some v /\ Q v H
theorem ZAS : IxR X (rIxL X.K) := by
  intro value slice pins s σ H x y v u Q I rx ry h hs
  obtain ⟨p, xs, i, z, rfl, rfl, hq, he, q⟩ := h
  cases rx
  obtain ⟨t, rfl⟩ := ry
  obtain ⟨its, r, pl, hz⟩ := I.list hq
  obtain ⟨j, h1, h2, h3, h4, h5⟩ := atI_get he
  obtain ⟨w, ew, rw'⟩ := r.get h2
  have hl := r.length
  have hn := ZDa
  have fin : EP X pins σ Q w s := ⟨z, H, I, rw', q⟩
  by_cases h0 : 0 <= i
  . have hj : i.toNat = j := by
      rw [seqIndex_of h0 h5] at h1
      exact Option.some.inj h1
    exact item_listR pl.isList h0 (by omega) (by rw [hj]; simpa using ew) fin hs
  . have hj : (i + (its.toArray.size : Int)).toNat = j := by
      rw [seqIndex_neg (by omega) h4] at h1
      rw [yAS, <- hl]
      exact Option.some.inj h1
    exact subscriptTail_builtinR (x := w) pl.isList.typeIs slot_list_getitem.lookup
      (wpAny_getItem_list_neg (Q := fun r s' => r = w /\ EP X pins σ Q r s') pl.isList (by omega) (by rw [yAS] <;> omega) (by omega) (by rw [hj]; simpa using ew) ⟨rfl, fin⟩) hs
theorem ZBa : IxR X (rIxT X.K) := by
  intro value slice pins s σ H x y v u Q I rx ry h hs
  obtain ⟨p, xs, i, z, rfl, rfl, hq, he, q⟩ := h
  cases rx
  obtain ⟨t, rfl⟩ := ry
  obtain ⟨its, r, pl, hz⟩ := I.tuple hq
  obtain ⟨j, h1, h2, h3, h4, h5⟩ := atI_get he
  obtain ⟨w, ew, rw'⟩ := r.get h2
  have hl := r.length
  have hn := ZDa
  have fin : EP X pins σ Q w s := ⟨z, H, I, rw', q⟩
  exact subscriptTail_builtinR (x := w) pl.typeIs slot_tuple_getitem.lookup
    (getItem_tuple (j := j) (Q := fun r s' => r = w /\ EP X pins σ Q r s') pl (by omega) (by omega) (by rw [yAS, <- hl]; exact h1) (by simpa using ew) ⟨rfl, fin⟩) hs
theorem mapSeq_set (its : List Value) (n j : Nat) (u : Value) : Obj.mapSeq (·.setIfInBounds j u) { cls := .type "list", data := .seq its.toArray n } = { cls := .type "list", data := .seq (its.set j u).toArray n } := by
  simp [Obj.mapSeq]
theorem Inv.lst {pins : List (Addr × Obj)} {σ : St} {H : Hp} {s : Shared} {p : Addr} {xs : List V} (I : Inv X pins σ H s) (h : H p = some (.lst xs)) :
    ∃ (its : List Value) (n : Nat), Vals xs its /\ s.heap.get? p = some { cls := .type "list", data := .seq its.toArray n } /\ xs.length <= sizeLine := by
  obtain ⟨z, its, n, r, e⟩ := I.hok p _ h
  exact ⟨its, n, r, e, z⟩
theorem Inv.lstUpd {pins : List (Addr × Obj)} {σ : St} {H : Hp} {s : Shared} {p : Addr} {xs ys : List V} {its its' : List Value} {n n' : Nat} {f : Obj -> Obj} (I : Inv X pins σ H s) (h : H p = some (.lst xs))
    (ho : s.heap.get? p = some { cls := .type "list", data := .seq its.toArray n }) (hf : f { cls := .type "list", data := .seq its.toArray n } = { cls := .type "list", data := .seq its'.toArray n' }) (r : Vals ys its') (hz : ys.length <= sizeLine) (t : Nat) :
    Inv X pins σ (upd H p (.lst ys)) { s with heap := s.heap.update p f, toks := t } := by
  have e : (s.heap.update p f).get? p = some { cls := .type "list", data := .seq its'.toArray n' } := by
    rw [Heap.get?_update_self f ho (by rw [hf] <;> rfl), hf]
  refine I.write (x := p) (e := p) (by rw [h]; trivial) (.inl rfl) (fun b u hb q => (Heap.get?_update_other _ _ (Ne.symm hb)).trans q) ⟨_, e⟩ ?_
  exact ⟨hz, its', n', r, e⟩
def rSetL : V -> V -> V -> Hp -> (Hp -> Prop) -> Prop := fun o i v H Q => ∃ p xs k j, o = .ref p /\ i = .int k /\ H p = some (.lst xs) /\ ixN xs.length k = some j /\ Q (upd H p (.lst (xs.set j v)))
theorem ZC0 : PSet X rSetL := by
  intro pins s σ H o i v ov iv u Q I ro ri rv h
  obtain ⟨p, xs, k, j, rfl, rfl, hp, hj, q⟩ := h
  cases ro
  obtain ⟨t, rfl⟩ := ri
  obtain ⟨its, n, r, ho, hz⟩ := I.lst hp
  obtain ⟨h1, h2, h3, h4⟩ := ixN_seq hj
  have hl := r.length
  have hn := ZDa
  have I' : Inv X pins σ (upd H p (.lst (xs.set j v))) { s with heap := s.heap.update p (Obj.mapSeq (·.setIfInBounds j u)) } :=
    I.lstUpd hp ho (mapSeq_set its n j u) (r.set rv j) (by rw [List.length_set]; exact hz) s.toks
  by_cases h0 : 0 <= k
  . have hk : k.toNat = j := by
      rw [seqIndex_of h0 h4] at h1
      exact Option.some.inj h1
    exact PySem.W.ki_setAt ho h0 (by omega) (by rw [yAS, <- hl]; exact h4) (by rw [hk]; exact ⟨_, I', q⟩)
  . have hk : (k + (its.toArray.size : Int)).toNat = j := by
      rw [seqIndex_neg (by omega) h3] at h1
      rw [yAS, <- hl]
      exact Option.some.inj h1
    exact PySem.W.ki_setBack ho (by omega) (by rw [yAS, <- hl]; exact h3) (by omega) (by rw [hk]; exact ⟨_, I', q⟩)
theorem slice_bounds (lo hi : Option Int) (n : Nat) : (sliceBounds lo hi none n).1 = ((HT.sIx n 0 lo : Nat) : Int) /\ (sliceBounds lo hi none n).2.1 = ((HT.sIx n n hi : Nat) : Int) /\ (sliceBounds lo hi none n).2.2 = 1 := by
  refine ⟨?_, ?_, rfl⟩
  . cases lo with
    | none => simp [sliceBounds, HT.sIx]
    | some i =>
      simp only [sliceBounds, HT.sIx, Option.getD_none, show (1 : Int) > 0 by decide, if_true]
      by_cases h : i < 0
      . simp only [h, if_true] <;> omega
      . simp only [h, if_false] <;> omega
  . cases hi with
    | none => simp [sliceBounds, HT.sIx]
    | some i =>
      simp only [sliceBounds, HT.sIx, Option.getD_none, show (1 : Int) > 0 by decide, if_true]
      by_cases h : i < 0
      . simp only [h, if_true] <;> omega
      . simp only [h, if_false] <;> omega
theorem slicePick_cut (its : List Value) (lo hi : Option Int) : slicePick its.toArray lo hi none = ((its.drop (HT.sIx its.length 0 lo)).take (HT.sIx its.length its.length hi - HT.sIx its.length 0 lo)).toArray := by
  obtain ⟨h1, h2, h3⟩ := slice_bounds lo hi its.toArray.size
  unfold slicePick
  rw [h1, h2, h3]
  simp only [sliceRange_one, pick_run, yAS] <;> rfl
def rSlL (K : W.Frag) : V -> Option Int -> Option Int -> Hp -> VK -> Prop := fun x lo hi H Q => ∃ a xs, x = .ref a /\ SqL K H a xs /\ ∀ p, H p = none -> Q (.ref p) (upd H p (.lst (cutV xs lo hi)))
theorem ZCz : SlR X (rSlL X.K) := by
  intro pins s σ H x v vl vu lo hi sl Q I rx hs pl pu h
  obtain ⟨a, xs, rfl, hx, q⟩ := h
  cases rx
  obtain ⟨its, r, ht, hz⟩ := I.list hx
  have hlen := r.length
  refine ⟨"list", _, slot_list_getitem.lookup, ht.isList.typeIs, ?_⟩
  refine wpAny_getItem_list_slice ht.isList hs pl pu .none (by simp) ?_ (by rw [yAS] <;> omega)
  rw [slicePick_cut, <- hlen]
  refine ⟨.ref s.heap.objs.size, _, I.laid (t' := s.toks) (o := .lst (cutV xs lo hi)) (fun b ob q => Heap.get?_push_of_some _ q) (yAA _) ?_, rfl, q _ (I.hok.fresh (yAA _))⟩
  exact ⟨yAK (cutV_length xs lo hi) hz, _, 0, (r.drop (HT.sIx xs.length 0 lo)).take (HT.sIx xs.length xs.length hi - HT.sIx xs.length 0 lo), Heap.get?_push_size _ rfl⟩
theorem ZAL : ZCg X (.builtin "len") (fun xs H Q => ∃ p ys, xs = [.ref p] /\ (SqL X.K H p ys ∨ SqT X.K H p ys) /\ Q (.int ys.length) H) := by
  intro pins s σ H xs us Q I r h
  obtain ⟨p, ys, rfl, hq, q⟩ := h
  obtain ⟨u, rfl, rx⟩ := ZDH r
  cases rx
  have hn := ZDa
  rcases hq with hq | hq
  . obtain ⟨its, r', pl, hz⟩ := I.list hq
    have hlen := r'.length
    exact Calls.call_len_list pl.isList (by simp only [yAS] <;> omega) ⟨.int ys.length, H, I.tok _, ⟨s.toks + 1, by rw [yAS, hlen]⟩, q⟩
  . obtain ⟨its, r', pl, hz⟩ := I.tuple hq
    have hlen := r'.length
    exact len_tuple pl (by simp only [yAS] <;> omega) ⟨.int ys.length, H, I.tok _, ⟨s.toks + 1, by rw [yAS, hlen]⟩, q⟩
theorem ZA3 : ZCg X (.type "list") (fun xs H Q => ∃ p ys, xs = [.ref p] /\ (SqL X.K H p ys ∨ SqT X.K H p ys) /\ ∀ l, H l = none -> Q (.ref l) (upd H l (.lst ys))) := by
  intro pins s σ H xs us Q I r h
  obtain ⟨p, ys, rfl, hq, q⟩ := h
  obtain ⟨u, rfl, rx⟩ := ZDH r
  cases rx
  have fin : ∀ (its : List Value), Vals ys its -> ys.length <= sizeLine -> ∀ (h' : Heap) (c' : Nat), (∀ b o', s.heap.get? b = some o' -> h'.get? b = some o') ->
      h'.get? s.heap.objs.size = some { cls := .type "list", dict := none, data := .seq its.toArray c', slots := #[] } -> EP X pins σ Q (.ref s.heap.objs.size) { s with heap := h' } := fun its r' hz h' c' kp e =>
    ⟨.ref s.heap.objs.size, _, I.laid (t' := s.toks) kp (yAA _) (show ObjOk X.prog X.w _ h' _ (.lst ys) from ⟨hz, its, c', r', e⟩), rfl, q _ (I.hok.fresh (yAA _))⟩
  rcases hq with hq | hq
  . obtain ⟨its, r', pl, hz⟩ := I.list hq
    have hlen := r'.length
    obtain ⟨o, ho, hc, n, hd⟩ := pl.isList
    exact call_list_seq p (.inl rfl) ho hc hd (fun h' c' kp e => fin its r' hz h' c' kp e) (by simp only [yAS] <;> omega)
  . obtain ⟨its, r', pl, hz⟩ := I.tuple hq
    have hlen := r'.length
    obtain ⟨o, ho, hc, n, hd⟩ := pl
    exact call_list_seq p (.inr rfl) ho hc hd (fun h' c' kp e => fin its r' hz h' c' kp e) (by simp only [yAS] <;> omega)
def tyV (K : W.Frag) (T : String) (x : V) (H : Hp) : Prop := match x with
  | .str _ => T = "str"
  | .int _ => T = "int"
  | .ref p => (T = "list" /\ ∃ xs, SqL K H p xs) ∨ (T = "tuple" /\ ∃ o, K.lookup p = some o /\ o.cls = .type "tuple" /\ o.dict = none) ∨
      (T = "dict" /\ ((∃ kvs, H p = some (.dK kvs)) ∨ ∃ kvs, H p = some (.dT kvs))) ∨ (T = "set" /\ ∃ S n, H p = some (.set S n))
  | _ => False
theorem tyV_is {pins : List (Addr × Obj)} {σ : St} {H : Hp} {s : Shared} {T : String} {x : V} {v : Value} (I : Inv X pins σ H s) (r : RelV x v) (ty : tyV X.K T x H) :
    s.TypeIs v T /\ ∀ a, v = .ref a -> ∃ ob, s.heap.get? a = some ob /\ ob.dict = none := by
  cases x with
  | str z =>
    obtain ⟨t, rfl⟩ := r
    cases (show T = "str" from ty)
    exact ⟨typeIs_str s z t, fun _ e => nomatch e⟩
  | int i =>
    obtain ⟨t, rfl⟩ := r
    cases (show T = "int" from ty)
    exact ⟨typeIs_int s i t, fun _ e => nomatch e⟩
  | ref p =>
    cases r
    rcases ty with ⟨rfl, xs, hq⟩ | ⟨rfl, o, hk, hc, hd⟩ | ⟨rfl, hk⟩ | ⟨rfl, S, n, hk⟩
    . obtain ⟨its, _, pl, _⟩ := I.list hq
      refine ⟨pl.isList.typeIs, fun a e => ?_⟩
      cases e
      obtain ⟨o, n, e, c, hd, _⟩ := pl
      exact ⟨o, e, hd⟩
    . refine ⟨⟨o, I.kIn p o hk, hc⟩, fun a e => ?_⟩
      cases e
      exact ⟨o, I.kIn _ o hk, hd⟩
    . have z : ∃ o, s.heap.get? p = some o /\ o.ExactDict := by
        rcases hk with ⟨kvs, hk⟩ | ⟨kvs, hk⟩
        . obtain ⟨_, _, _, _, o, _, _, e, ex, _⟩ := I.hok p _ hk
          exact ⟨o, e, ex⟩
        . obtain ⟨_, _, _, _, o, _, _, e, ex, _⟩ := I.hok p _ hk
          exact ⟨o, e, ex⟩
      obtain ⟨o, e, ex⟩ := z
      refine ⟨⟨o, e, ex.1⟩, fun a e2 => ?_⟩
      cases e2
      exact ⟨o, e, ex.2.1⟩
    . obtain ⟨o, _, _, _, e, ex, _⟩ := I.hok p _ hk
      refine ⟨⟨o, e, ex.1⟩, fun a e2 => ?_⟩
      cases e2
      exact ⟨o, e, ex.2.1⟩
  | _ => exact False.elim ty
def tBM0 (K : W.Frag) (T : String) (r : V -> List V -> Hp -> VK -> Prop) (to : TE) : TE := fun σ H Q => to σ H fun x H1 => tyV K T x H1 /\ r x [] H1 Q
def tBM (K : W.Frag) (T : String) (r : V -> List V -> Hp -> VK -> Prop) (to : TE) (t : TA) : TE := fun σ H Q => to σ H fun x H1 => tyV K T x H1 /\ t σ H1 fun xs H2 => r x xs H2 Q
variable {o e : Expr} {es : List Expr} {to : TE} {t : TA} {name : Str} {apos cpos : Pos} {T id : String} {r : V -> List V -> Hp -> VK -> Prop}
theorem pe_bm0 (pa : PlainAttrs T) (slot : Slot T name id) (hty : typeOf (.builtin id) = pure (.type "method_descriptor")) (hm : MtR X id r) (ho : PE X o to)
    (hbase : attributeBase o name X.env (eval o X.env) = eval o X.env := by rfl) (hline : (apos.endLine == cpos.line) = true := by rfl) : PE X (.Call (.Attribute o name apos) [] [] cpos) (tBM0 X.K T r to) := by
  intro pins s σ H Q I h
  refine wpAny_Call_method0_late hbase hline (thn (ho pins s σ H _ I h) fun v s1 ⟨x, H1, I1, r1, ty, q1⟩ => ?_)
  obtain ⟨h1, h2⟩ := tyV_is I1 r1 ty
  exact ⟨T, id, pa, slot, hty, h1, h2, Calls.callWith_builtin rfl (PySem.evalArgs_none (hm pins s1 σ H1 x [] v [] Q I1 r1 .nil q1))⟩
theorem ZDE (pa : PlainAttrs T) (slot : Slot T name id) (hty : typeOf (.builtin id) = pure (.type "method_descriptor")) (hm : MtR X id r) (ho : PE X o to) (ha : PA X (e :: es) t)
    (hbase : attributeBase o name X.env (eval o X.env) = eval o X.env := by rfl)
    (hfew : ((backTo cpos (starEach (e :: es) X.env)).all (fun x => !x.1) && (backToKw cpos (keywordEach [] X.env)).all (fun x => x.1.isSome)
      && decide ((e :: es).length + ([] : List Keyword).length + (if ([] : List Keyword).isEmpty then 0 else 1) < 30)) = true := by rfl)
    (hline : (apos.endLine == cpos.line) = true := by rfl) (hs : starEach (e :: es) X.env = (false, eval e X.env) :: starEach es X.env := by rfl) (hplain : (backTo cpos (starEach es X.env)).any (·.1) = false := by rfl) :
    PE X (.Call (.Attribute o name apos) (e :: es) [] cpos) (tBM X.K T r to t) := by
  intro pins s σ H Q I h
  refine wpAny_Call_method_late hbase hfew hline rfl (thn (ho pins s σ H _ I h) fun v s1 ⟨x, H1, I1, r1, ty, q1⟩ => ?_)
  obtain ⟨h1, h2⟩ := tyV_is I1 r1 ty
  refine ⟨T, id, pa, slot, hty, h1, h2, ?_⟩
  have hA := ha cpos pins s1 σ H1 _ I1 q1
  rw [hs] at hA ⊢
  refine Calls.callWith_builtin (by show (false || (backTo cpos (starEach es X.env)).any (·.1)) = false; rw [hplain] <;> rfl) (Calls.evalArgs_plain ?_)
  exact thn hA fun us s2 ⟨vs, H2, I2, r2, q2⟩ => hm pins s2 σ H2 x vs v us Q I2 r1 r2 q2
/- xs.append(e), list.index on a module's tuple .. are MtR facts of 06m -/
end
def MtM (X : Cx) (id : String) (r : V -> List V -> Hp -> VK -> Prop) : Prop :=
  ∀ (pins : List (Addr × Obj)) (s : Shared) (σ : St) (H : Hp) (x : V) (xs : List V) (v : Value) (us : List Value) (Q : VK), Inv X pins σ H s -> RelV x v -> Vals xs us -> r x xs H Q ->
    wpAny (model X.prog X.w) X.A (call (.builtin id) (v :: us)) (EP X pins σ Q) X.xe s
theorem Vals.one : ∀ {x : V} {us : List Value}, Vals [x] us -> ∃ u, us = [u] /\ RelV x u
  | _, _, .cons r .nil => ⟨_, rfl, r⟩
theorem Vals.zero : ∀ {us : List Value}, Vals [] us -> us = []
  | _, .nil => rfl
theorem Vals.rep {xs : List V} {us : List Value} (h : Vals xs us) : ∀ k : Nat, Vals (List.replicate k xs).flatten (List.replicate k us).flatten
  | 0 => .nil
  | k + 1 => by
    rw [yBJ, yBJ, List.flatten_cons, List.flatten_cons]
    exact Vals.append h (Vals.rep h k)
theorem foldl_rep (its : List Value) : ∀ (k : Nat) (acc : List Value),
    List.foldl (fun x1 x2 => x1 ++ x2) acc.toArray (List.replicate k its.toArray) = (acc ++ (List.replicate k its).flatten).toArray
  | 0, acc => by simp
  | k + 1, acc => by
    have e : acc.toArray ++ its.toArray = (acc ++ its).toArray := by simp
    have e2 : (acc ++ its) ++ (List.replicate k its).flatten = acc ++ (List.replicate (k + 1) its).flatten := by
      rw [yBJ, List.flatten_cons, yAI]
    rw [<- e2, <- foldl_rep its k (acc ++ its), <- e, yBJ, List.foldl_cons]
section
variable {X : Cx} {pins : List (Addr × Obj)} {σ : St} {H : Hp} {s : Shared} {l b : Addr} {xs ys zs : List V}
theorem Inv.lset {its its' : List Value} {n : Nat} {f : Array Value -> Array Value} {t' : Nat} (I : Inv X pins σ H s) (hH : H l = some (.lst xs))
    (e : s.heap.get? l = some { cls := .type "list", data := .seq its.toArray n }) (hf : f its.toArray = its'.toArray) (hv : Vals ys its') (hz : ys.length <= sizeLine) :
    Inv X pins σ (upd H l (.lst ys)) { s with heap := s.heap.update l (Obj.mapSeq f), toks := t' } := by
  have q := PySem.IsL.update e f
  rw [hf] at q
  refine I.write (x := l) (e := l) (by rw [hH]; exact trivial) (.inl rfl) (fun b' u hb hu => (Heap.get?_update_other s.heap (Obj.mapSeq f) (Ne.symm hb)).trans hu) ⟨_, q⟩ ?_
  exact ⟨hz, its', _, hv, q⟩
theorem Inv.lnew {its : List Value} {t' : Nat} (I : Inv X pins σ H s) (hv : Vals ys its) (hz : ys.length <= sizeLine) :
    Inv X pins σ (upd H s.heap.objs.size (.lst ys)) { s with heap := s.heap.push { cls := .type "list", data := .seq its.toArray }, toks := t' } :=
  I.laid (fun _ _ q => Heap.get?_push_of_some _ q) (yAA _) ⟨hz, its, 0, hv, Heap.get?_push_size _ rfl⟩
theorem Inv.fresh (I : Inv X pins σ H s) : H s.heap.objs.size = none := I.hok.fresh (yAA _)
theorem Inv.lstM (I : Inv X pins σ H s) (hH : H l = some (.lst xs)) : xs.length <= sizeLine /\ ∃ (its : List Value) (n : Nat), Vals xs its /\ xs.length = its.length /\ s.heap.get? l = some { cls := .type "list", data := .seq its.toArray n } := by
  obtain ⟨z, its, n, r, e⟩ := I.hok l _ hH
  exact ⟨z, its, n, r, r.length, e⟩
theorem notLongL {n : Nat} (h : n <= sizeLine) : Builtin.List.listTooLong n = false := by
  unfold Builtin.List.listTooLong
  exact decide_eq_false (by omega)
end
section
variable {X : Cx}
def rAppend : V -> List V -> Hp -> VK -> Prop := fun x vs H Q => ∃ l xs y, x = .ref l /\ vs = [y] /\ H l = some (.lst xs) /\ xs.length < sizeLine /\ Q .non (upd H l (.lst (xs ++ [y])))
theorem ZBU : MtM X "list.append" rAppend := by
  intro pins s σ H x vs v us Q I rx rv h
  obtain ⟨l, xs, y, rfl, rfl, hH, hz, q⟩ := h
  cases rx
  obtain ⟨u, rfl, ru⟩ := rv.one
  obtain ⟨z, its, n, r, hl, e⟩ := I.lstM hH
  refine call_meets F.slot_list_append ⟨_, e, rfl⟩ F.entry_list_append (F.args_list_append_2 _ _) (PySem.list_append l its.toArray n u (by rw [yAS]; omega)) ⟨e, ?_⟩
  refine ⟨.non, _, I.lset (its' := its ++ [u]) hH e (by simp) (r.append (.cons ru .nil)) ?_, rfl, q⟩
  rw [yAC, yAV]
  omega
def rExtend : V -> List V -> Hp -> VK -> Prop := fun x vs H Q => ∃ l b xs zs, x = .ref l /\ vs = [.ref b] /\ H l = some (.lst xs) /\ H b = some (.lst zs) /\ xs.length + zs.length <= sizeLine /\ Q .non (upd H l (.lst (xs ++ zs)))
theorem mt_extend : MtM X "list.extend" rExtend := by
  intro pins s σ H x vs v us Q I rx rv h
  obtain ⟨l, b, xs, zs, rfl, rfl, hH, hB, hz, q⟩ := h
  cases rx
  obtain ⟨u, rfl, ru⟩ := rv.one
  cases ru
  obtain ⟨z, its, n, r, hl, e⟩ := I.lstM hH
  obtain ⟨z2, its2, n2, r2, hl2, e2⟩ := I.lstM hB
  have hsz : its.toArray.size + its2.toArray.size <= sizeLine := by rw [yAS, yAS]; omega
  have hlong : ¬ (!its.toArray.isEmpty && Builtin.List.listTooLong (its.toArray.size + its2.toArray.size)) = true := by
    rw [notLongL hsz, Bool.and_false]
    exact yAX
  refine call_meets F.slot_list_extend ⟨_, e, rfl⟩ F.entry_list_extend (F.args_list_extend_2 _ _)
    (AutoSeq1.list_extend_list_list_0 l its.toArray n b its2.toArray n2 hlong (by rw [yAS]; omega) (by omega)) ⟨e, e2, ?_⟩
  refine ⟨.non, _, I.lset (its' := its ++ its2) hH e (by simp) (r.append r2) ?_, rfl, q⟩
  rw [yAC]
  omega
def rRep : R2 := fun x y H Q => ∃ l k xs, x = .ref l /\ y = .int k /\ H l = some (.lst xs) /\ -(2 ^ 63) <= k /\ k < 2 ^ 63 /\ xs.length * k.toNat <= sizeLine /\
  ∀ p, H p = none -> Q (.ref p) (upd H p (.lst (List.replicate k.toNat xs).flatten))
theorem len_rep {α : Type} (xs : List α) (k : Nat) : (List.replicate k xs).flatten.length = k * xs.length := by
  induction k with
  | zero => simp
  | succ k ih => rw [yBJ, List.flatten_cons, yAC, ih, Nat.succ_mul, Nat.add_comm]
theorem op_rep : OpR X (binaryOp .Mult) rRep := by
  intro pins s σ H x y v u Q I rx ry h
  obtain ⟨l, k, xs, rfl, rfl, hH, h1, h2, hz, q⟩ := h
  cases rx
  obtain ⟨t, rfl⟩ := ry
  obtain ⟨z, its, n, r, hl, e⟩ := I.lstM hH
  have hlen : its.toArray.size * k.toNat <= sizeLine := by rw [yAS, <- hl]; exact hz
  have hcap : ¬ its.toArray.size * k.toNat > (2 ^ 63 - 1) / 8 := by
    have : (sizeLine : Nat) <= (2 ^ 63 - 1) / 8 := by decide
    omega
  have hfit : ¬ (!Builtin.List.listFitsIndex k) = true := by
    rw [fitsIndex_both h1 h2]
    exact yAX
  have hlong : ¬ Builtin.List.listTooLong (its.toArray.size * k.toNat) = true := by
    rw [notLongL hlen]
    exact yAX
  have hnew : List.foldl (fun x1 x2 => x1 ++ x2) #[] (List.replicate (if its.toArray.isEmpty = true then 0 else k.toNat) its.toArray) = (List.replicate k.toNat its).flatten.toArray := by
    have f0 : ∀ m : Nat, List.foldl (fun x1 x2 => x1 ++ x2) #[] (List.replicate m its.toArray) = (List.replicate m its).flatten.toArray := fun m => by
      have := foldl_rep its m []
      rw [List.nil_append] at this
      exact this
    rw [f0]
    cases its with
    | nil => simp
    | cons a r' => rw [if_neg (by simp)]
  refine wpAny_binaryOp_repeat_ref (T := "list") (U := "int") (by decide) ⟨_, e, rfl⟩ (fun s' => typeIs_int s' k t) noFill_list_mul F.fills_int_mul F.slot_int_rmul repeat_list F.slot_int_index.lookup
    (call_meets F.slot_int_rmul (typeIs_int s k t) F.entry_int_rmul (F.args_int_rmul_2 _ _) (int___rmul___int_list k t l its.toArray n)
      ⟨e, rfl, ⟨_, e, rfl⟩, call_meets F.slot_list_mul ⟨_, e, rfl⟩ F.entry_list_mul (F.args_list_mul_2 _ _) (AutoListH.list___mul___list_int_3 l its.toArray n k t hfit hcap hlong) ⟨e, ?_⟩⟩)
  rw [hnew]
  exact ⟨.ref _, _, I.lnew (t' := s.toks) (r.rep k.toNat) (by rw [len_rep, Nat.mul_comm]; exact hz), rfl, q _ I.fresh⟩
end
section
variable {prog : Program} {w : World} {A : Around} {E : Value -> Shared -> Prop} {s : Shared}
set_option maxRecDepth 100000 in
end
section
variable {X : Cx}
end
end L2
namespace Att
open PySem PySem.W PySem.Calls PyProof.Rows
theorem ints_of_wellAll {P : Params} {h : Heap} : ∀ (ns : List Int) (vs : List Value), WellAll P h vs (ns.map WData.int) -> IntsAre vs ns := by
  intro ns
  induction ns with
  | nil =>
    intro vs w
    rw [List.map_nil] at w
    cases w
    exact .nil
  | cons n ns ih =>
    intro vs w
    rw [yAT] at w
    cases w with
    | cons a b =>
      cases a
      exact .cons _ _ (ih _ b)
theorem script_of {l : OpenLaw} {n : Nat} (hn : l.most = some n) {P : Params} {h : Heap} {args : List WData} {vals : List Value}
    (hpre : l.row.toRowW.claim.pre args = true) (hwl : WellAll P h vals args) :
    ∃ a vs ns, vals = [Value.ref a] /\ args = [WData.list (ns.map WData.int)] /\ h.get? a = some { cls := .type "list", data := .seq vs.toArray } /\ IntsAre vs ns /\ ns.length <= n := by
  have hsh : WShape.hasAll [] args [.list .int] = true := (pre_splitW hpre).1
  have hc : l.pre.holds [] { args := args } = true := (pre_splitW hpre).2
  obtain ⟨d, r, rfl, h1, h2⟩ := hasAllW_cons hsh
  obtain rfl := hasAllW_nil h2
  obtain ⟨xs, rfl, h3⟩ := hasW_list h1
  obtain ⟨ns, rfl⟩ := items_int h3
  have hlen : ns.length <= n := by
    unfold OpenLaw.pre at hc
    have h4 : (WTm.not (.lt (.lit (.int (n : Int))) (.len (.arg 0)))).holds [] { args := [.list (ns.map .int)] } = true := by
      have h4 := (holds_andW hc).1
      rw [hn] at h4
      exact h4
    have h5 := condW_of h4 (w_not (w_lt w_lit (w_len_list (w_arg rfl))))
    rw [yAB] at h5
    refine Nat.le_of_not_lt fun q => ?_
    have q' : (n : Int) < ((ns.length : Nat) : Int) := by omega
    first
      | (rw [decide_eq_true q'] at h5; exact absurd h5 (by decide))
      | (simp at h5; omega)
  cases hwl with
  | cons w1 w2 =>
    cases w2
    cases w1 with
    | list ho hall => exact ⟨_, _, ns, rfl, rfl, ho, ints_of_wellAll ns _ hall, hlen⟩
theorem post_true (l : OpenLaw) (args : List WData) : l.row.toRowW.claim.post args (.bool true) args = true :=
  postW_of (r := l.row.toRowW) (X := (true == true))
    (show WShape.has [] (.bool true) .bool = true by first | rfl | decide | simp [WShape.has, WShape.arms, WShape.armsAll])
    (show (WTm.eq .res (.lit (.bool true))).value [] { args := args, res := some (.bool true), after := args } = some (.bool (true == true)) from w_eq_bool (w_res rfl) w_lit) rfl
theorem attach_call {l : OpenLaw} {n : Nat} {q : Program} {loose : List Str} {XP : (Str -> Option Value) -> Heap -> Prop} {YP : World -> Heap -> Prop} {d : DefRec}
    (hn : l.most = some n) (hdf : d.params.defaults = [])
    (call : ∀ (w : World) (s₀ s₁ : Shared) (mg mb : Str -> Option Value) (fa : Addr) (o : Obj) (pm cd doc : Value) (a : Addr) (vs : List Value) (ns : List Int),
      Ground q loose [] XP w s₀ mg mb s₁.heap -> YP w s₁.heap ->
      s₁.heap.get? fa = some o -> o.data = .func (docDef d.name d.params d.body d.scope pm cd doc) -> s₁.heap.CodeRec cd d.name -> mg d.name = some (.ref fa) ->
      s₁.heap.get? a = some { cls := .type "list", data := .seq vs.toArray } -> IntsAre vs ns -> ns.length <= n -> s₁.gens = #[] ->
      codeAny (model l.prog w) callerA (.call (.ref fa) ⟨[.ref a], []⟩) (fun r s' => r = .ok (.ret (.bool true)) /\ OldK s₁.heap s'.heap /\ s'.os = s₁.os /\ AllBare s'.gens) s₁) :
    WalkO q loose XP YP l.row.toRowW d [] (fun f vs => PySem.call f vs) := by
  intro w s₀ s₁ mg mb G Y fa o pm cd doc dV kV ho hd hcd hD hmg hg args vals as hpre hlay hrd hwl hlo
  obtain rfl : dV = .none := Dflts.none hD hdf
  obtain rfl : kV = .none := Dflts.noKw hD
  obtain ⟨a, vs, ns, rfl, rfl, hobj, hints, hlen⟩ := script_of hn hpre hwl
  refine enter_call (codeAny_mono (call w s₀ s₁ mg mb fa o pm cd doc a vs ns G Y ho (fd_plain hd) hcd hmg hobj hints hlen hg) fun r s' hq => ?_)
  obtain ⟨rfl, h2, h3, h4⟩ := hq
  exact ⟨.inl ⟨.bool true, .bool true, [], rfl, fun _ => rfl, .bool true, post_true l _, fun _ => ⟨List.Pairwise.nil, fun _ hm => (nomatch hm)⟩⟩, h2, h3, h4⟩
section
variable {prog : Program} {w : World} {A : Around} {E : Value -> Shared -> Prop} {s : Shared} {K : Frag}
end
end Att
namespace L2
open PySem PySem.Spec PyProof.Rows
theorem ZB3 : ∀ {vs : List Value} {ns : List Int}, IntsAre vs ns -> Vals (ns.map V.int) vs
  | _, _, .nil => .nil
  | _, _, .cons n t h => .cons ⟨t, rfl⟩ (ZB3 h)
end L2
/- THE LAST THEOREM (shape; LID, My.* are yours):
   My.Adr: a structure of the addresses that your layer names (classes, functions); My.Txt K t: a structure (Prop) of the equations over K;
   My.txt_mk : {K} {implicit addresses ..} (e1 : nsIn K mainGlobals "law" = some (some (.ref f))) (e2 : K.lookup f = some ⟨oc, od, .func (fnOf "law" "law" params body scope dV kV doc pm an cdv ct), sl⟩) (e3 : codeIn K cdv "law" = true) .. : ∃ t, My.Txt K t
set_option maxRecDepth 100000 in
set_option maxHeartbeats 0 in
theorem PySem.Challenge.cw_LID_holds : PySem.Challenge.rw_LID.Holds := by
  w_on; o_law; k_head; (case hw => w_witness2)
  k_fill
  refine L2.walk_of (l := PySem.Challenge.rw_LID) (n := 63) (k := 40) (x := "script") (CX := fun w => ..) (sp := fun _ => My.sp_law) rfl (by decide) rfl ⟨rfl, by decide, by decide⟩ (fun w h Y => PySem.W.kIn_of Y) ?F ?S ?C
  case F =>
    intro w mg fa h KX G hmg
    have T : ∃ t, My.Txt (L2.KOf KX) t := by
      dsimp only [L2.KOf]                          -- K must stand as «<heap const> w.params» for k_is
      refine' My.txt_mk ?e1 ?e2 ?e3 ..
      (case e1 => PySem.W.k_is)                    -- in the order: a name -> its address -> its object -> its parts
      (case e2 => PySem.W.k_is)
      ..
    obtain ⟨t, T⟩ := T
    have e0 := hmg.symm.trans (PySem.W.mg_of KX G T.law)
    cases e0                                       -- fa is the law's own address
    exact ⟨_, fun s u => .of_eq rfl, fun base kb nb => My.law_fn T kb nb⟩     -- if «.of_eq rfl» comes too early: refine' ⟨_, ?b, fun base kb nb => My.law_fn T kb nb⟩; exact fun s u => .of_eq rfl
  case S => exact fun w H a ns hl hO hS => ..
  case C => exact ..
(the tactic k_is has no namespace: write k_is) -/
namespace L2
open PySem PySem.Spec PyProof.Rows
def ZBK (s : Stmt) (j : Nat) : Stmt := match s with
  | .ClassDef _ _ _ body _ _ _ _ _ _ _ => body.getD j (.Pass ⟨0, 0, 0, 0⟩)
  | _ => .Pass ⟨0, 0, 0, 0⟩
def ZAO (s : Stmt) : Arguments := match s with
  | .FunctionDef _ a _ _ _ _ _ _ _ _ => a
  | _ => { posonlyargs := [], args := [], vararg := none, kwonlyargs := [], kw_defaults := [], kwarg := none, defaults := [] }
def ZAN (s : Stmt) : List Stmt := match s with
  | .FunctionDef _ _ b _ _ _ _ _ _ _ => b
  | _ => []
def ZAB (s : Stmt) : Scope := match s with
  | .FunctionDef _ _ _ _ _ _ sc _ _ _ => sc
  | _ => { kind := .function, names := [], isGenerator := false, isCoroutine := false }
abbrev CX0 : CXT := fun _ _ _ _ _ _ => False
abbrev E0 : XK := fun _ _ _ => False
theorem ZAi {X : Cx} : ZBb CX0 X E0 := fun _ _ _ _ _ _ _ h => h.elim
structure Fun (K : W.Frag) (x qual : Str) (st : Stmt) (f : Addr) (fd : FuncData) : Prop where
  ex : ∃ (oc : Value) (od : Option Addr) (kV doc pm : Value) (an : Option Addr) (cdv ct : Value) (osl : Array (Option Value)),
    fd = W.fnOf x qual (ZAO st) (ZAN st) (ZAB st) .none kV doc pm an cdv ct /\ K.lookup f = some ⟨oc, od, .func fd, osl⟩ /\ W.codeIn K cdv qual = true
  kp : W.keepIn K (.ref f) = true
section
variable {P : Program} {w : World} {K : W.Frag} {mg : Str -> Option Value} {base : Heap}
theorem Fun.ok {x qual : Str} {st : Stmt} {f : Addr} {fd : FuncData} {N ps : List Str} {k : Nat} {sp : Sp} (F : Fun K x qual st f fd) (S : FnScope N ps (ZAB st)) (len : ∀ vs H Q E, sp vs H Q E -> vs.length = ps.length)
    (hbody : ∀ (cdv : Value) (A : Around) (outer : List Env) (s : Shared) (H : Hp) (vs : List V) (Q : VK) (E : XK), Room k (A.deeper (envOfC qual (ZAB st) s.heap.objs.size f cdv)) -> sp vs H Q E ->
      ∃ t, PSs (cxOf CX0 P w K mg base N qual (ZAB st) f cdv A outer s H E).nox (ZAN st) t /\ t { nx := fun _ H' => Q .non H', rt := Q } (start N vs) H) : FnOk P w K mg base CX0 (k + 1) f fd ps sp := by
  obtain ⟨oc, od, kV, doc, pm, an, cdv, ct, osl, rfl, lk, hcd⟩ := F.ex
  refine fn_of lk hcd S len fun A outer s H vs Q E hr hsp => ?_
  obtain ⟨t, h, q⟩ := hbody cdv A outer s H vs Q E hr hsp
  exact ⟨t, h.nox, q⟩
theorem Fun.binds {x qual : Str} {st : Stmt} {f : Addr} {fd : FuncData} {ps : List Str} (F : Fun K x qual st f fd)
    (h : ∀ (kV doc pm : Value) (an : Option Addr) (cdv ct : Value) (us : List Value), us.length = ps.length -> bindArgs (W.fnOf x qual (ZAO st) (ZAN st) (ZAB st) .none kV doc pm an cdv ct) ⟨us, []⟩ = pure (ps.zip us)) : Binds K fd ps [] := by
  obtain ⟨oc, od, kV, doc, pm, an, cdv, ct, osl, rfl, lk, hcd⟩ := F.ex
  exact .all (h kV doc pm an cdv ct)
theorem ZAs {x qual : Str} {st : Stmt} {f : Addr} {oc : Value} {od an : Option Addr} {osl : Array (Option Value)} {kV doc pm cdv ct : Value} (l : K.lookup f = some ⟨oc, od, .func (W.fnOf x qual (ZAO st) (ZAN st) (ZAB st) .none kV doc pm an cdv ct), osl⟩)
    (c : W.codeIn K cdv qual = true) (k : W.keepIn K (.ref f) = true) : Fun K x qual st f (W.fnOf x qual (ZAO st) (ZAN st) (ZAB st) .none kV doc pm an cdv ct) := ⟨⟨oc, od, kV, doc, pm, an, cdv, ct, osl, rfl, l, c⟩, k⟩
end
theorem ZBd {n : Nat} (h : n <= 1000) : n < sizeLine := Nat.lt_of_le_of_lt h (by decide)
section
variable {X : Cx}
theorem pv (i : Nat) {x : Str} {pos : Pos} (hN : X.N[i]? = some x := by rfl) (hv : Vis X.env.scope x := by first | exact Or.inl rfl | exact Or.inr (Or.inl rfl) | exact Or.inr (Or.inr rfl)) (hd : (x == ("__debug__" : Str)) = false := by decide)
    (hcd : (x == ("__classdict__" : Str)) = false := by decide) : PE X (.Name x pos) (tVar i) := pe_var hN hv hd hcd
end
def Same (H H' : Hp) : Prop := ∀ b o, H b = some o -> H' b = some o
theorem Same.refl (H : Hp) : Same H H := fun _ _ h => h
theorem Same.trans {H H1 H2 : Hp} (a : Same H H1) (b : Same H1 H2) : Same H H2 := fun c o h => b c o (a c o h)
theorem Same.free {H H' : Hp} (e : Same H H') {l : Addr} (h : H' l = Option.none) : H l = Option.none := by
  cases q : H l with
  | none => rfl
  | some o =>
    rw [e l o q] at h
    cases h
theorem Same.seq {K : W.Frag} {H H' : Hp} {a : Addr} {xs : List V} (e : Same H H') (h : SqL K H a xs) : SqL K H' a xs := by
  rcases h with (h | ⟨o, h⟩) | h
  . exact .inl (.inl (e _ _ h))
  . exact .inl (.inr ⟨o, e _ _ h⟩)
  . exact .inr h
end L2
set_option maxHeartbeats 4000000
namespace L2
open PySem PySem.Spec PyProof.Rows
theorem natlt {a b : Addr} (h : a < b) : @LT.lt Nat _ a b := h
theorem ZCi {a b : Addr} {n : Nat} (h : a < n) (k : n <= b) : a ≠ b := yAN (yAQ h k)
theorem ZAy : ∀ (names : List (Str × NameKind)) (n : Nat) (acc : List (Str × Addr)), cellsFrom n names acc = cellsFrom n names [] ++ acc
  | [], _, _ => rfl
  | (x, k) :: r, n, acc => by
    unfold cellsFrom
    split
    . rw [ZAy r (n + 1) ((x, n) :: acc), ZAy r (n + 1) [(x, n)], yAI]; rfl
    . exact ZAy r n acc
theorem ZBZ : ∀ (names : List (Str × NameKind)) (n : Nat) (acc : List (Str × Addr)) (y : Str) (c : Addr), (y, c) ∈ cellsFrom n names acc -> (y, c) ∈ acc ∨ ((y, NameKind.cell) ∈ names /\ n <= c)
  | [], _, _, _, _, h => .inl h
  | (x, k) :: r, n, acc, y, c, h => by
    unfold cellsFrom at h
    split at h
    . rename_i hk
      have hk' : k = .cell := by simpa using hk
      rcases ZBZ r (n + 1) _ y c h with h | ⟨h, l⟩
      . rcases yAD.mp h with e | h
        . cases e; subst hk'; exact .inr ⟨yAE, yAA _⟩
        . exact .inl h
      . exact .inr ⟨yAJ _ h, Nat.le_of_succ_le l⟩
    . rcases ZBZ r n _ y c h with h | ⟨h, l⟩
      . exact .inl h
      . exact .inr ⟨yAJ _ h, l⟩
def closFrom (cells : List (Str × Addr)) : List (Str × NameKind) -> List (Str × Addr) -> List (Str × Addr)
  | [], acc => acc
  | (x, k) :: r, acc => if k == .free then closFrom cells r ((x, (cells.lookup x).getD 0) :: acc) else closFrom cells r acc
theorem ZBM {cells : List (Str × Addr)} : ∀ (names : List (Str × NameKind)) (acc : List (Str × Addr)) (y : Str) (c : Addr), (y, c) ∈ closFrom cells names acc -> (y, c) ∈ acc ∨ ((y, NameKind.free) ∈ names /\ c = (cells.lookup y).getD 0)
  | [], _, _, _, h => .inl h
  | (x, k) :: r, acc, y, c, h => by
    unfold closFrom at h
    split at h
    . rename_i hk
      have hk' : k = .free := by simpa using hk
      rcases ZBM r _ y c h with h | ⟨h, l⟩
      . rcases yAD.mp h with e | h
        . cases e; subst hk'; exact .inr ⟨yAE, rfl⟩
        . exact .inl h
      . exact .inr ⟨yAJ _ h, l⟩
    . rcases ZBM r _ y c h with h | ⟨h, l⟩
      . exact .inl h
      . exact .inr ⟨yAJ _ h, l⟩
theorem ZBi {cells : List (Str × Addr)} : ∀ (names : List (Str × NameKind)) (acc : List (Str × Addr)) (p : Str × Addr), p ∈ acc -> p ∈ closFrom cells names acc
  | [], _, _, h => h
  | (x, k) :: r, acc, p, h => by
    unfold closFrom
    split
    . exact ZBi r _ p (yAJ _ h)
    . exact ZBi r _ p h
theorem ZBN {cells : List (Str × Addr)} : ∀ (names : List (Str × NameKind)) (acc : List (Str × Addr)) (y : Str), (y, NameKind.free) ∈ names -> (y, (cells.lookup y).getD 0) ∈ closFrom cells names acc
  | [], _, _, h => nomatch h
  | (x, k) :: r, acc, y, h => by
    unfold closFrom
    rcases yAD.mp h with e | h
    . cases e
      rw [if_pos (by rfl)]
      exact ZBi r _ _ yAE
    . split
      . exact ZBN r _ y h
      . exact ZBN r _ y h
theorem ZBG {α : Type} : ∀ {l : List (Str × α)} {y : Str} {c : α}, (y, c) ∈ l -> ∃ c', l.lookup y = some c'
  | (k, v) :: r, y, c, h => by
    rw [yBN]
    cases hb : y == k with
    | true => exact ⟨v, rfl⟩
    | false =>
      rcases yAD.mp h with e | h
      . cases e; rw [beq_self_eq_true] at hb; cases hb
      . exact ZBG h
theorem ZBY {env : Env} (f : Str × NameKind -> List (Str × Addr) -> Sem (ForInStep (List (Str × Addr))))
    (hf : ∀ name kind cs, f (name, kind) cs = if kind == .free then (do let a <- cellOf env name; pure (.yield ((name, a) :: cs))) else pure (.yield cs)) :
    ∀ (names : List (Str × NameKind)) (acc : List (Str × Addr)), (∀ x, (x, NameKind.free) ∈ names -> ∃ c, env.cells.lookup x = some c) -> forIn names acc f = (pure (closFrom env.cells names acc) : Sem (List (Str × Addr)))
  | [], acc, _ => by rw [List.forIn_nil]; rfl
  | (x, k) :: r, acc, h => by
    have hr : ∀ x, (x, NameKind.free) ∈ r -> ∃ c, env.cells.lookup x = some c := fun y hy => h y (yAJ _ hy)
    rw [List.forIn_cons, hf]
    unfold closFrom
    split
    . rename_i hk
      have hk' : k = .free := by simpa using hk
      subst hk'
      obtain ⟨c, hc⟩ := h x yAE
      have e : cellOf env x = (pure c : Sem Addr) := by unfold cellOf; rw [hc]
      rw [e, hc]
      exact ZBY f hf r ((x, c) :: acc) hr
    . exact ZBY f hf r acc hr
theorem closureFor_eq {scope : Scope} {env : Env} (h : ∀ x, (x, NameKind.free) ∈ scope.names -> ∃ c, env.cells.lookup x = some c) : closureFor scope env = pure (closFrom env.cells scope.names []) := by
  simp only [closureFor]
  rw [ZBY _ (fun name kind cs => by cases hk : kind == NameKind.free <;> simp [hk]) scope.names [] h]
  rfl
section
variable {M : Model} {A : Around} {E : Value -> Shared -> Prop} {s : Shared}
theorem newEnv_comp {scope : Scope} {globals : Addr} {cl : List (Str × Addr)} {qual : Str} {env : Env} {Q : Env -> Shared -> Prop}
    (hQ : Q { scope := scope, locals := s.heap.objs.size, globals := globals, cells := cellsFrom (s.heap.objs.size + 1) scope.names cl, qual := qual, func := none, code := env.code, frame := env.frame, builtins := env.builtins }
      { s with heap := pushCells (s.heap.push { cls := .type "dict", data := .dict #[] }) scope.names }) :
    wpAny M A (newFunctionEnv scope globals cl [] qual none .none (some env)) Q E s := by
  simp only [newFunctionEnv, Option.isSome_some, if_true]
  refine wpAny_bind (wpAny_alloc ?_)
  refine wpAny_bind (wpAny_layCells _ (fun name kind cells => by cases hkc : kind == NameKind.cell <;> simp [hkc]) _ _ _ _ ?_)
  rw [show ({ s with heap := s.heap.push { cls := .type "dict", data := .dict #[] } } : Shared).heap.objs.size = s.heap.objs.size + 1 from Heap.size_push ..]
  rw [List.forIn_nil]
  exact wpAny_bind (wpAny_pure (wpAny_pure hQ))
end
theorem relabel_lookup {scope : Scope} {env : Env} (x : Str) : (relabel scope env).names.lookup x = (scope.names.lookup x).map fun k => if (k == .free && env.scope.kind == .function && env.kindOf x == some .cell) = true then NameKind.cell else k := by
  unfold relabel
  dsimp only
  generalize scope.names = names
  induction names with
  | nil => rfl
  | cons p r ih =>
    obtain ⟨n, k⟩ := p
    rw [yAT, yBN (as := r)]
    cases hx : x == n with
    | true =>
      have e : x = n := beq_iff_eq.mp hx
      subst e
      by_cases hc : (k == NameKind.free && env.scope.kind == .function && env.kindOf x == some .cell) = true
      . simp only [hc, if_true, yBN, hx, Option.map_some]
      . simp only [hc, Bool.false_eq_true, if_false, yBN, hx, Option.map_some]
    | false =>
      by_cases hc : (k == NameKind.free && env.scope.kind == .function && env.kindOf n == some .cell) = true
      . simp only [hc, if_true, yBN, hx]; exact ih
      . simp only [hc, Bool.false_eq_true, if_false, yBN, hx]; exact ih
def ZC8 (N : List Str) (osc : Scope) (k : Nat) (js : List Nat) (N' : List Str) (sc : Scope) : Bool :=
  decide (sc.kind = .function) && decide (N'.length = k + js.length) && decide N'.Nodup &&
  sc.names.all (fun p => decide (sc.names.lookup p.1 = some p.2) && (decide (p.2 ≠ .free) || decide (osc.names.lookup p.1 = some .cell) || decide (osc.names.lookup p.1 = some .free))) &&
  (List.range js.length).all (fun i => decide (js[i]?.bind (fun j => N[j]?) = N'[k + i]?) && decide ((N'[k + i]?).bind (fun y => sc.names.lookup y) = some .free))
structure CmpOk (N : List Str) (osc : Scope) (k : Nat) (js : List Nat) (N' : List Str) (sc : Scope) : Prop where
  kind : sc.kind = .function
  len : N'.length = k + js.length
  nd : N'.Nodup
  look : ∀ p ∈ sc.names, sc.names.lookup p.1 = some p.2
  fr : ∀ y, (y, NameKind.free) ∈ sc.names -> osc.names.lookup y = some .cell ∨ osc.names.lookup y = some .free
  js : ∀ i j, js[i]? = some j -> ∃ y, N'[k + i]? = some y /\ N[j]? = some y /\ sc.names.lookup y = some .free
theorem cmpOk {N : List Str} {osc : Scope} {k : Nat} {js : List Nat} {N' : List Str} {sc : Scope} (h : ZC8 N osc k js N' sc = true) : CmpOk N osc k js N' sc := by
  unfold ZC8 at h
  simp only [Bool.and_eq_true, decide_eq_true_eq, List.all_eq_true, Bool.or_eq_true, List.mem_range] at h
  obtain ⟨⟨⟨⟨h1, h2⟩, h3⟩, h4⟩, h5⟩ := h
  refine ⟨h1, h2, h3, fun p hp => (h4 p hp).1, fun y hy => ?_, fun i j hj => ?_⟩
  . rcases (h4 _ hy).2 with (z | z) | z
    . exact absurd rfl z
    . exact .inl z
    . exact .inr z
  . have hi : i < js.length := (yAG.mp hj).1
    obtain ⟨a, b⟩ := h5 i hi
    rw [hj] at a
    cases e : N'[k + i]? with
    | none => rw [e] at b; cases b
    | some y =>
      rw [e] at a b
      exact ⟨y, rfl, a, b⟩
def ZC7 (scope : Scope) (cl : List (Str × Addr)) (C : Addr) (env : Env) : Env :=
  { scope := relabel scope env, locals := C, globals := env.globals, cells := cellsFrom (C + 1) scope.names cl, qual := env.qual, func := none, code := env.code, frame := env.frame, builtins := env.builtins }
def ZBs (X : Cx) (N' : List Str) (scope : Scope) (C : Addr) (fp : List Addr) (s2 : Shared) (H2 : Hp) : Cx where
  prog := X.prog
  w := X.w
  K := X.K
  mg := X.mg
  base := X.base
  A := X.A
  N := N'
  s₀ := s2
  H₀ := H2
  env := ZC7 scope (closFrom X.env.cells scope.names []) C X.env
  outer := X.stack
  stack := X.stack
  ex := fp
  fn := fun x => decide (scope.names.lookup x = some .cell)
  calm := X.calm
  pn := []
  xe := fun _ _ => False
def up (k : Nat) (js : List Nat) (σ : St) : St := List.replicate k none ++ js.map fun j => (σ[j]?).getD none
section
variable {X : Cx} {pins : List (Addr × Obj)} {σ : St} {H : Hp} {s2 : Shared} {k : Nat} {js : List Nat} {N' : List Str} {scope : Scope} {fp : List Addr}
theorem comp_inv (hc : CmpOk X.N X.env.scope k js N' scope) (I : Inv X pins σ H s2) (hfp : ∀ b ∈ fp, FpOk X pins H b) (hlt : ∀ b ∈ fp, b < s2.heap.objs.size) {h3 : Heap} (hz : h3.objs.size = s2.heap.objs.size + 1) (hk3 : ∀ b o, s2.heap.get? b = some o -> h3.get? b = some o) :
    Inv (ZBs X N' scope (s2.heap.objs.size + 1) fp s2 H) [] (up k js σ) H { s2 with heap := pushCells (h3.push { cls := .type "dict", data := .dict #[] }) scope.names } := by
  have frLook : ∀ y, (y, NameKind.free) ∈ scope.names -> ∃ c, X.env.cells.lookup y = some c := fun y hy => I.ok.has y (hc.fr y hy)
  have ok0 := cellsFrom_ok scope.names (h3.push { cls := .type "dict", data := .dict #[] }) (s2.heap.objs.size + 2) [] ⟨fun _ _ hm => (nomatch hm), List.Pairwise.nil⟩ (by rw [Heap.size_push, hz]; exact yAA _)
  rw [Heap.size_push, hz] at ok0
  -- the cells of the block
  have parts : ∀ y c, (ZC7 scope (closFrom X.env.cells scope.names []) (s2.heap.objs.size + 1) X.env).cells.lookup y = some c ->
      ((y, c) ∈ cellsFrom (s2.heap.objs.size + 2) scope.names [] /\ (y, NameKind.cell) ∈ scope.names /\ s2.heap.objs.size + 2 <= c) ∨ ((y, NameKind.free) ∈ scope.names /\ X.env.cells.lookup y = some c) := fun y c e => by
    have m := PySem.mem_of_lookup e
    change (y, c) ∈ cellsFrom (s2.heap.objs.size + 1 + 1) scope.names _ at m
    rw [ZAy] at m
    rcases yAU.mp m with m | m
    . rcases ZBZ _ _ _ _ _ m with z | ⟨z, l⟩
      . cases z
      . exact .inl ⟨m, z, l⟩
    . rcases ZBM _ _ _ _ m with z | ⟨z, l⟩
      . cases z
      . obtain ⟨c', e'⟩ := frLook y z
        rw [e'] at l
        exact .inr ⟨z, by rw [e']; exact congrArg some l.symm⟩
  have old : ∀ y c, X.env.cells.lookup y = some c -> c < s2.heap.objs.size := fun y c e => by
    obtain ⟨v, q⟩ := I.cell y c e
    exact q.lt
  have freeAt : ∀ y, (y, NameKind.free) ∈ scope.names -> ∀ c, X.env.cells.lookup y = some c -> (ZC7 scope (closFrom X.env.cells scope.names []) (s2.heap.objs.size + 1) X.env).cells.lookup y = some c := fun y hy c e => by
    have m : (y, c) ∈ cellsFrom (s2.heap.objs.size + 1 + 1) scope.names (closFrom X.env.cells scope.names []) := by
      rw [ZAy]
      have q := ZBN (cells := X.env.cells) scope.names [] y hy
      rw [e] at q
      exact yBE _ q
    obtain ⟨c', q⟩ := ZBG m
    rcases parts y c' q with ⟨_, z, _⟩ | ⟨_, z⟩
    . have z1 := hc.look _ z
      have z2 := hc.look _ hy
      rw [z1] at z2
      cases z2
    . rw [e] at z
      cases z
      exact q
  have keepAll : ∀ b o, s2.heap.get? b = some o -> (pushCells (h3.push { cls := .type "dict", data := .dict #[] }) scope.names).get? b = some o := fun b o e => pushCells_keeps _ _ b o (Heap.get?_push_of_some _ (hk3 b o e))
  refine ⟨⟨I.ok.mod, hc.kind, I.ok.glob, I.ok.blt, yAY _, fun y z c h1 h2 => ?_, fun y hy => ?_, fun y c h1 h2 => ?_, I.ok.hd, I.ok.frames, .inl rfl, fun b hb => ⟨?_, fun y c e => ?_⟩, I.bs, yAK I.ok.bsz I.sz, fun b o e hb => ?_, fun b hb hs => ?_, I.stack, I.stkFree⟩,
    rfl, I.bare, Un.kept keepAll, ⟨fun _ => none, ?_, fun i y v e1 e2 e3 => ?_⟩, fun y c e => ?_, I.hok.fresh (yAY _), fun y c e => ?_, fun p hp => absurd (show p ∈ ([] : List (Addr × Obj)) from hp) (by simp), I.hok.kept keepAll, ?_⟩
  . -- inj
    rcases parts y c h1 with ⟨a, _, l⟩ | ⟨_, a⟩ <;> rcases parts z c h2 with ⟨b, _, l'⟩ | ⟨_, b⟩
    . exact name_of_addr ok0.apart a b
    . have := natlt (old z c b); omega
    . have := natlt (old y c a); omega
    . exact I.ok.inj y z c a b
  . -- has
    have hy' : (relabel scope X.env).names.lookup y = some .cell ∨ (relabel scope X.env).names.lookup y = some .free := hy
    rw [relabel_lookup] at hy'
    have q : scope.names.lookup y = some .cell ∨ scope.names.lookup y = some .free := by
      cases e : scope.names.lookup y with
      | none => rw [e] at hy'; rcases hy' with z | z <;> cases z
      | some kk =>
        rw [e] at hy'
        cases kk <;> first | exact .inl rfl | exact .inr rfl | (rcases hy' with z | z <;> simp at z)
    rcases q with q | q
    . obtain ⟨c, e⟩ := ZCQ (n := s2.heap.objs.size + 1 + 1) q
      have m : (y, c) ∈ cellsFrom (s2.heap.objs.size + 1 + 1) scope.names (closFrom X.env.cells scope.names []) := by
        rw [ZAy]
        exact List.mem_append_left _ (PySem.mem_of_lookup e)
      exact ZBG m
    . have m := PySem.mem_of_lookup q
      obtain ⟨c, e⟩ := frLook y m
      exact ⟨c, freeAt y m c e⟩
  . -- cab
    have h1' : scope.names.lookup y = some .cell := of_decide_eq_true h1
    rcases parts y c h2 with ⟨_, _, l⟩ | ⟨z, _⟩
    . show s2.heap.objs.size <= c
      omega
    . have := hc.look _ z
      rw [h1'] at this
      cases this
  . -- an iterator is not the frame
    exact ZCi (hlt b hb) (yAY _)
  . rcases parts y c e with ⟨_, _, l⟩ | ⟨_, z⟩
    . exact (ZCi (hlt b hb) (yAK (Nat.le_add_right _ 2) l)).symm
    . exact (hfp b hb).2.2.2.2.1 y c z
  . -- noex
    rcases (hfp b hb).2.2.2.1 with z | z
    . exact I.ok.noex b o e z
    . exact absurd (yAQ (Heap.lt_size e) (yAK I.ok.bsz z)) (yBR _)
  . -- exfs
    rcases yAD.mp (I.stkSub b hs) with z | z
    . exact (hfp b hb).2.1 z
    . exact (hfp b hb).2.2.1 z
  . -- the frame's map
    have q := (Heap.Ns.new h3 (.type "dict")).keeps (pushCells_keeps scope.names _)
    rw [hz] at q
    exact q
  . -- what is captured
    unfold up at e2
    have hik : k <= i := by
      by_cases hi : i < k
      . rw [yBH (by simpa using hi), List.getElem?_replicate] at e2
        rw [if_pos hi] at e2
        cases e2
      . omega
    rw [yBG (by simpa using hik), yCB, yAR] at e2
    cases ej : js[i - k]? with
    | none => rw [ej] at e2; cases e2
    | some j =>
      rw [ej] at e2
      have e2' : (σ[j]?).getD none = some v := Option.some.inj e2
      have e4 : σ[j]? = some (some v) := by
        cases q : σ[j]? with
        | none => rw [q] at e2'; cases e2'
        | some z => rw [q] at e2'; exact congrArg some e2'
      obtain ⟨y', n1, n2, n3⟩ := hc.js _ _ ej
      rw [Nat.add_sub_cancel' hik] at n1
      have n0 : N'[i]? = some y := e1
      rw [n1] at n0
      cases n0
      have hm := PySem.mem_of_lookup n3
      have hvis : Vis X.env.scope y := .inr (hc.fr y hm)
      obtain ⟨m, hn, hl⟩ := I.loc
      obtain ⟨u, r, l⟩ := hl j y v n2 e4 hvis
      refine ⟨u, r, ?_⟩
      rcases l with ⟨kk, _⟩ | ⟨kk, c, ec, ic⟩
      . have kk' : X.env.scope.names.lookup y = some .local := kk
        rcases hc.fr y hm with z | z <;> (rw [kk'] at z; cases z)
      . refine .inr ⟨?_, c, freeAt y hm c ec, ic.keeps keepAll⟩
        show (relabel scope X.env).names.lookup y = some .cell ∨ (relabel scope X.env).names.lookup y = some .free
        rw [relabel_lookup, n3]
        simp only [Option.map_some]
        split
        . exact .inl rfl
        . exact .inr rfl
  . -- cells are there
    rcases parts y c e with ⟨a, _, _⟩ | ⟨_, a⟩
    . exact ⟨none, (ok0.empty y c a).1⟩
    . obtain ⟨v, q⟩ := I.cell y c a
      exact ⟨v, q.keeps keepAll⟩
  . rcases parts y c e with ⟨_, _, l⟩ | ⟨_, a⟩
    . exact I.hok.fresh (by omega)
    . exact I.freeC y c a
  . unfold up
    show _ = N'.length
    rw [yAC, yCB, yAB, hc.len]
theorem comp_end {σ' : St} {H' : Hp} {s' : Shared} {C D : Addr} {its : List Value} {n : Nat} {ys : List V} (I : Inv X pins σ H s2) (hfp : ∀ b ∈ fp, FpOk X pins H b) (hC : s2.heap.objs.size <= C) (hD : s2.heap.objs.size <= D) (hDC : D ≠ C)
    (I' : Inv (ZBs X N' scope C fp s2 H) [(D, { cls := .type "list", data := .seq its.toArray n })] σ' H' s') (hv : Vals ys its) (hz : ys.length <= sizeLine) :
    H' D = none /\ ∀ h', Heap.SameBut C s'.heap h' -> Inv X pins σ (upd H' D (.lst ys)) { s' with heap := h' } := by
  obtain ⟨eD, nD, _, _, _⟩ := I'.pin (D, { cls := .type "list", data := .seq its.toArray n }) (yBE _ yAE)
  dsimp only at eD nD
  have nC : H' C = none := I'.free
  refine ⟨nD, fun h' hs => ?_⟩
  have neC : ∀ b o, s2.heap.get? b = some o -> b ≠ C := fun b o e => ZCi (Heap.lt_size e) hC
  have neD : ∀ b o, s2.heap.get? b = some o -> b ≠ D := fun b o e => ZCi (Heap.lt_size e) hD
  have tr : ∀ b u, H' b = some u -> b ≠ D := fun b u e z => by rw [z, nD] at e; cases e
  have trC : ∀ b u, H' b = some u -> b ≠ C := fun b u e z => by rw [z, nC] at e; cases e
  have B := I'.base
  refine I.call' (s' := { s' with heap := h' }) (ch := fp) I'.os ⟨fun b o e nn hb hx => ?_, fun b o e nn hb hx => ?_, fun b o e nn hx => ?_, fun b o e hx => ?_, fun b xs e => ?_, fun b o u e => ?_, fun b ps e => ?_⟩ (fun b u e => ?_) I'.bare fun b hb => ?_
  . exact (hs.2 b (neC b o e)).trans (B.keep b o e nn hb hx)
  . obtain ⟨sl, q⟩ := B.slot b o e nn hb hx
    exact ⟨sl, (hs.2 b (neC b o e)).trans q⟩
  . rw [ZAI (neD b o e)]
    exact B.free b o e nn hx
  . obtain ⟨o', q⟩ := B.there b o e hx
    exact ⟨o', (hs.2 b (neC b o e)).trans q⟩
  . have q := B.tups b xs e
    rw [ZAI (tr b _ q)]
    exact q
  . have q := B.frzs b o u e
    rw [ZAI (tr b _ q)]
    exact q
  . obtain ⟨more, q⟩ := B.tbls b ps e
    exact ⟨more, by rw [ZAI (tr b _ q)]; exact q⟩
  . by_cases hb : b = D
    . subst hb
      rw [ZAF] at e
      cases e
      exact ⟨hz, its, n, hv, (hs.2 b hDC).trans eD⟩
    . rw [ZAI hb] at e
      refine (I'.hok b u e).stay (fun c v hcc q => (hs.2 c ?_).trans q) (fun c q => by rw [ZAI (tr c _ q)]; exact q) fun c xs q => by rw [ZAI (tr c _ q)]; exact q
      rcases hcc with rfl | hcc
      . exact trC c _ e
      . exact trC c _ hcc
  . obtain ⟨_, f1, _, f3, f4, f5⟩ := hfp b hb
    exact ⟨f3, f1, f4, f5⟩
end
section
variable {prog : Program} {w : World} {A : Around} {R : Result -> Shared -> Prop} {s : Shared}
theorem codeAny_compLoop_any {elt target iter : Expr} {ifs : List Expr} {scope : Scope} {pos : Pos} {it acc : Value} {env : Env} (I : Nat -> Shared -> Prop)
    (turn : ∀ n s, I n s -> wpAny (model prog w) A (pyNext it) (fun r s₁ => match r with
      | none => R (.ok .next) s₁
      | some v => wpAny (model prog w) A (letOwnedTupleGo target it v) (fun _ s₁' => wpAny (model prog w) A (assign target env v) (fun _ s₂ =>
          wpAny (model prog w) A (forIn ifs true fun c r => if r = true then do let ok <- isTrue c env (eval c env); pure (ForInStep.yield ok) else pure (ForInStep.yield r)) (fun ok s₃ =>
            if ok = true then wpAny (model prog w) A (eval elt env) (fun x s₄ =>
              wpAny (model prog w) A (call (.builtin "list.append") [acc, x]) (fun _ s₅ => ∃ m, m < n /\ I m s₅) (notedBy (model prog w) A env fun e s' => R (.error e) s') s₄) (notedBy (model prog w) A env fun e s' => R (.error e) s') s₃
            else ∃ m, m < n /\ I m s₃) (notedBy (model prog w) A env fun e s' => R (.error e) s') s₂) (notedBy (model prog w) A env fun e s' => R (.error e) s') s₁') (notedBy (model prog w) A env fun e s' => R (.error e) s') s₁) (notedBy (model prog w) A env fun e s' => R (.error e) s') s)
    (n : Nat) (h : I n s) :
    codeAny (model prog w) A (.compLoop (.ListComp elt [⟨target, iter, ifs, 0⟩] scope pos) 0 it acc env) R s := by
  refine codeAny_loop rfl I (fun n s hI => ?_) n h
  show wpAny _ A ((compTurn (.ListComp elt [⟨target, iter, ifs, 0⟩] scope pos) 0 it acc env).onRaise (fun x => do noteFrame x env; theTreesLotGoes x)) _ _ s
  refine wpAny_noted ?_
  rw [compTurn_list]
  refine wpAny_bind (wpAny_standAt (wpAny_bind (wpAny_mono (turn n s hI) (fun r s₁ h₁ => ?_) fun _ _ h' => h')))
  cases r with
  | none => exact wpAny_pure h₁
  | some v =>
    refine wpAny_bind (wpAny_mono h₁ (fun _ s₁' h₁' => ?_) fun _ _ h' => h')
    refine wpAny_bind (wpAny_mono h₁' (fun _ s₂ h₂ => wpAny_bind (wpAny_mono h₂ (fun ok s₃ h₃ => ?_) fun _ _ h' => h')) fun _ _ h' => h')
    cases ok with
    | false => exact wpAny_pure ⟨rfl, h₃⟩
    | true => exact wpAny_bind (wpAny_bind (wpAny_mono h₃ (fun x s₄ h₄ => wpAny_bind (wpAny_mono h₄ (fun _ s₅ h₅ => wpAny_pure (wpAny_pure ⟨rfl, h₅⟩)) fun _ _ h' => h')) fun _ _ h' => h'))
end
def PIfs (X : Cx) (ifs : List Expr) (t : TT) : Prop :=
  ∀ (pins : List (Addr × Obj)) (s : Shared) (σ : St) (H : Hp) (Q : Bool -> Hp -> Prop), Inv X pins σ H s -> t σ H Q ->
    wpAny (model X.prog X.w) X.A (forIn ifs true fun c r => if r = true then do let ok <- isTrue c X.env (eval c X.env); pure (ForInStep.yield ok) else pure (ForInStep.yield r)) (TP X pins σ Q) X.xe s
def tYes : TT := fun _ H Q => Q true H
theorem ZC2 {X : Cx} : PIfs X [] tYes := fun _ _ _ H _ I h => wpAny_tests_nil ⟨H, I, h⟩
def ZDg (k : Nat) (js : List Nat) (wi : TI) (g : TG) (tt : TT) (te : TE) : TE := fun σ H Q => wi σ H fun J H1 => ∃ W : Nat -> Nat -> List V -> St -> Hp -> Prop, (∃ m, W 0 m [] (up k js σ) H1) /\ ∀ i m ys σ H, W i m ys σ H ->
  (J.stop i H /\ ys.length <= sizeLine /\ ∀ p, H p = none -> Q (.ref p) (upd H p (.lst ys))) ∨
  (J.go i H /\ ys.length < sizeLine /\ ∀ x H', J.yld i H x H' -> g x σ H' fun σ2 H2 => tt σ2 H2 fun b H3 => if b = true then te σ2 H3 fun y H4 => ∃ m', m' < m /\ W (i + 1) m' (ys ++ [y]) σ2 H4 else ∃ m', m' < m /\ W (i + 1) m' ys σ2 H3)
section
variable {X : Cx} {k : Nat} {js : List Nat} {N' : List Str} {scope : Scope} {tg iter elt : Expr} {ifs : List Expr} {wi : TI} {g : TG} {tt : TT} {te : TE} {pos : Pos}
theorem comp_core {use : Option (Value -> Sem Unit)} {Q' : Value -> Shared -> Prop} (hcalm : X.calm = true) (hc : CmpOk X.N X.env.scope k js N' scope) (hi : PI X tg iter wi)
    (hg : ∀ C fp s2 H2, PG (ZBs X N' scope C fp s2 H2) tg g) (ht : ∀ C fp s2 H2, PIfs (ZBs X N' scope C fp s2 H2) ifs tt) (he : ∀ C fp s2 H2, PE (ZBs X N' scope C fp s2 H2) elt te)
    {pins : List (Addr × Obj)} {s : Shared} {σ : St} {H : Hp} {Q : VK} (I : Inv X pins σ H s) (h : ZDg k js wi g tt te σ H Q)
    (fin : ∀ (C D : Addr) (s' : Shared) (m : Str -> Option Value) (H' : Hp) (ys : List V), s'.heap.Ns C m -> C ≠ X.env.locals -> C ∉ X.fs -> D ≠ C -> H' C = none -> X.s₀.heap.objs.size <= C -> (∀ x c, X.env.cells.lookup x = some c -> c ≠ C) -> (∀ p ∈ X.pn ++ pins, p.1 ≠ C) -> (∀ h', Heap.SameBut C s'.heap h' -> Inv X pins σ (upd H' D (.lst ys)) { s' with heap := h' }) -> Q (.ref D) (upd H' D (.lst ys)) ->
      compPost (model X.prog X.w) X.A X.xe use Q' (.ref D) C (.ok .next) s')
    (hs : ∀ x, foldedSetIterable iter X.env x = pure x) (p' : Pos) :
    wpAny (model X.prog X.w) X.A (comprehension (.ListComp elt [⟨tg, iter, ifs, 0⟩] scope pos) scope X.env p' (newList []) false (eval iter X.env) use) Q' X.xe s := by
  have hclos : closureFor scope X.env = pure (closFrom X.env.cells scope.names []) := closureFor_eq fun y hy => I.ok.has y (hc.fr y hy)
  refine wpAny_comprehension_free (g := ⟨tg, iter, ifs, 0⟩) (gs := []) rfl hs hclos hc.kind (fun x hx hl => by rw [hc.look x hx, hl]) ?_
  refine thn (hi pins s σ H _ I h) fun v s1 h1 => thn h1 fun itv s2 h2 => ?_
  obtain ⟨it, fp, tn, J, H2, e, I2, T, st2, f2, W, ⟨m0, w0⟩, turn⟩ := h2
  subst e
  have hlt : ∀ b ∈ fp, b < s2.heap.objs.size := fun b hb => by
    obtain ⟨o, e, _⟩ := T.obj _ _ st2 b hb
    exact Heap.lt_size e
  refine wpAny_newObj_type (newEnv_comp ?_)
  have hz3 : (s2.heap.push { cls := .type "list", dict := none, data := .seq ([] : List Value).toArray }).objs.size = s2.heap.objs.size + 1 := Heap.size_push ..
  have I3 := comp_inv (h3 := s2.heap.push { cls := .type "list", dict := none, data := .seq ([] : List Value).toArray }) hc I2 f2 hlt hz3 (fun b o e => Heap.get?_push_of_some _ e)
  dsimp only
  rw [hz3]
  generalize hS4 : ({ s2 with heap := pushCells ((s2.heap.push { cls := .type "list", dict := none, data := .seq ([] : List Value).toArray }).push { cls := .type "dict", data := .dict #[] }) scope.names } : Shared) = s4 at I3 ⊢
  have keep4 : ∀ b o, s2.heap.get? b = some o -> s4.heap.get? b = some o := fun b o e => by
    rw [<- hS4]
    exact pushCells_keeps _ _ b o (Heap.get?_push_of_some _ (Heap.get?_push_of_some _ e))
  have eD4 : s4.heap.get? s2.heap.objs.size = some { cls := .type "list", data := .seq ([] : List Value).toArray 0 } := by
    rw [<- hS4]
    exact pushCells_keeps _ _ _ _ (Heap.get?_push_of_some _ (Heap.get?_push_size _ rfl))
  generalize hX' : ZBs X N' scope (s2.heap.objs.size + 1) fp s2 H2 = X' at I3
  have hC' : X'.env.locals = s2.heap.objs.size + 1 := by rw [<- hX']; rfl
  have hfs' : X'.fs = frs X.stack := by rw [<- hX']; rfl
  -- D is nobody's
  have nofsD : ∀ a, s2.heap.objs.size <= a -> a ∉ frs X.stack := fun a ha hb => by
    rcases yAD.mp (I2.stkSub a hb) with z | z
    . exact absurd z.symm (ZCi I2.lt ha)
    . exact I2.nofs ha z
  have cellD : ∀ x c, X'.env.cells.lookup x = some c -> c ≠ s2.heap.objs.size := fun x c e z => by
    obtain ⟨v, o, ho, hd⟩ := I3.cell x c e
    rw [z, eD4] at ho
    cases ho
    cases hd
  have pinD : ∀ {σ' : St} {H' : Hp} {s' : Shared} {its : List Value} {n : Nat}, Inv X' [] σ' H' s' -> s'.heap.get? s2.heap.objs.size = some { cls := .type "list", data := .seq its.toArray n } -> H' s2.heap.objs.size = none ->
      Inv X' [(s2.heap.objs.size, { cls := .type "list", data := .seq its.toArray n })] σ' H' s' := fun {σ' H' s' its n} J e nn => J.pins_of fun p hp => by
    have e' : p = (s2.heap.objs.size, { cls := .type "list", data := .seq its.toArray n }) := by simpa using hp
    subst e'
    refine ⟨e, nn, ?_, ?_, fun v z => nomatch z⟩
    . rw [hC']; exact yAN (yBS _)
    . rw [hfs']; exact nofsD _ (yAA _)
  have I4 := pinD I3 eD4 (I2.hok.fresh (yAA _))
  -- what stays true of the iterator's objects
  have stat : ∀ {H' : Hp} {o : Obj}, (∀ b ∈ fp, H' b = none) -> ∀ b ∈ fp, FpOk X' [(s2.heap.objs.size, o)] H' b := fun {H' o} hn b hb => by
    have hb' := hlt b hb
    refine ⟨hn b hb, ?_, ?_, .inl (by rw [<- hX']; exact hb), fun x c e z => ?_, fun p hp z => ?_⟩
    . rw [hC']; exact ZCi hb' (yAY _)
    . rw [hfs']
      intro z
      rcases yAD.mp (I2.stkSub b z) with q | q
      . exact (f2 b hb).2.1 q
      . exact (f2 b hb).2.2.1 q
    . have q := I3.ok.exf b (by rw [<- hX']; exact hb)
      exact q.2 x c e z
    . rw [show X'.pn = [] by rw [<- hX']; rfl] at hp
      have e' : p = (s2.heap.objs.size, o) := by simpa using hp
      subst e'
      exact absurd hb' (by rw [<- z]; exact yBR _)
  have hfin : ∀ {σ' : St} {H' : Hp} {s' : Shared} {its : List Value} {n : Nat} {ys : List V}, Inv X' [(s2.heap.objs.size, { cls := .type "list", data := .seq its.toArray n })] σ' H' s' -> Vals ys its -> ys.length <= sizeLine -> (∀ p, H' p = none -> Q (.ref p) (upd H' p (.lst ys))) ->
      compPost (model X.prog X.w) X.A X.xe use Q' (.ref s2.heap.objs.size) (s2.heap.objs.size + 1) (.ok .next) s' := fun {σ' H' s' its n ys} J hv hz hq => by
    obtain ⟨m, hn, _⟩ := id J.loc
    rw [hC'] at hn
    have nC : H' (s2.heap.objs.size + 1) = none := by rw [<- hC']; exact J.free
    have J' : Inv (ZBs X N' scope (s2.heap.objs.size + 1) fp s2 H2) [(s2.heap.objs.size, { cls := .type "list", data := .seq its.toArray n })] σ' H' s' := by rw [hX']; exact J
    obtain ⟨nD, E⟩ := comp_end I2 f2 (yAY _) (yAA _) (yAN (yBS _)) J' hv hz
    refine fin _ _ s' m H' ys hn ?_ (I2.nofs (yAY _)) (yAN (yBS _)) nC (yAK I2.sz (yAY _)) (fun x c e z => ?_) (fun p hp z => ?_) E (hq _ nD)
    . exact (ZCi I2.lt (yAY _)).symm
    . obtain ⟨v, q⟩ := I2.cell x c e
      exact absurd z (ZCi q.lt (yAY _))
    . exact absurd z (ZCi (Heap.lt_size (I2.pin p hp).1) (yAY _))
  have hprog : X'.prog = X.prog := by rw [<- hX']; rfl
  have hw : X'.w = X.w := by rw [<- hX']; rfl
  have hK : X'.K = X.K := by rw [<- hX']; rfl
  have hcalm' : X'.calm = true := by rw [<- hX']; exact hcalm
  have hA : X'.A = X.A := by rw [<- hX']; rfl
  have henv : ZC7 scope (closFrom X.env.cells scope.names []) (s2.heap.objs.size + 1) X.env = X'.env := by rw [<- hX']; rfl
  have hgX := hg (s2.heap.objs.size + 1) fp s2 H2
  have htX := ht (s2.heap.objs.size + 1) fp s2 H2
  have heX := he (s2.heap.objs.size + 1) fp s2 H2
  rw [hX'] at hgX htX heX
  have hxe : ∀ e s', X'.xe e s' -> False := fun e s' z => by rw [<- hX'] at z; exact z
  have hXA : X'.pn = [] := by rw [<- hX']; rfl
  have hs0 : X'.s₀.heap.objs.size = s2.heap.objs.size := by rw [<- hX']; rfl
  have loop : codeAny (model X.prog X.w) X.A (.compLoop (.ListComp elt [⟨tg, iter, ifs, 0⟩] scope pos) 0 (.ref it) (.ref s2.heap.objs.size) X'.env) (compPost (model X.prog X.w) X.A X.xe use Q' (.ref s2.heap.objs.size) (s2.heap.objs.size + 1)) s4 := by
    refine codeAny_compLoop_any (fun n s' => ∃ i σ' H' its nn ys, Inv X' [(s2.heap.objs.size, { cls := .type "list", data := .seq its.toArray nn })] σ' H' s' /\ tn i s'.heap /\ (∀ b ∈ fp, H' b = none) /\ Vals ys its /\ W i n ys σ' H') ?_ m0
      ⟨0, _, H2, [], 0, [], I4, T.keep _ _ _ st2 (fun b _ o e => keep4 b o e), fun b hb => (f2 b hb).1, .nil, w0⟩
    rintro n s5 ⟨i, σ5, H5, its, nn, ys, I5, st5, fr5, hv, w5⟩
    rcases turn i n ys σ5 H5 w5 with ⟨stop, hz, hq⟩ | ⟨go, hz, step⟩
    . have d := T.done X' hprog hw hK hcalm' i _ s5 σ5 H5 (fun _ _ => False) I5 (stat fr5) st5 stop
      rw [hA] at d
      refine wpAny_mono d (fun r s6 ⟨hr, I6⟩ => ?_) fun _ _ z => z.elim
      subst hr
      exact hfin I6 hv hz hq
    . have d := T.item X' hprog hw hK hcalm' i _ s5 σ5 H5 (fun _ _ => False) I5 (stat fr5) st5 go
      rw [hA] at d
      refine wpAny_mono d (fun r s6 ⟨u, hr, h6⟩ => ?_) fun _ _ z => z.elim
      subst hr
      refine wpAny_mono h6 (fun _ s7 ⟨x, H7, I7, r7, y7, st7, fr7⟩ => ?_) fun _ _ z => z.elim
      have I7' := I7.pinned (stat fr7) (T.obj _ _ st7)
      have a1 := hgX _ s7 σ5 H7 x u _ I7' r7 (step x H7 y7)
      rw [hprog, hw, hA] at a1
      refine wpAny_mono a1 (fun _ s8 ⟨σ8, H8, I8, q8⟩ => ?_) fun _ _ z => (hxe _ _ z).elim
      have a2 := htX _ s8 σ8 H8 _ I8 q8
      rw [hprog, hw, hA] at a2
      refine wpAny_mono a2 (fun ok s9 ⟨H9, I9, q9⟩ => ?_) fun _ _ z => (hxe _ _ z).elim
      have back : ∀ {σ' : St} {H' : Hp} {s' : Shared}, Inv X' ([(s2.heap.objs.size, ({ cls := .type "list", data := .seq its.toArray nn } : Obj))] ++ ZDC fp s7.heap) σ' H' s' -> tn (i + 1) s'.heap /\ (∀ b ∈ fp, H' b = none) := fun {σ' H' s'} J => by
        refine ⟨T.keep _ _ _ st7 fun b hb o e => (J.pin (b, o) (yBE _ (yBE _ (ZBm hb e)))).1, fun b hb => ?_⟩
        obtain ⟨o, e, d⟩ := T.obj _ _ st7 b hb
        exact (J.pin (b, o) (yBE _ (yBE _ (ZBm hb e)))).2.1
      cases ok with
      | false =>
        rw [if_neg yAX] at q9 ⊢
        obtain ⟨m', hm, w9⟩ := q9
        obtain ⟨t9, f9⟩ := back I9
        exact ⟨m', hm, i + 1, σ8, H9, its, nn, ys, I9.unpinned, t9, f9, hv, w9⟩
      | true =>
        rw [if_pos rfl] at q9 ⊢
        have a3 := heX _ s9 σ8 H9 _ I9 q9
        rw [hprog, hw, hA] at a3
        refine wpAny_mono a3 (fun uy s10 ⟨y, H10, I10, r10, m', hm, w10⟩ => ?_) fun _ _ z => (hxe _ _ z).elim
        obtain ⟨t10, f10⟩ := back I10
        have I11 := I10.unpinned
        obtain ⟨eD, nD, _, _, _⟩ := I11.pin (s2.heap.objs.size, { cls := .type "list", data := .seq its.toArray nn }) (yBE _ yAE)
        dsimp only at eD nD
        have hsz : its.length < sizeLine := by rw [<- hv.length]; exact hz
        refine wpAny_list_append_plain ⟨nn, eD⟩ (fun h' hpl hsb => ?_) (by rw [yAS]; omega)
        obtain ⟨n', e'⟩ := hpl
        have e'' : h'.get? s2.heap.objs.size = some { cls := .type "list", data := .seq (its ++ [uy]).toArray n' } := by rw [e']; simp
        have I12 : Inv X' [] σ8 H10 s10 := I11.pins_of fun p hp => absurd hp (by simp)
        have I13 := I12.turned (h' := h') (t' := s10.toks) (it := s2.heap.objs.size) (fun b o hb e => (hsb.2 b hb).trans e) nD (by rw [hC']; exact yAN (yBS _)) (.inr (by rw [hs0]; exact yAA _)) cellD (fun p hp => absurd hp (by rw [hXA]; simp))
        refine ⟨m', hm, i + 1, σ8, H10, its ++ [uy], n', ys ++ [y], pinD I13 e'' nD, T.keep _ _ _ t10 fun b hb o e => ?_, f10, hv.append (.cons r10 .nil), w10⟩
        exact (hsb.2 b (ZCi (hlt b hb) (yAA _))).trans e
  have hst : codeAny (model X.prog X.w) X.A (.compStart (.ListComp elt [⟨tg, iter, ifs, 0⟩] scope pos) 0 (.ref it) (.ref s2.heap.objs.size) X'.env) (compPost (model X.prog X.w) X.A X.xe use Q' (.ref s2.heap.objs.size) (s2.heap.objs.size + 1)) s4 :=
    codeAny_compStart_list loop (T.self X.A 0 s4 _ _ (T.keep _ _ _ st2 (fun b _ o e => keep4 b o e)) loop)
  rw [<- henv] at hst
  exact hst
theorem ZDO (hcalm : X.calm = true) (hc : ZC8 X.N X.env.scope k js N' scope = true) (hi : PI X tg iter wi)
    (hg : ∀ C fp s2 H2, PG (ZBs X N' scope C fp s2 H2) tg g) (ht : ∀ C fp s2 H2, PIfs (ZBs X N' scope C fp s2 H2) ifs tt) (he : ∀ C fp s2 H2, PE (ZBs X N' scope C fp s2 H2) elt te)
    (hs : ∀ x, foldedSetIterable iter X.env x = pure x := by intro _; rfl) : PE X (.ListComp elt [⟨tg, iter, ifs, 0⟩] scope pos) (ZDg k js wi g tt te) := by
  intro pins s σ H Q I h
  rw [eval_ListComp]
  refine comp_core (use := none) hcalm (cmpOk hc) hi hg ht he I h (fun C D s' m H' ys hn _ _ _ _ _ _ _ E q => ?_) hs _
  exact ⟨m, hn, fun h' hsb => ⟨.ref D, _, E h' hsb, rfl, q⟩⟩
end
mutual
def Dp (K : W.Frag) (H : Hp) : PyData -> V -> Prop
  | .none, v => v = .non
  | .bool b, v => v = .bl b
  | .int i, v => v = .int i
  | .str x, v => v = .str x
  | .list ds, v => ∃ a xs, v = .ref a /\ SqL K H a xs /\ DpAll K H ds xs
  | .tuple ds, v => ∃ a xs, v = .ref a /\ SqT K H a xs /\ DpAll K H ds xs
  | .dict _, _ => False
def DpAll (K : W.Frag) (H : Hp) : List PyData -> List V -> Prop
  | [], vs => vs = []
  | d :: ds, vs => ∃ v r, vs = v :: r /\ Dp K H d v /\ DpAll K H ds r
end
theorem DpAll.nil {K : W.Frag} {H : Hp} : DpAll K H [] [] := by unfold DpAll; rfl
theorem DpAll.cons {K : W.Frag} {H : Hp} {d : PyData} {ds : List PyData} {v : V} {vs : List V} (a : Dp K H d v) (t : DpAll K H ds vs) : DpAll K H (d :: ds) (v :: vs) := by unfold DpAll; exact ⟨v, vs, rfl, a, t⟩
theorem DpAll.ints {K : W.Frag} {H : Hp} : ∀ (ns : List Int), DpAll K H (ns.map PyData.int) (ns.map V.int)
  | [] => .nil
  | n :: r => .cons (by unfold Dp; rfl) (DpAll.ints r)
theorem dp_lst {K : W.Frag} {H : Hp} {a : Addr} {xs : List V} {ds : List PyData} (h : SqL K H a xs) (t : DpAll K H ds xs) : Dp K H (.list ds) (.ref a) := by unfold Dp; exact ⟨a, xs, rfl, h, t⟩
section
variable {X : Cx} {pins : List (Addr × Obj)} {σ : St} {H : Hp} {s : Shared}
mutual
theorem Inv.reads (I : Inv X pins σ H s) : ∀ {d : PyData} {v : V} {u : Value}, Dp X.K H d v -> RelV v u -> ∃ as, Reads s.heap u d as
  | .none, _, _, h, r => by unfold Dp at h; subst h; cases (show _ = Value.none from r); exact ⟨_, .none⟩
  | .bool b, _, _, h, r => by unfold Dp at h; subst h; cases (show _ = Value.bool b from r); exact ⟨_, .bool b⟩
  | .int i, _, _, h, r => by unfold Dp at h; subst h; obtain ⟨t, q⟩ := (show ∃ t, _ = Value.int i t from r); subst q; exact ⟨_, .int i t⟩
  | .str x, _, _, h, r => by unfold Dp at h; subst h; obtain ⟨t, q⟩ := (show ∃ t, _ = Value.str x t from r); subst q; exact ⟨_, .str x t⟩
  | .list ds, _, _, h, r => by
    unfold Dp at h
    obtain ⟨a, xs, q, sq, t⟩ := h
    subst q
    cases (show _ = Value.ref a from r)
    obtain ⟨its, rv, pl, _⟩ := I.list sq
    obtain ⟨as, ra⟩ := Inv.readsAll I t rv
    obtain ⟨o, n, e1, e2, _, e3⟩ := pl
    exact ⟨_, .list e1 e2 e3 (by simpa using ra)⟩
  | .tuple ds, _, _, h, r => by
    unfold Dp at h
    obtain ⟨a, xs, q, sq, t⟩ := h
    subst q
    cases (show _ = Value.ref a from r)
    obtain ⟨its, rv, pl, _⟩ := I.tuple sq
    obtain ⟨as, ra⟩ := Inv.readsAll I t rv
    obtain ⟨o, e1, e2, n, e3⟩ := pl
    exact ⟨_, .tuple e1 e2 e3 (by simpa using ra)⟩
  | .dict _, _, _, h, _ => by unfold Dp at h; exact h.elim
theorem Inv.readsAll (I : Inv X pins σ H s) : ∀ {ds : List PyData} {vs : List V} {us : List Value}, DpAll X.K H ds vs -> Vals vs us -> ∃ as, ReadsAll s.heap us ds as
  | [], _, _, h, r => by unfold DpAll at h; subst h; cases r; exact ⟨_, .nil⟩
  | _ :: _, _, _, h, r => by
    unfold DpAll at h
    obtain ⟨v, q, e, a, t⟩ := h
    subst e
    cases r with
    | cons r1 r2 =>
      obtain ⟨as, h1⟩ := Inv.reads I a r1
      obtain ⟨bs, h2⟩ := Inv.readsAll I t r2
      exact ⟨_, .cons h1 h2⟩
end
def rEqD (K : W.Frag) : R2 := fun x y H Q => ∃ d e, Dp K H d x /\ Dp K H e y /\ d.canLay0 = true /\ e.canLay0 = true /\ d.depth <= 64 /\ Q (.bl (PyData.eqv d e)) H
def rNeD (K : W.Frag) : R2 := fun x y H Q => ∃ d e, Dp K H d x /\ Dp K H e y /\ d.canLay0 = true /\ e.canLay0 = true /\ d.depth <= 64 /\ Q (.bl (!PyData.eqv d e)) H
theorem ZDZ (hu : X.A.units + 64 < cLine) : OpR X (compareOp .Eq) (rEqD X.K) := by
  intro pins s σ H x y v u Q I rx ry h
  obtain ⟨d, e, h1, h2, c1, c2, dp, q⟩ := h
  obtain ⟨as, ra⟩ := I.reads h1 rx
  obtain ⟨bs, rb⟩ := I.reads h2 ry
  exact SeqAt.compareEq_reads ra rb c1 c2 (by omega) ⟨.bl _, H, I, rfl, q⟩
theorem op_neD (hu : X.A.units + 64 < cLine) : OpR X (compareOp .NotEq) (rNeD X.K) := by
  intro pins s σ H x y v u Q I rx ry h
  obtain ⟨d, e, h1, h2, c1, c2, dp, q⟩ := h
  obtain ⟨as, ra⟩ := I.reads h1 rx
  obtain ⟨bs, rb⟩ := I.reads h2 ry
  exact SeqAt.compareNe_reads ra rb c1 c2 (by omega) ⟨.bl _, H, I, rfl, q⟩
end
section
variable {X : Cx} {x : Str} {pos : Pos}
theorem ZA9 {y : Int} (hg : Gl X x) (h : ∃ t, X.mg x = some (.int y t)) (hd : (x == ("__debug__" : Str)) = false := by decide) : PE X (.Name x pos) (tC (.int y)) := by
  obtain ⟨t, e⟩ := h
  exact pe_glob hg e ⟨t, rfl⟩ hd
theorem ZD1 {n : String} (hg : Gl X x) (hm : X.mg x = none) (hv : bootBuiltins x = some (.type n)) (hn : x ≠ "__name__" := by decide) (hd : (x == ("__debug__" : Str)) = false := by decide) : PE X (.Name x pos) (tC (.ty n)) := pe_bltn hg hm hv rfl hn hd
end
structure Fn (P : Program) (w : World) (K : W.Frag) (mg : Str -> Option Value) (base : Heap) (CX : CXT) (x : Str) (k : Nat) (ps : List Str) (sp : Sp) : Prop where
  ex : ∃ f fd, FnOk P w K mg base CX k f fd ps sp /\ Binds K fd ps [] /\ W.keepIn K (.ref f) = true /\ mg x = some (.ref f)
structure Mt (P : Program) (w : World) (K : W.Frag) (mg : Str -> Option Value) (base : Heap) (CX : CXT) (C : Addr) (m : Str) (k : Nat) (ps : List Str) (sp : Sp) : Prop where
  cl : Cls K C
  ex : ∃ f fd, FnOk P w K mg base CX k f fd ps sp /\ Binds K fd ps [] /\ Meth K C m f
structure Kl (P : Program) (w : World) (K : W.Frag) (mg : Str -> Option Value) (base : Heap) (CX : CXT) (x : Str) (C : Addr) (k : Nat) (ps : List Str) (sp : Sp) : Prop where
  mgC : mg x = some (.ref C)
  ex : ∃ f fd, FnOk P w K mg base CX k f fd ps sp /\ Binds K fd ps [] /\ Mk K C f
section
variable {X : Cx} {CX : CXT} {k : Nat} {ps : List Str} {sp : Sp} {E : XK} {x m : Str} {C : Addr} {p pos apos : Pos} {e o : Expr} {es : List Expr} {ta : TE} {t : TA}
theorem ZBJ (F : Fn X.prog X.w X.K X.mg X.base CX x k ps sp) (hr : Room k X.A) (hg : Gl X x) (hx : ZBb CX X E) (ha : PA X (e :: es) t) (hdb : (x == ("__debug__" : Str)) = false := by decide) (he : starEach (e :: es) X.env = (false, eval e X.env) :: starEach es X.env := by rfl) (hpl : (backTo pos (starEach es X.env)).any (·.1) = false := by rfl) :
    PE X (.Call (.Name x p) (e :: es) [] pos) (ZED sp [] E t) := by
  obtain ⟨f, fd, h1, h2, h3, h4⟩ := F.ex
  exact pe_call h1 hr hg h4 h3 h2 .nil hx ha hdb he hpl
theorem ZBg {pl : Sem Bool} (F : Mt X.prog X.w X.K X.mg X.base CX C m k ps sp) (hr : Room k X.A) (hx : ZBb CX X E) (he : PE X o ta) (ha : PA X (e :: es) t)
    (hst : starEach (e :: es) X.env = (false, eval e X.env) :: starEach es X.env := by rfl) (hpl : (backTo pos (starEach es X.env)).any (·.1) = false := by rfl)
    (ht : eval (.Call (.Attribute o m apos) (e :: es) [] pos) X.env = (do
      let ov <- eval o X.env
      standAt apos.atName
      let (f, first) <- holding [ov] (getMethod ov m pl)
      callWith pos f first (backTo pos (starEach (e :: es) X.env)) (backToKw pos (keywordEach [] X.env))) := by rfl) :
    PE X (.Call (.Attribute o m apos) (e :: es) [] pos) (ZDf C m sp [] E ta t) := by
  obtain ⟨f, fd, h1, h2, h3⟩ := F.ex
  exact pe_meth he F.cl h3 h1 hr h2 .nil hx ha hst hpl ht
theorem pe_mt0 {pl : Sem Bool} (F : Mt X.prog X.w X.K X.mg X.base CX C m k ps sp) (hr : Room k X.A) (hx : ZBb CX X E) (he : PE X o ta)
    (ht : eval (.Call (.Attribute o m apos) [] [] pos) X.env = (do
      let ov <- eval o X.env
      standAt apos.atName
      let (f, first) <- holding [ov] (getMethod ov m pl)
      callWith pos f first (backTo pos (starEach [] X.env)) (backToKw pos (keywordEach [] X.env))) := by rfl) :
    PE X (.Call (.Attribute o m apos) [] [] pos) (ZDf C m sp [] E ta tNil) := by
  obtain ⟨f, fd, h1, h2, h3⟩ := F.ex
  exact pe_meth0 he F.cl h3 h1 hr h2 .nil hx ht
theorem pe_mk (F : Kl X.prog X.w X.K X.mg X.base CX x C k ps sp) (hr : Room (k + 1) X.A) (hg : Gl X x) (hx : ZBb CX X E) (ha : PA X (e :: es) t) (hdb : (x == ("__debug__" : Str)) = false := by decide) (he : starEach (e :: es) X.env = (false, eval e X.env) :: starEach es X.env := by rfl) (hpl : (backTo pos (starEach es X.env)).any (·.1) = false := by rfl) :
    PE X (.Call (.Name x p) (e :: es) [] pos) (ZDq C sp [] E t) := by
  obtain ⟨f, fd, h1, h2, h3⟩ := F.ex
  exact pe_make h3 h1 hr hg F.mgC h2 .nil hx ha hdb he hpl
end
def ZDl : V -> Bool
  | .ty _ => true
  | .ref _ => true
  | _ => false
def cval : V -> Value
  | .ty n => .type n
  | .ref a => .ref a
  | _ => .none
section
variable {X : Cx}
theorem ZB1 : ZCg X (.builtin "isinstance") (fun xs H Q => ∃ x c ty b, xs = [x, c] /\ ZDl c = true /\ TyOf X.K H x ty /\ PySem.W.kitOne X.K ty (cval c) = some b /\ Q (.bl b) H) := by
  intro pins s σ H xs us Q I r h
  obtain ⟨x, c, ty, b, rfl, hc, hty, e, q⟩ := h
  obtain ⟨u, w', rfl, r1, r2⟩ := ZEA r
  have e2 : w' = cval c := by
    cases c <;> first | (cases hc; done) | exact r2
  subst e2
  exact isinst_ok I r1 hty e fun tk => ⟨.bl b, H, I.tok tk, rfl, q⟩
end
theorem ZAa {v : V} {σ : St} {H : Hp} {Q : VK} : tVar 0 (some v :: σ) H Q = Q v H := by
  apply propext; unfold tVar; simp
theorem ZAc {i : Nat} {a : Option V} {σ : St} {H : Hp} {Q : VK} : tVar (i + 1) (a :: σ) H Q = tVar i σ H Q := by
  apply propext; unfold tVar; simp
theorem rI0_int {g : Int -> Int -> V} {i j : Int} {H : Hp} {Q : VK} : rI0 g (.int i) (.int j) H Q = Q (g i j) H := by
  apply propext; unfold rI0; simp
theorem rI_int {C : Int -> Int -> Prop} {g : Int -> Int -> V} {i j : Int} {H : Hp} {Q : VK} : rI C g (.int i) (.int j) H Q = (C i j /\ Q (g i j) H) := by
  apply propext; unfold rI; simp
theorem rU_int {g : Int -> V} {i : Int} {H : Hp} {Q : VK} : rU g (.int i) H Q = Q (g i) H := by
  apply propext; unfold rU; simp
theorem rEq_int {i j : Int} {H : Hp} {Q : VK} : rEq (.int i) (.int j) H Q = Q (.bl (decide (i = j))) H := by
  apply propext; unfold rEq; simp [scal]
theorem rNe_int {i j : Int} {H : Hp} {Q : VK} : rNe (.int i) (.int j) H Q = Q (.bl (!decide (i = j))) H := by
  apply propext; unfold rNe; simp [scal]
theorem rEq_bl {i j : Bool} {H : Hp} {Q : VK} : rEq (.bl i) (.bl j) H Q = Q (.bl (decide (i = j))) H := by
  apply propext; unfold rEq; simp [scal]
theorem rNe_bl {i j : Bool} {H : Hp} {Q : VK} : rNe (.bl i) (.bl j) H Q = Q (.bl (!decide (i = j))) H := by
  apply propext; unfold rNe; simp [scal]
theorem rEq_str {i j : Str} {H : Hp} {Q : VK} : rEq (.str i) (.str j) H Q = Q (.bl (decide (i = j))) H := by
  apply propext; unfold rEq; simp [scal]
theorem rNe_str {i j : Str} {H : Hp} {Q : VK} : rNe (.str i) (.str j) H Q = Q (.bl (!decide (i = j))) H := by
  apply propext; unfold rNe; simp [scal]
theorem ex_bl {c : Bool} {Q : Bool -> Prop} : (∃ k, V.bl c = V.bl k /\ Q k) = Q c := by
  apply propext; simp
theorem ex_int {c : Int} {Q : Int -> Prop} : (∃ k, V.int c = V.int k /\ Q k) = Q c := by
  apply propext; simp
theorem ZAX {n : Nat} (h : n <= 1000) : n <= sizeLine := yBI (ZBd h)
theorem ZAR {H : Hp} {p : Addr} (h : H p = none) (o : HO) : Same H (upd H p o) := fun b u q => by rw [ZAI (ZAD q h)]; exact q
def getF (K : W.Frag) (f : Str) (x : V) (H : Hp) (Q : VK) : Prop := ∃ a C dx fs v, x = .ref a /\ H a = some (.ins C dx fs) /\ Cls K C /\ NoAttr K C f /\ fs.lookup f = some v /\ Q v H
theorem tFld_eq {K : W.Frag} {ta : TE} {f : Str} {σ : St} {H : Hp} {Q : VK} : tFld K ta f σ H Q = ta σ H (fun x H1 => getF K f x H1 Q) := rfl
theorem getF_of {K : W.Frag} {f : Str} {a C dx : Addr} {fs : List (Str × V)} {v : V} {H : Hp} {Q : VK} (h : H a = some (.ins C dx fs)) (cl : Cls K C) (n : NoAttr K C f) (l : fs.lookup f = some v) (q : Q v H) : getF K f (.ref a) H Q := ⟨a, C, dx, fs, v, rfl, h, cl, n, l, q⟩
def setF (K : W.Frag) (f : Str) (x y : V) (H : Hp) (Q : Hp -> Prop) : Prop := ∃ a C dx fs, x = .ref a /\ H a = some (.ins C dx fs) /\ Cls K C /\ NoAttr K C f /\ fs.length < 1000 /\ Q (upd H a (.ins C dx (putF f y fs)))
theorem sFld_eq {K : W.Frag} {ta tv : TE} {f : Str} {D : Ends} {σ : St} {H : Hp} : sFld K ta tv f D σ H = tv σ H (fun y H1 => ta σ H1 fun x H2 => setF K f x y H2 (D.nx σ)) := rfl
theorem setF_of {K : W.Frag} {f : Str} {a C dx : Addr} {fs : List (Str × V)} {y : V} {H : Hp} {Q : Hp -> Prop} (h : H a = some (.ins C dx fs)) (cl : Cls K C) (n : NoAttr K C f) (l : fs.length < 1000) (q : Q (upd H a (.ins C dx (putF f y fs)))) : setF K f (.ref a) y H Q := ⟨a, C, dx, fs, rfl, h, cl, n, l, q⟩
theorem ZAY {K : W.Frag} {p : Addr} {xs : List V} {i : Int} {v : V} {H : Hp} {Q : VK} (h : SqL K H p xs) (e : atI xs i = some v) (q : Q v H) : rIxL K (.ref p) (.int i) H Q := ⟨p, xs, i, v, rfl, rfl, h, e, q⟩
theorem ZBE {K : W.Frag} {p : Addr} {xs : List V} {i : Int} {v : V} {H : Hp} {Q : VK} (h : SqT K H p xs) (e : atI xs i = some v) (q : Q v H) : rIxT K (.ref p) (.int i) H Q := ⟨p, xs, i, v, rfl, rfl, h, e, q⟩
theorem ZAT {α : Type} {xs : List α} {i : Int} {v : α} (h0 : 0 <= i) (h : xs[i.toNat]? = some v) : atI xs i = some v := by
  have q := atI_nat h
  rwa [Int.toNat_of_nonneg h0] at q
theorem atI_ints {xs : List Int} {i : Int} {v : Int} (h0 : 0 <= i) (h : xs[i.toNat]? = some v) : atI (xs.map V.int) i = some (.int v) := ZAT h0 (by rw [yAR, h]; rfl)
def Nxt (P : Nat -> List V -> St -> Hp -> Prop) (n i : Nat) (ys : List V) (σ : St) (H : Hp) : Prop := ∃ m', m' < n - i /\ m' = n - (i + 1) /\ i + 1 <= n /\ P (i + 1) ys σ H
theorem Nxt.of {P : Nat -> List V -> St -> Hp -> Prop} {n i : Nat} {ys : List V} {σ : St} {H : Hp} (h : i < n) (p : P (i + 1) ys σ H) : Nxt P n i ys σ H := ⟨n - (i + 1), by omega, rfl, h, p⟩
theorem comp_list {K : W.Frag} {a : Addr} {xs : List V} {g : TG} {tt : TT} {te : TE} {Q : VK} {σ0 : St} {H : Hp} (P : Nat -> List V -> St -> Hp -> Prop) (h0 : P 0 [] σ0 H) (hl : ∀ i ys σ H, i <= xs.length -> P i ys σ H -> SqL K H a xs /\ ys.length <= i) (hz : xs.length <= sizeLine)
    (hs : ∀ i ys x σ H, i < xs.length -> xs[i]? = some x -> P i ys σ H -> g x σ H fun σ2 H2 => tt σ2 H2 fun b H3 => if b = true then te σ2 H3 fun y H4 => Nxt P xs.length i (ys ++ [y]) σ2 H4 else Nxt P xs.length i ys σ2 H3)
    (hd : ∀ ys σ H, P xs.length ys σ H -> ∀ p, H p = none -> Q (.ref p) (upd H p (.lst ys))) :
    ∃ W : Nat -> Nat -> List V -> St -> Hp -> Prop, (∃ m, W 0 m [] σ0 H) /\ ∀ i m ys σ H, W i m ys σ H ->
      ((Itl K a).stop i H /\ ys.length <= sizeLine /\ ∀ p, H p = none -> Q (.ref p) (upd H p (.lst ys))) ∨
      ((Itl K a).go i H /\ ys.length < sizeLine /\ ∀ x H', (Itl K a).yld i H x H' -> g x σ H' fun σ2 H2 => tt σ2 H2 fun b H3 => if b = true then te σ2 H3 fun y H4 => ∃ m', m' < m /\ W (i + 1) m' (ys ++ [y]) σ2 H4 else ∃ m', m' < m /\ W (i + 1) m' ys σ2 H3) := by
  refine ⟨fun i m ys σ H => m = xs.length - i /\ i <= xs.length /\ P i ys σ H, ⟨xs.length, by simp, yAH _, h0⟩, ?_⟩
  rintro i m ys σ H ⟨rfl, hi, p⟩
  obtain ⟨q, ly⟩ := hl i ys σ H hi p
  by_cases hlt : i < xs.length
  . refine .inr ⟨⟨xs, xs[i], q, by simp [hlt]⟩, by omega, fun x H' y => ?_⟩
    obtain ⟨e, y⟩ := y
    subst e
    exact hs i ys x σ _ hlt (y xs q) p
  . have e : i = xs.length := by omega
    subst e
    exact .inl ⟨⟨xs, q, yAA _⟩, by omega, hd ys σ H p⟩
theorem comp_range {lo : Int} {n : Nat} {g : TG} {tt : TT} {te : TE} {Q : VK} {σ0 : St} {H : Hp} (P : Nat -> List V -> St -> Hp -> Prop) (h0 : P 0 [] σ0 H) (hl : ∀ i ys σ H, P i ys σ H -> ys.length <= i) (hz : n <= sizeLine)
    (hs : ∀ i ys σ H, i < n -> P i ys σ H -> g (.int (lo + i)) σ H fun σ2 H2 => tt σ2 H2 fun b H3 => if b = true then te σ2 H3 fun y H4 => Nxt P n i (ys ++ [y]) σ2 H4 else Nxt P n i ys σ2 H3)
    (hd : ∀ ys σ H, P n ys σ H -> ∀ p, H p = none -> Q (.ref p) (upd H p (.lst ys))) :
    ∃ W : Nat -> Nat -> List V -> St -> Hp -> Prop, (∃ m, W 0 m [] σ0 H) /\ ∀ i m ys σ H, W i m ys σ H ->
      ((Itr lo n).stop i H /\ ys.length <= sizeLine /\ ∀ p, H p = none -> Q (.ref p) (upd H p (.lst ys))) ∨
      ((Itr lo n).go i H /\ ys.length < sizeLine /\ ∀ x H', (Itr lo n).yld i H x H' -> g x σ H' fun σ2 H2 => tt σ2 H2 fun b H3 => if b = true then te σ2 H3 fun y H4 => ∃ m', m' < m /\ W (i + 1) m' (ys ++ [y]) σ2 H4 else ∃ m', m' < m /\ W (i + 1) m' ys σ2 H3) := by
  refine ⟨fun i m ys σ H => m = n - i /\ i <= n /\ P i ys σ H, ⟨n, by simp, yAH _, h0⟩, ?_⟩
  rintro i m ys σ H ⟨rfl, hi, p⟩
  have ly := hl i ys σ H p
  by_cases hlt : i < n
  . refine .inr ⟨hlt, by omega, fun x H' y => ?_⟩
    obtain ⟨e, y⟩ := y
    subst e y
    exact hs i ys σ _ hlt p
  . have e : i = n := by omega
    subst e
    exact .inl ⟨yAA _, by omega, hd ys σ H p⟩
theorem Same.upd {H H' : Hp} {p : Addr} {o : HO} (e : Same H H') (h : H p = none) : Same H (upd H' p o) := fun b u q => by rw [ZAI (ZAD q h)]; exact e b u q
theorem Same.new {H H' : Hp} {p : Addr} {o : HO} (e : Same H H') (h : H' p = none) : Same H (L2.upd H' p o) := e.upd (e.free h)
theorem kit_same {K : W.Frag} {t : Value} (h : (t == t) = true) : PySem.W.kitOne K t t = some true := by unfold PySem.W.kitOne; rw [if_pos h]
theorem cutV_ints (ns : List Int) (lo hi : Option Int) : cutV (ns.map V.int) lo hi = (((ns.drop (HT.sIx ns.length 0 lo)).take (HT.sIx ns.length ns.length hi - HT.sIx ns.length 0 lo)).map V.int) := by
  unfold cutV
  rw [yAB, List.map_take, List.map_drop]
theorem get_ints {ns : List Int} {i : Nat} {x : V} (h : (ns.map V.int)[i]? = some x) : ∃ n, ns[i]? = some n /\ x = .int n := by
  rw [yAR] at h
  cases e : ns[i]? with
  | none => rw [e] at h; cases h
  | some n => rw [e] at h; exact ⟨n, rfl, (Option.some.inj h).symm⟩
theorem ixN_of {n : Nat} {i : Int} (h0 : 0 <= i) (h : i < n) : ixN n i = some i.toNat := by unfold ixN; rw [if_pos h0, if_pos h]
theorem ZDB {K : W.Frag} {a : Addr} {xs : List V} {lo hi : Option Int} {H : Hp} {Q : VK} (h : SqL K H a xs) (q : ∀ p, H p = none -> Q (.ref p) (upd H p (.lst (cutV xs lo hi)))) : rSlL K (.ref a) lo hi H Q := ⟨a, xs, rfl, h, q⟩
def forL (K : W.Frag) (g : TG) (tb : TS) (D : Ends) (σ : St) (x : V) (H1 : Hp) : Prop := ∃ a, x = .ref a /\ (∃ xs, SqL K H1 a xs) /\ ∃ W : Nat -> Nat -> St -> Hp -> Prop, (∃ m, W 0 m σ H1) /\ ∀ i m σ H, W i m σ H ->
  ((Itl K a).stop i H /\ D.nx σ H) ∨ ((Itl K a).go i H /\ ∃ N : St -> Hp -> Prop, (∀ σ' H', N σ' H' -> ∃ m', m' < m /\ W (i + 1) m' σ' H') /\ ∀ x H', (Itl K a).yld i H x H' -> g x σ H' fun σ2 H2 => tb { D with nx := N, ct := N, bk := D.nx } σ2 H2)
theorem tForL_eq {K : W.Frag} {tl : TE} {g : TG} {tb : TS} {D : Ends} {σ : St} {H : Hp} : tFor (ZER K tl) g tb D σ H = tl σ H (fun x H1 => forL K g tb D σ x H1) := rfl
theorem ZCe {K : W.Frag} {g : TG} {tb : TS} {D : Ends} {σ : St} {H : Hp} {a : Addr} {xs : List V} (h : SqL K H a xs) (Pv : Nat -> St -> Hp -> Prop) (h0 : Pv 0 σ H) (hl : ∀ i σ H, i <= xs.length -> Pv i σ H -> SqL K H a xs)
    (hs : ∀ i x σ H, xs[i]? = some x -> Pv i σ H -> g x σ H fun σ2 H2 => tb { D with nx := Pv (i + 1), ct := Pv (i + 1), bk := D.nx } σ2 H2) (hd : ∀ σ H, Pv xs.length σ H -> D.nx σ H) : forL K g tb D σ (.ref a) H :=
  ⟨a, rfl, ⟨xs, h⟩, for_list Pv h0 hl hs hd⟩
def forR (lo : Int) (g : TG) (tb : TS) (D : Ends) (σ : St) (n : Nat) (H1 : Hp) : Prop := ∃ W : Nat -> Nat -> St -> Hp -> Prop, (∃ m, W 0 m σ H1) /\ ∀ i m σ H, W i m σ H ->
  ((Itr lo n).stop i H /\ D.nx σ H) ∨ ((Itr lo n).go i H /\ ∃ N : St -> Hp -> Prop, (∀ σ' H', N σ' H' -> ∃ m', m' < m /\ W (i + 1) m' σ' H') /\ ∀ x H', (Itr lo n).yld i H x H' -> g x σ H' fun σ2 H2 => tb { D with nx := N, ct := N, bk := D.nx } σ2 H2)
def forR1 (g : TG) (tb : TS) (D : Ends) (σ : St) (x : V) (H1 : Hp) : Prop := ∃ j : Int, [x] = [.int j] /\ -(2 ^ 62) <= j /\ j < 2 ^ 62 /\ forR 0 g tb D σ j.toNat H1
def forR2 (g : TG) (tb : TS) (D : Ends) (σ : St) (x y : V) (H1 : Hp) : Prop := ∃ i j : Int, [x, y] = [.int i, .int j] /\ (-(2 ^ 62) <= i /\ i < 2 ^ 62 /\ -(2 ^ 62) <= j /\ j < 2 ^ 62) /\ forR i g tb D σ (j - i).toNat H1
theorem tForR1_eq {t : TE} {g : TG} {tb : TS} {D : Ends} {σ : St} {H : Hp} : tFor (ZEQ (ZBu t tNil)) g tb D σ H = t σ H (fun x H1 => forR1 g tb D σ x H1) := rfl
theorem tForR2_eq {t u : TE} {g : TG} {tb : TS} {D : Ends} {σ : St} {H : Hp} : tFor (iRng2 (ZBu t (ZBu u tNil))) g tb D σ H = t σ H (fun x H1 => u σ H1 fun y H2 => forR2 g tb D σ x y H2) := rfl
theorem forR_of {lo : Int} {n : Nat} {g : TG} {tb : TS} {D : Ends} {σ : St} {H : Hp} (Pv : Nat -> St -> Hp -> Prop) (h0 : Pv 0 σ H)
    (hs : ∀ i σ H, i < n -> Pv i σ H -> g (.int (lo + i)) σ H fun σ2 H2 => tb { D with nx := Pv (i + 1), ct := Pv (i + 1), bk := D.nx } σ2 H2) (hd : ∀ σ H, Pv n σ H -> D.nx σ H) : forR lo g tb D σ n H := for_range Pv h0 hs hd
theorem forR1_of {j : Int} {g : TG} {tb : TS} {D : Ends} {σ : St} {H : Hp} (h : -1000 <= j /\ j <= 1000) (q : forR 0 g tb D σ j.toNat H) : forR1 g tb D σ (.int j) H := ⟨j, rfl, by omega, by omega, q⟩
def compL (K : W.Frag) (g : TG) (tt : TT) (te : TE) (σ0 : St) (Q : VK) (x : V) (H1 : Hp) : Prop := ∃ a, x = .ref a /\ (∃ xs, SqL K H1 a xs) /\ ∃ W : Nat -> Nat -> List V -> St -> Hp -> Prop, (∃ m, W 0 m [] σ0 H1) /\ ∀ i m ys σ H, W i m ys σ H ->
  ((Itl K a).stop i H /\ ys.length <= sizeLine /\ ∀ p, H p = none -> Q (.ref p) (upd H p (.lst ys))) ∨
  ((Itl K a).go i H /\ ys.length < sizeLine /\ ∀ x H', (Itl K a).yld i H x H' -> g x σ H' fun σ2 H2 => tt σ2 H2 fun b H3 => if b = true then te σ2 H3 fun y H4 => ∃ m', m' < m /\ W (i + 1) m' (ys ++ [y]) σ2 H4 else ∃ m', m' < m /\ W (i + 1) m' ys σ2 H3)
theorem tCompL_eq {k : Nat} {js : List Nat} {K : W.Frag} {tl : TE} {g : TG} {tt : TT} {te : TE} {σ : St} {H : Hp} {Q : VK} : ZDg k js (ZER K tl) g tt te σ H Q = tl σ H (fun x H1 => compL K g tt te (up k js σ) Q x H1) := rfl
theorem compL_of {K : W.Frag} {a : Addr} {xs : List V} {g : TG} {tt : TT} {te : TE} {Q : VK} {σ0 : St} {H : Hp} (h : SqL K H a xs) (hz : xs.length <= 1000) (P : Nat -> List V -> St -> Hp -> Prop) (h0 : P 0 [] σ0 H) (hl : ∀ i ys σ H, i <= xs.length -> P i ys σ H -> SqL K H a xs /\ ys.length <= i)
    (hs : ∀ i ys x σ H, i < xs.length -> xs[i]? = some x -> P i ys σ H -> g x σ H fun σ2 H2 => tt σ2 H2 fun b H3 => if b = true then te σ2 H3 fun y H4 => Nxt P xs.length i (ys ++ [y]) σ2 H4 else Nxt P xs.length i ys σ2 H3)
    (hd : ∀ ys σ H, P xs.length ys σ H -> ∀ p, H p = none -> Q (.ref p) (upd H p (.lst ys))) : compL K g tt te σ0 Q (.ref a) H := ⟨a, rfl, ⟨xs, h⟩, comp_list P h0 hl (ZAX hz) hs hd⟩
def compR (lo : Int) (g : TG) (tt : TT) (te : TE) (σ0 : St) (Q : VK) (n : Nat) (H1 : Hp) : Prop := ∃ W : Nat -> Nat -> List V -> St -> Hp -> Prop, (∃ m, W 0 m [] σ0 H1) /\ ∀ i m ys σ H, W i m ys σ H ->
  ((Itr lo n).stop i H /\ ys.length <= sizeLine /\ ∀ p, H p = none -> Q (.ref p) (upd H p (.lst ys))) ∨
  ((Itr lo n).go i H /\ ys.length < sizeLine /\ ∀ x H', (Itr lo n).yld i H x H' -> g x σ H' fun σ2 H2 => tt σ2 H2 fun b H3 => if b = true then te σ2 H3 fun y H4 => ∃ m', m' < m /\ W (i + 1) m' (ys ++ [y]) σ2 H4 else ∃ m', m' < m /\ W (i + 1) m' ys σ2 H3)
def compR1 (g : TG) (tt : TT) (te : TE) (σ0 : St) (Q : VK) (x : V) (H1 : Hp) : Prop := ∃ j : Int, [x] = [.int j] /\ -(2 ^ 62) <= j /\ j < 2 ^ 62 /\ compR 0 g tt te σ0 Q j.toNat H1
theorem tCompR1_eq {k : Nat} {js : List Nat} {t : TE} {g : TG} {tt : TT} {te : TE} {σ : St} {H : Hp} {Q : VK} : ZDg k js (ZEQ (ZBu t tNil)) g tt te σ H Q = t σ H (fun x H1 => compR1 g tt te (up k js σ) Q x H1) := rfl
theorem compR1_of {j : Int} {g : TG} {tt : TT} {te : TE} {Q : VK} {σ0 : St} {H : Hp} (h : -1000 <= j /\ j <= 1000) (P : Nat -> List V -> St -> Hp -> Prop) (h0 : P 0 [] σ0 H) (hl : ∀ i ys σ H, P i ys σ H -> ys.length <= i)
    (hs : ∀ i ys σ H, i < j.toNat -> P i ys σ H -> g (.int (0 + i)) σ H fun σ2 H2 => tt σ2 H2 fun b H3 => if b = true then te σ2 H3 fun y H4 => Nxt P j.toNat i (ys ++ [y]) σ2 H4 else Nxt P j.toNat i ys σ2 H3)
    (hd : ∀ ys σ H, P j.toNat ys σ H -> ∀ p, H p = none -> Q (.ref p) (upd H p (.lst ys))) : compR1 g tt te σ0 Q (.int j) H := ⟨j, rfl, by omega, by omega, comp_range P h0 hl (ZAX (by omega)) hs hd⟩
section
variable {X : Cx}
end
theorem gCons_eq {t : TG} {u : TGs} {v : V} {r : List V} {σ : St} {H : Hp} {Q : St -> Hp -> Prop} : ZET t u (v :: r) σ H Q = t v σ H (fun σ' H' => u r σ' H' Q) := by
  apply propext; unfold ZET; constructor
  . rintro ⟨v', r', e, q⟩; cases e; exact q
  . exact fun q => ⟨v, r, rfl, q⟩
theorem gNil_eq {σ : St} {H : Hp} {Q : St -> Hp -> Prop} : gNil [] σ H Q = Q σ H := by
  apply propext; unfold gNil; simp
theorem gTup_of {K : W.Frag} {n : Nat} {t : TGs} {a : Addr} {xs : List V} {σ : St} {H : Hp} {Q : St -> Hp -> Prop} (h : SqT K H a xs) (l : xs.length = n) (q : t xs σ H Q) : gTup K n t (.ref a) σ H Q := ⟨a, xs, rfl, h, l, q⟩
section
variable {X : Cx} {tg l e o : Expr} {es : List Expr} {tl te to : TE} {t : TA} {pos apos cpos : Pos} {f : Str}
theorem ix_listK (K : W.Frag) (h : X.K = K := by rfl) : IxR X (rIxL K) := h ▸ ZAS
theorem ix_tupK (K : W.Frag) (h : X.K = K := by rfl) : IxR X (rIxT K) := h ▸ ZBa
end
section
variable {X : Cx}
def rBits : V -> List V -> Hp -> VK -> Prop := fun x vs H Q => ∃ i, x = .int i /\ vs = [] /\ Q (.int (Builtin.Int.intBits i : Nat)) H
theorem mt_bitlen : MtR X "int.bit_length" rBits := by
  intro pins s σ H x vs v us Q I rx rv h
  obtain ⟨i, rfl, rfl, q⟩ := h
  obtain ⟨t, rfl⟩ := rx
  cases rv.zero
  refine call_gives F.slot_int_bit_length (typeIs_int s i t) F.entry_int_bit_length (F.args_int_bit_length_1 _) (PySem.AutoIntG2.int_bit_length_int_0 i t) ?_
  exact ⟨.int (Builtin.Int.intBits i : Nat), _, I.tok _, ⟨_, rfl⟩, q⟩
theorem bits_nat (n : Nat) (h : n ≠ 0) : Builtin.Int.intBits (n : Int) = n.log2 + 1 := by
  unfold Builtin.Int.intBits
  rw [if_neg (by simpa using h)]
  rfl
theorem tAug_eq {i : Nat} {te : TE} {ti : TIp} {D : Ends} {σ : St} {H : Hp} : tAug i te ti D σ H = tVar i σ H (fun x H0 => te σ H0 fun y H1 => ti x y H1 fun z H2 => D.nx (σ.set i (some z)) H2) := rfl
theorem ipI_int {f : Int -> Int -> Int} {i j : Int} {H : Hp} {Q : VK} : ipI f (.int i) (.int j) H Q = Q (.int (f i j)) H := by
  refine propext ⟨?_, fun q => ⟨i, j, rfl, rfl, q⟩⟩
  rintro ⟨a, b, e1, e2, q⟩
  cases e1; cases e2; exact q
theorem cx_K {CX : CXT} {P : Program} {w : World} {K : W.Frag} {mg : Str -> Option Value} {base : Heap} {N : List Str} {qual : Str} {scope : Scope} {f : Addr} {cd : Value} {A : Around} {outer : List Env} {s : Shared} {H : Hp} {E : XK} : (cxOf CX P w K mg base N qual scope f cd A outer s H E).K = K := rfl
def wBody (W : Nat -> St -> Hp -> Prop) (m : Nat) (tb : TS) (D : Ends) (σ : St) (H1 : Hp) : Prop := ∃ N : St -> Hp -> Prop, (∀ σ' H', N σ' H' -> ∃ m', m' < m /\ W m' σ' H') /\ tb { D with nx := N, ct := N, bk := D.nx } σ H1
theorem ZCG {W : Nat -> St -> Hp -> Prop} {m : Nat} {tb : TS} {D : Ends} {σ : St} {H1 : Hp} (h : tb { D with nx := fun σ' H' => ∃ m', m' < m /\ W m' σ' H', ct := fun σ' H' => ∃ m', m' < m /\ W m' σ' H', bk := D.nx } σ H1) : wBody W m tb D σ H1 := ⟨_, fun _ _ q => q, h⟩
theorem ZCF {c : TT} {tb : TS} {D : Ends} {σ : St} {H : Hp} (W : Nat -> St -> Hp -> Prop) (h0 : ∃ m, W m σ H) (hs : ∀ m σ H, W m σ H -> c σ H fun b H1 => if b = true then wBody W m tb D σ H1 else D.nx σ H1) : tWhile c tb D σ H := ⟨W, h0, hs⟩
end
structure Enc {α : Type} [DecidableEq α] (e : α -> PyData) (n : Nat) : Prop where
  eq : ∀ a b, PyData.eqv (e a) (e b) = decide (a = b)
  lay : ∀ a, (e a).canLay0 = true
  dep : ∀ a, (e a).depth <= n
theorem Enc.int : Enc PyData.int 0 := ⟨fun a b => by unfold PyData.eqv; rw [Bool.eq_iff_iff]; simp, fun a => by unfold PyData.canLay0; rfl, fun a => by unfold PyData.depth; exact yAA _⟩
section
variable {α β γ : Type} [DecidableEq α] [DecidableEq β] [DecidableEq γ] {e : α -> PyData} {f : β -> PyData} {g : γ -> PyData} {n m k : Nat}
theorem Enc.all (h : Enc e n) : ∀ xs ys : List α, PyData.eqvAll (xs.map e) (ys.map e) = decide (xs = ys)
  | [], [] => by simp [PyData.eqvAll]
  | x :: xs, [] => by simp [PyData.eqvAll]
  | [], y :: ys => by simp [PyData.eqvAll]
  | x :: xs, y :: ys => by
    rw [yAT, yAT]
    unfold PyData.eqvAll
    rw [h.eq, h.all xs ys, <- Bool.decide_and]
    exact decide_eq_decide.mpr (by rw [List.cons.injEq])
theorem Enc.layAll (h : Enc e n) : ∀ xs : List α, PyData.canLayAll0 (xs.map e) = true
  | [] => by simp [PyData.canLayAll0]
  | x :: xs => by rw [yAT]; unfold PyData.canLayAll0; rw [h.lay, h.layAll xs]; rfl
theorem Enc.depAll (h : Enc e n) : ∀ xs : List α, PyData.depthAll (xs.map e) <= n
  | [] => by simp [PyData.depthAll]
  | x :: xs => by
    rw [yAT]; unfold PyData.depthAll
    have a := h.dep x
    have b := h.depAll xs
    omega
theorem Enc.list (h : Enc e n) : Enc (fun xs : List α => PyData.list (xs.map e)) (n + 1) :=
  ⟨fun a b => by unfold PyData.eqv; exact h.all a b, fun a => by unfold PyData.canLay0; exact h.layAll a, fun a => by unfold PyData.depth; have := h.depAll a; omega⟩
theorem ZDd {K : W.Frag} {H : Hp} {x y : V} {a b : α} {Q : VK} (h : Enc e n) (hn : n <= 64) (dx : Dp K H (e a) x) (dy : Dp K H (e b) y) (q : Q (.bl (decide (a = b))) H) : rEqD K x y H Q :=
  ⟨_, _, dx, dy, h.lay a, h.lay b, yAK (h.dep a) hn, by rw [h.eq]; exact q⟩
theorem neD_of {K : W.Frag} {H : Hp} {x y : V} {a b : α} {Q : VK} (h : Enc e n) (hn : n <= 64) (dx : Dp K H (e a) x) (dy : Dp K H (e b) y) (q : Q (.bl (!decide (a = b))) H) : rNeD K x y H Q :=
  ⟨_, _, dx, dy, h.lay a, h.lay b, yAK (h.dep a) hn, by rw [h.eq]; exact q⟩
end
theorem ZBP {K : W.Frag} {H : Hp} {a : Addr} {xs : List Int} (h : SqL K H a (xs.map V.int)) : Dp K H (.list (xs.map PyData.int)) (.ref a) := dp_lst h (DpAll.ints xs)
section
variable {K : W.Frag} {H : Hp} {R : Bool -> Prop}
theorem ZDS {x c : V} {ty : Value} {b : Bool} (hc : ZDl c = true) (t : TyOf K H x ty) (k : PySem.W.kitOne K ty (cval c) = some b) (q : R b) : ∃ x' c' ty b, [x, c] = [x', c'] /\ ZDl c' = true /\ TyOf K H x' ty /\ PySem.W.kitOne K ty (cval c') = some b /\ R b := ⟨x, c, ty, b, rfl, hc, t, k, q⟩
theorem inst_int {i : Int} (q : R true) : ∃ x' c' ty b, [V.int i, V.ty "int"] = [x', c'] /\ ZDl c' = true /\ TyOf K H x' ty /\ PySem.W.kitOne K ty (cval c') = some b /\ R b := ZDS rfl (.int i) (kit_same rfl) q
theorem inst_int_bl {i : Int} (k : PySem.W.kitOne K (.type "int") (.type "bool") = some false) (q : R false) : ∃ x' c' ty b, [V.int i, V.ty "bool"] = [x', c'] /\ ZDl c' = true /\ TyOf K H x' ty /\ PySem.W.kitOne K ty (cval c') = some b /\ R b := ZDS rfl (.int i) k q
theorem inst_lst {a : Addr} {xs : List V} (h : H a = some (.lst xs)) (q : R true) : ∃ x' c' ty b, [V.ref a, V.ty "list"] = [x', c'] /\ ZDl c' = true /\ TyOf K H x' ty /\ PySem.W.kitOne K ty (cval c') = some b /\ R b := ZDS rfl (.lst h) (kit_same rfl) q
end
structure FunD (K : W.Frag) (x qual : Str) (st : Stmt) (f : Addr) (fd : FuncData) (dv : List Value) : Prop where
  ex : ∃ (oc : Value) (od : Option Addr) (T : Addr) (kV doc pm : Value) (an : Option Addr) (cdv ct : Value) (osl : Array (Option Value)),
    fd = W.fnOf x qual (ZAO st) (ZAN st) (ZAB st) (.ref T) kV doc pm an cdv ct /\ K.lookup f = some ⟨oc, od, .func fd, osl⟩ /\ W.codeIn K cdv qual = true /\ ∃ o n, K.lookup T = some o /\ o.data = .seq dv.toArray n
  kp : W.keepIn K (.ref f) = true
section
variable {P : Program} {w : World} {K : W.Frag} {mg : Str -> Option Value} {base : Heap}
theorem FunD.ok {x qual : Str} {st : Stmt} {f : Addr} {fd : FuncData} {dv : List Value} {N ps : List Str} {k : Nat} {sp : Sp} (F : FunD K x qual st f fd dv) (S : FnScope N ps (ZAB st)) (len : ∀ vs H Q E, sp vs H Q E -> vs.length = ps.length)
    (hbody : ∀ (cdv : Value) (A : Around) (outer : List Env) (s : Shared) (H : Hp) (vs : List V) (Q : VK) (E : XK), Room k (A.deeper (envOfC qual (ZAB st) s.heap.objs.size f cdv)) -> sp vs H Q E ->
      ∃ t, PSs (cxOf CX0 P w K mg base N qual (ZAB st) f cdv A outer s H E).nox (ZAN st) t /\ t { nx := fun _ H' => Q .non H', rt := Q } (start N vs) H) : FnOk P w K mg base CX0 (k + 1) f fd ps sp := by
  obtain ⟨oc, od, T, kV, doc, pm, an, cdv, ct, osl, rfl, lk, hcd, _⟩ := F.ex
  refine fn_of lk hcd S len fun A outer s H vs Q E hr hsp => ?_
  obtain ⟨t, h, q⟩ := hbody cdv A outer s H vs Q E hr hsp
  exact ⟨t, h.nox, q⟩
theorem FunD.binds {x qual : Str} {st : Stmt} {f : Addr} {fd : FuncData} {dv ds : List Value} {ps : List Str} (F : FunD K x qual st f fd dv)
    (h : ∀ (T : Addr) (kV doc pm : Value) (an : Option Addr) (cdv ct : Value) (us : List Value), (us ++ ds).length = ps.length -> ∃ k, bindArgs (W.fnOf x qual (ZAO st) (ZAN st) (ZAB st) (.ref T) kV doc pm an cdv ct) ⟨us, []⟩ = seqItems? (.ref T) >>= k /\ k (some dv.toArray) = pure (ps.zip (us ++ ds))) : Binds K fd ps ds := by
  obtain ⟨oc, od, T, kV, doc, pm, an, cdv, ct, osl, rfl, lk, hcd, o, n, hT, ho⟩ := F.ex
  intro s us KX hl
  obtain ⟨k, h1, h2⟩ := h T kV doc pm an cdv ct us hl
  exact PySem.W.binds_K KX rfl hT ho h1 h2
theorem funD_mk {x qual : Str} {st : Stmt} {f T : Addr} {oc : Value} {od an : Option Addr} {osl : Array (Option Value)} {kV doc pm cdv ct : Value} {dv : List Value} {ocT : Value} {odT : Option Addr} {nT : Nat} {slT : Array (Option Value)} (l : K.lookup f = some ⟨oc, od, .func (W.fnOf x qual (ZAO st) (ZAN st) (ZAB st) (.ref T) kV doc pm an cdv ct), osl⟩)
    (c : W.codeIn K cdv qual = true) (k : W.keepIn K (.ref f) = true) (t : K.lookup T = some ⟨ocT, odT, .seq dv.toArray nT, slT⟩) : FunD K x qual st f (W.fnOf x qual (ZAO st) (ZAN st) (ZAB st) (.ref T) kV doc pm an cdv ct) dv := ⟨⟨oc, od, T, kV, doc, pm, an, cdv, ct, osl, rfl, l, c, _, nT, t, rfl⟩, k⟩
end
structure KlD (P : Program) (w : World) (K : W.Frag) (mg : Str -> Option Value) (base : Heap) (CX : CXT) (x : Str) (C : Addr) (k : Nat) (ps : List Str) (sp : Sp) (dvs : List V) : Prop where
  mgC : mg x = some (.ref C)
  ex : ∃ f fd ds, FnOk P w K mg base CX k f fd ps sp /\ Binds K fd ps ds /\ Vals dvs ds /\ Mk K C f
section
variable {X : Cx} {CX : CXT} {k : Nat} {ps : List Str} {sp : Sp} {dvs : List V} {E : XK} {x m : Str} {C : Addr} {p pos apos : Pos} {e o : Expr} {es : List Expr} {ta : TE} {t : TA}
theorem pe_mkD (F : KlD X.prog X.w X.K X.mg X.base CX x C k ps sp dvs) (hr : Room (k + 1) X.A) (hg : Gl X x) (hx : ZBb CX X E) (ha : PA X (e :: es) t) (hdb : (x == ("__debug__" : Str)) = false := by decide) (he : starEach (e :: es) X.env = (false, eval e X.env) :: starEach es X.env := by rfl) (hpl : (backTo pos (starEach es X.env)).any (·.1) = false := by rfl) :
    PE X (.Call (.Name x p) (e :: es) [] pos) (ZDq C sp dvs E t) := by
  obtain ⟨f, fd, ds, h1, h2, hv, h3⟩ := F.ex
  exact pe_make h3 h1 hr hg F.mgC h2 hv hx ha hdb he hpl
end
section
variable {X : Cx}
theorem rng_ok {P : Program} {w : World} {H : Hp} {h : Heap} {a : Addr} {lo hi : Int} {t u v : Tok} (e : h.get? a = some { cls := .type "range", data := .fields #[.int lo t, .int hi u, .int 1 v] }) : ObjOk P w H h a (.rng lo hi) := ⟨t, u, v, e⟩
theorem call_rng1 : ZCg X (.type "range") (fun xs H Q => ∃ n : Int, xs = [.int n] /\ ∀ p, H p = none -> Q (.ref p) (upd H p (.rng 0 n))) := by
  intro pins s σ H xs us Q I r h
  obtain ⟨n, rfl, q⟩ := h
  obtain ⟨u, rfl, rx⟩ := ZDH r
  obtain ⟨t, rfl⟩ := rx
  exact call_range_1 ⟨.ref s.heap.objs.size, _, I.laid (fun b o e => Heap.get?_push_of_some _ e) (yAA _) (rng_ok (Heap.get?_push_size _ rfl)), rfl, q _ (I.hok.fresh (yAA _))⟩
def ZCX (lo hi : Int) : List Int := (List.range (hi - lo).toNat).map fun i : Nat => lo + (i : Int)
theorem ZBf (lo hi : Int) : (ZCX lo hi).length = (hi - lo).toNat := by unfold ZCX; rw [yAB, List.length_range]
theorem rints_get {lo hi : Int} {i : Nat} (h : i < (hi - lo).toNat) : (ZCX lo hi)[i]? = some (lo + i) := by unfold ZCX; rw [yAR, List.getElem?_range h]; rfl
theorem call_list_rng (hc : X.calm = true) : ZCg X (.type "list") (fun xs H Q => ∃ (p : Addr) (lo hi : Int), xs = [.ref p] /\ H p = some (.rng lo hi) /\ (-1000 <= lo /\ lo <= 1000 /\ -1000 <= hi /\ hi <= 1000) /\ ∀ l, H l = none -> Q (.ref l) (upd H l (.lst ((ZCX lo hi).map V.int)))) := by
  intro pins s σ H xs us Q I r h
  obtain ⟨p, lo, hi, rfl, hp, hb, q⟩ := h
  obtain ⟨u, rfl, rx⟩ := ZDH r
  cases rx
  obtain ⟨t, u, v, e⟩ := I.hok p _ hp
  have hh : X.A.handled = none := I.ok.hd hc
  refine call_list_range (n := (hi - lo).toNat) hh e (small_one (by omega) (by omega) (by omega) (by omega)) (by rw [rangeSize_one]; split <;> omega) (by omega) fun h' tk acc' c' hk hS hacc => ?_
  have hz : (ZCX lo hi).length <= 1000 * 2 := by rw [ZBf]; omega
  refine ⟨.ref s.heap.objs.size, _, I.laid (t' := tk) hk (yAA _) (o := .lst ((ZCX lo hi).map V.int)) ⟨?_, acc'.toList, c', ?_, by simpa using hS⟩, rfl, q _ (I.hok.fresh (yAA _))⟩
  . rw [yAB]
    exact yAK hz (by decide)
  . have hsz : acc'.size = (hi - lo).toNat := hacc.1
    have gen : ∀ (vs : List Value) (k : Nat) (zs : List Int), vs.length = zs.length -> (∀ (j : Nat) v z, vs[j]? = some v -> zs[j]? = some z -> ∃ t, v = Value.int z t) -> Vals (zs.map V.int) vs := by
      intro vs
      induction vs with
      | nil => intro k zs h1 _; cases zs with
        | nil => exact .nil
        | cons _ _ => cases h1
      | cons v r ih => intro k zs h1 h2; cases zs with
        | nil => cases h1
        | cons z zr => exact .cons (h2 0 v z rfl rfl) (ih 0 zr (by simpa using h1) fun j v' z' a b => h2 (j + 1) v' z' (by simpa using a) (by simpa using b))
    refine gen acc'.toList 0 (ZCX lo hi) (by rw [ZBf, yAL, hsz]) fun j v z a b => ?_
    have a' : acc'[j]? = some v := by simpa using a
    obtain ⟨t, rfl⟩ := hacc.2 j v a'
    have hj : j < (hi - lo).toNat := by have := (yBM.mp a').1; omega
    rw [rints_get hj] at b
    cases b
    exact ⟨t, by rw [Int.mul_one]⟩
end
theorem Same.get {H H' : Hp} {b : Addr} {o : HO} (s : Same H H') (h : H b = some o) : H' b = some o := s b o h
theorem newH {H : Hp} {p : Addr} (h : H p = none) (o : HO) : ∃ H', upd H p o = H' /\ Same H H' /\ H' p = some o := ⟨_, rfl, ZAR h o, ZAF⟩
section
variable {K : W.Frag} {a : Addr} {xs : List V} {te : TE} {Q : VK} {σ0 rest : St} {H : Hp}
end
section
variable {X : Cx} {pins : List (Addr × Obj)} {σ : St} {H : Hp} {s : Shared}
theorem Inv.turn2 (I : Inv X pins σ H s) {ch : List Addr} {h' : Heap} {p : Addr} {o : HO} {t' : Nat} (hf : ∀ b ∈ ch, FpOk X pins H b) (k : ∀ b ob, b ∉ ch -> s.heap.get? b = some ob -> h'.get? b = some ob)
    (hp : s.heap.objs.size <= p) (new : ObjOk X.prog X.w (upd H p o) h' p o) : Inv X pins σ (upd H p o) { s with heap := h', toks := t' } := by
  have hn : H p = none := I.hok.fresh hp
  have tr : ∀ b u, H b = some u -> b ∉ ch := fun b u e z => by rw [(hf b z).1] at e; cases e
  refine I.call (g' := s.gens) (t' := t') (d' := s.drawn) (ch := ch) ⟨fun b ob e n _ hx => k b ob hx e, fun b ob e n _ hx => ⟨ob.slots, k b ob hx e⟩, fun b ob e n _ => ?_, fun b ob e hx => ⟨ob, k b ob hx e⟩, fun b xs e => ?_, fun b ob u e => ?_, fun b qs e => ⟨#[], ?_⟩⟩ (fun b u e => ?_) I.bare fun b hb => ?_
  . rw [ZAI (yAN (yAQ (Heap.lt_size e) hp))]; exact n
  . rw [ZAI (ZAD e hn)]; exact e
  . rw [ZAI (ZAD e hn)]; exact e
  . rw [ZAI (ZAD e hn), e]; simp
  . by_cases hb : b = p
    . subst hb; rw [ZAF] at e; cases e; exact new
    . rw [ZAI hb] at e
      refine (I.hok b u e).stay (fun c v hc q => k c v ?_ q) (fun c q => by rw [ZAI (ZAD q hn)]; exact q) fun c xs q => by rw [ZAI (ZAD q hn)]; exact q
      rcases hc with z | z
      . rw [z]; exact tr b u e
      . exact tr c _ z
  . obtain ⟨a1, a2, a3, a4, a5, a6⟩ := hf b hb
    exact ⟨a4, a2, a5, a6⟩
end
def Ite (K : W.Frag) (a : Addr) : It :=
  ⟨fun i H => ∃ xs x, SqL K H a xs /\ xs[i]? = some x, fun i H v H' => ∃ p x, H p = none /\ (∀ xs, SqL K H a xs -> xs[i]? = some x) /\ H' = upd H p (.tup [.int i, x]) /\ v = .ref p, fun i H => ∃ xs, SqL K H a xs /\ xs.length <= i⟩
theorem turn_enum {P : Program} {w : World} {K : W.Frag} {elts : List Expr} {x1} {tpos : Pos} (a e it : Addr) (hne : e ≠ it) : Turn P w K (.Tuple elts x1 tpos) (Ite K a) [e, it] e (fun i h => (∃ old, IsEnum h e it ((i : Nat) : Int) old) /\ h.IsListIter it a i) where
  mem := by simp
  obj := fun i h st b hb => by
    obtain ⟨⟨old, he⟩, o, e2, c, d⟩ := st
    have hb' : b = e ∨ b = it := by simpa using hb
    rcases hb' with rfl | rfl
    . exact ⟨_, he, fun v z => by cases z⟩
    . exact ⟨o, e2, fun v z => by rw [d] at z; cases z⟩
  keep := fun i h h' st k => ⟨let ⟨old, he⟩ := st.1; ⟨old, k e (by simp) _ he⟩, st.2.at fun o q => k it (by simp) o q⟩
  item := by
    intro X hP hw hK hc i pins s σ H E I hf st hg
    subst hP hw hK
    obtain ⟨xs, x, hq, hx⟩ := hg
    obtain ⟨its, rv, p, hz⟩ := I.list hq
    obtain ⟨u, hu, ru⟩ := rv.get hx
    obtain ⟨⟨old, he⟩, hit⟩ := st
    refine wpAny_pyNext_enum_item he hit p.isList (x := u) (by simpa using hu) hne fun h1 heo hit1 ht1 hz1 hk1 => ⟨_, rfl, ?_⟩
    refine wpAny_letOwnedTupleGo_enum heo fun h2 he2 hs2 => ?_
    replace hs2 : Heap.SameBut e h1 h2 := hs2
    have hel : e < s.heap.objs.size := Heap.lt_size he
    have ht2 : h2.get? s.heap.objs.size = some { cls := .type "tuple", data := .seq #[.int i s.toks, u] } := (hs2.2 _ (Nat.ne_of_gt hel)).trans ht1
    have hnew : H s.heap.objs.size = none := I.hok.fresh (yAA _)
    refine ⟨.ref s.heap.objs.size, upd H s.heap.objs.size (.tup [.int i, x]), I.turn2 (ch := [e, it]) (t' := s.toks + 1) hf (fun b ob hb q => ?_) (yAA _) ?_, rfl, ⟨_, x, hnew, fun ys hy => by rw [I.list_inj hy hq]; exact hx, rfl, rfl⟩, ⟨⟨u, ?_⟩, ?_⟩, fun b hb => ?_⟩
    . have hbe : b ≠ e := fun z => hb (by simp [z])
      have hbi : b ≠ it := fun z => hb (by simp [z])
      exact (hs2.2 b hbe).trans (hk1 b ob hbe hbi q)
    . exact ⟨ZAX (show 2 <= 1000 by decide), [.int i s.toks, u], .cons ⟨_, rfl⟩ (.cons ru .nil), _, ht2, rfl, 0, rfl⟩
    . have : ((i + 1 : Nat) : Int) = (i : Int) + 1 := by push_cast; rfl
      rw [this]; exact he2
    . exact hit1.at fun o q => (hs2.2 it (Ne.symm hne)).trans q
    . have hn := (hf b hb).1
      have hb' : b = e ∨ b = it := by simpa using hb
      obtain ⟨oi, hoi, _⟩ := hit
      have hlt : b < s.heap.objs.size := by
        rcases hb' with rfl | rfl
        . exact hel
        . exact Heap.lt_size hoi
      rw [ZAI (yAN hlt)]; exact hn
  done := by
    intro X hP hw hK hc i pins s σ H E I hf st hg
    subst hP hw hK
    obtain ⟨xs, hq, hx⟩ := hg
    obtain ⟨its, rv, p, hz⟩ := I.list hq
    obtain ⟨⟨old, he⟩, hit⟩ := st
    obtain ⟨f0, f1, f2, f3, f4, f5⟩ := hf it (by simp)
    have hl := rv.length
    exact wpAny_pyNext_enum_end (I.ok.hd hc) he hit p.isList (by rw [List.getElem?_toArray]; exact yBU (by omega)) fun h' eb => ⟨rfl, I.turned (t' := s.toks) (fun b o hb e => eb b o hb e) f0 f1 f3 f4 f5⟩
  self := fun _ _ _ _ _ st h => let ⟨_, he⟩ := st.1; wpAny_pyIter_enum he h
section
variable {X : Cx}
def ZES (K : W.Frag) (ta : TA) : TI := fun σ H R => ta σ H fun vs H1 => ∃ a, vs = [.ref a] /\ (∃ xs, SqL K H1 a xs) /\ R (Ite K a) H1
theorem pi_enum {elts : List Expr} {x1} {tpos : Pos} {l : Expr} {ta : TA} {p pos : Pos} (hg : Gl X "enumerate") (hm : X.mg "enumerate" = none) (ha : PA X [l] ta) (hs : starEach [l] X.env = [(false, eval l X.env)] := by rfl) :
    PI X (.Tuple elts x1 tpos) (.Call (.Name "enumerate" p) [l] [] pos) (ZES X.K ta) := by
  intro pins s σ H R I h
  refine Call_ (ZCq I hg hm boot_enumerate (PyProof.Rows.callWith_type1 (thn (ha pos pins s σ H _ I h) fun us s1 ⟨vs, H1, I1, r1, q1⟩ => ?_) hs rfl))
  obtain ⟨a, e, ⟨xs, hq⟩, q⟩ := q1
  subst e
  obtain ⟨u, rfl, ru⟩ := ZDH r1
  cases ru
  obtain ⟨its, rv, pl, hz⟩ := I1.list hq
  refine call_enumerate_list pl.isList fun h' he hit hsz hk => wpAny_pyIter_enum he ?_
  have I2 : Inv X pins σ H1 { s1 with heap := h' } := I1.kept (t' := s1.toks) hk
  refine ⟨s1.heap.objs.size + 1, [s1.heap.objs.size + 1, s1.heap.objs.size], _, Ite X.K a, H1, rfl, I2, turn_enum a _ _ (Nat.succ_ne_self _), ⟨⟨_, he⟩, hit⟩, fun b hb => ?_, q⟩
  have hb' : b = s1.heap.objs.size + 1 ∨ b = s1.heap.objs.size := by simpa using hb
  have hle : s1.heap.objs.size <= b := by
    rcases hb' with rfl | rfl
    . exact yAY _
    . exact yAA _
  exact I1.fpOk hle (I1.hok.fresh hle)
end
section
variable {K : W.Frag} {a : Addr} {xs : List V} {g : TG} {tb : TS} {D : Ends} {σ : St} {H : Hp}
def forE (K : W.Frag) (g : TG) (tb : TS) (D : Ends) (σ : St) (x : V) (H1 : Hp) : Prop := ∃ a, [x] = [.ref a] /\ (∃ xs, SqL K H1 a xs) /\ ∃ W : Nat -> Nat -> St -> Hp -> Prop, (∃ m, W 0 m σ H1) /\ ∀ i m σ H, W i m σ H ->
  ((Ite K a).stop i H /\ D.nx σ H) ∨ ((Ite K a).go i H /\ ∃ N : St -> Hp -> Prop, (∀ σ' H', N σ' H' -> ∃ m', m' < m /\ W (i + 1) m' σ' H') /\ ∀ x H', (Ite K a).yld i H x H' -> g x σ H' fun σ2 H2 => tb { D with nx := N, ct := N, bk := D.nx } σ2 H2)
theorem tForE_eq {t : TE} : tFor (ZES K (ZBu t tNil)) g tb D σ H = t σ H (fun x H1 => forE K g tb D σ x H1) := rfl
theorem forE_of (h : SqL K H a xs) (Pv : Nat -> St -> Hp -> Prop) (h0 : Pv 0 σ H) (hl : ∀ i σ H, i <= xs.length -> Pv i σ H -> SqL K H a xs)
    (hs : ∀ (i : Nat) x σ H p, xs[i]? = some x -> Pv i σ H -> H p = none -> g (.ref p) σ (upd H p (.tup [.int i, x])) fun σ2 H2 => tb { D with nx := Pv (i + 1), ct := Pv (i + 1), bk := D.nx } σ2 H2) (hd : ∀ σ H, Pv xs.length σ H -> D.nx σ H) : forE K g tb D σ (.ref a) H := by
  refine ⟨a, rfl, ⟨xs, h⟩, fun i m σ H => m = xs.length - i /\ i <= xs.length /\ Pv i σ H, ⟨xs.length, by simp, yAH _, h0⟩, ?_⟩
  rintro i m σ H ⟨rfl, hi, p⟩
  have q := hl i σ H hi p
  by_cases hlt : i < xs.length
  . refine .inr ⟨⟨xs, xs[i], q, by simp [hlt]⟩, Pv (i + 1), fun σ' H' p' => ⟨xs.length - (i + 1), by omega, rfl, hlt, p'⟩, fun x H' y => ?_⟩
    obtain ⟨pp, x', hn, y, rfl, rfl⟩ := y
    exact hs i x' σ _ pp (y xs q) p hn
  . have e : i = xs.length := by omega
    subst e
    exact .inl ⟨⟨xs, q, yAA _⟩, hd σ H p⟩
variable {tt : TT} {te : TE} {Q : VK} {σ0 : St}
def compE (K : W.Frag) (g : TG) (tt : TT) (te : TE) (σ0 : St) (Q : VK) (x : V) (H1 : Hp) : Prop := ∃ a, [x] = [.ref a] /\ (∃ xs, SqL K H1 a xs) /\ ∃ W : Nat -> Nat -> List V -> St -> Hp -> Prop, (∃ m, W 0 m [] σ0 H1) /\ ∀ i m ys σ H, W i m ys σ H ->
  ((Ite K a).stop i H /\ ys.length <= sizeLine /\ ∀ p, H p = none -> Q (.ref p) (upd H p (.lst ys))) ∨
  ((Ite K a).go i H /\ ys.length < sizeLine /\ ∀ x H', (Ite K a).yld i H x H' -> g x σ H' fun σ2 H2 => tt σ2 H2 fun b H3 => if b = true then te σ2 H3 fun y H4 => ∃ m', m' < m /\ W (i + 1) m' (ys ++ [y]) σ2 H4 else ∃ m', m' < m /\ W (i + 1) m' ys σ2 H3)
theorem tCompE_eq {k : Nat} {js : List Nat} {t : TE} : ZDg k js (ZES K (ZBu t tNil)) g tt te σ H Q = t σ H (fun x H1 => compE K g tt te (up k js σ) Q x H1) := rfl
end
abbrev FZ (o : Obj) : HO := .frz o (.ext fun _ => True)
theorem ZD8 {P : Program} {w : World} {H : Hp} {h : Heap} {a : Addr} {o : Obj} (e : h.get? a = some o) : ObjOk P w H h a (FZ o) := ⟨e, trivial, ⟨o, e⟩, fun _ _ _ _ => trivial⟩
theorem ZCr {P : Program} {w : World} {H : Hp} {h : Heap} {a : Addr} {o : Obj} (x : HOk P w H h) (e : H a = some (FZ o)) : h.get? a = some o := (x a _ e).1
def CodeAt (H : Hp) (c : Addr) (qual : Str) : Prop := ∃ oc vs t, H c = some (FZ oc) /\ oc.data = .fields vs /\ vs[1]? = some (.str qual t)
theorem CodeAt.rec {P : Program} {w : World} {H : Hp} {h : Heap} {c : Addr} {qual : Str} (x : HOk P w H h) (k : CodeAt H c qual) : h.CodeRec (.ref c) qual :=
  let ⟨oc, vs, t, e, d, v⟩ := k; ⟨c, oc, vs, t, rfl, ZCr x e, d, v⟩
structure CloL (H : Hp) (g : Addr) (iname iq : Str) (ip : Arguments) (ib : List Stmt) (isc : Scope) (fr : List Str) (cs : List V) (cl : List (Str × Addr)) : Prop where
  obj : ∃ (doc pm ctv : Value) (c' : Addr), H g = some (FZ (PySem.W.fnMade iname iq ip ib isc cl doc pm c' ctv)) /\ CodeAt H c' iq
  keys : ∀ x c, cl.lookup x = some c -> x ∈ fr
  inj : ∀ x y c, cl.lookup x = some c -> cl.lookup y = some c -> x = y
  cell : ∀ (i : Nat) (x : Str), fr[i]? = some x -> ∃ v c u o, cs[i]? = some v /\ cl.lookup x = some c /\ RelV v u /\ H c = some (FZ o) /\ o.data = .cell (some u)
  len : cs.length = fr.length
def Clo (H : Hp) (g : Addr) (iname iq : Str) (ip : Arguments) (ib : List Stmt) (isc : Scope) (fr : List Str) (cs : List V) : Prop := ∃ cl, CloL H g iname iq ip ib isc fr cs cl
def ZDG (H H' : Hp) : Prop := ∀ b o, H b = some (FZ o) -> H' b = some (FZ o)
theorem CodeAt.mono {H H' : Hp} {c : Addr} {q : Str} (e : ZDG H H') (k : CodeAt H c q) : CodeAt H' c q := let ⟨oc, vs, t, a, d, v⟩ := k; ⟨oc, vs, t, e _ _ a, d, v⟩
theorem CloL.mono {H H' : Hp} {g : Addr} {iname iq : Str} {ip : Arguments} {ib : List Stmt} {isc : Scope} {fr : List Str} {cs : List V} {cl : List (Str × Addr)} (e : ZDG H H') (k : CloL H g iname iq ip ib isc fr cs cl) : CloL H' g iname iq ip ib isc fr cs cl where
  obj := let ⟨doc, pm, ctv, c', a, b⟩ := k.obj; ⟨doc, pm, ctv, c', e _ _ a, b.mono e⟩
  keys := k.keys
  inj := k.inj
  cell := fun i x h => let ⟨v, c, u, o, a1, a2, a3, a4, a5⟩ := k.cell i x h; ⟨v, c, u, o, a1, a2, a3, e _ _ a4, a5⟩
  len := k.len
theorem Clo.mono {H H' : Hp} {g : Addr} {iname iq : Str} {ip : Arguments} {ib : List Stmt} {isc : Scope} {fr : List Str} {cs : List V} (e : ZDG H H') (k : Clo H g iname iq ip ib isc fr cs) : Clo H' g iname iq ip ib isc fr cs := let ⟨cl, x⟩ := k; ⟨cl, x.mono e⟩
theorem CloL.inj' {H : Hp} {g : Addr} {iname iq : Str} {ip : Arguments} {ib : List Stmt} {isc : Scope} {fr : List Str} {cs cs' : List V} {cl cl' : List (Str × Addr)} (k : CloL H g iname iq ip ib isc fr cs cl) (k' : CloL H g iname iq ip ib isc fr cs' cl') : cs = cs' := by
  obtain ⟨d1, p1, t1, c1, e1, _⟩ := k.obj
  obtain ⟨d2, p2, t2, c2, e2, _⟩ := k'.obj
  rw [e1] at e2
  have ecl : cl = cl' := by
    have := Option.some.inj e2
    injection this with h1 h2
    injection h1 with h3 h4 h5
    injection h5 with h6
    injection h6
  subst ecl
  refine List.ext_getElem? fun i => ?_
  by_cases hi : i < fr.length
  . obtain ⟨v, c, u, o, a1, a2, a3, a4, a5⟩ := k.cell i _ (yAM hi)
    obtain ⟨v', c', u', o', b1, b2, b3, b4, b5⟩ := k'.cell i _ (yAM hi)
    rw [a2] at b2
    cases b2
    rw [a4] at b4
    have eo : o = o' := by
      have := Option.some.inj b4
      injection this
    subst eo
    rw [a5] at b5
    have eu : u = u' := by injection b5 with h; injection h
    subst eu
    rw [a1, b1, a3.inj b3]
  . rw [yBU (by rw [k.len]; omega), yBU (by rw [k'.len]; omega)]
open Classical in
noncomputable def hid (cl : List (Str × Addr)) (H : Hp) : Hp := fun b => if ∃ x, cl.lookup x = some b then none else H b
open Classical in
noncomputable def back (cl : List (Str × Addr)) (H H1 : Hp) : Hp := fun b => if ∃ x, cl.lookup x = some b then H b else H1 b
theorem ZDT {cl : List (Str × Addr)} {H : Hp} {x : Str} {b : Addr} (h : cl.lookup x = some b) : hid cl H b = none := by unfold hid; rw [if_pos ⟨x, h⟩]
theorem ZCd {cl : List (Str × Addr)} {H : Hp} {b : Addr} (h : ¬ ∃ x, cl.lookup x = some b) : hid cl H b = H b := by unfold hid; rw [if_neg h]
theorem ZCs {cl : List (Str × Addr)} {H H1 : Hp} {x : Str} {b : Addr} (h : cl.lookup x = some b) : back cl H H1 b = H b := by unfold back; rw [if_pos ⟨x, h⟩]
theorem ZBt {cl : List (Str × Addr)} {H H1 : Hp} {b : Addr} (h : ¬ ∃ x, cl.lookup x = some b) : back cl H H1 b = H1 b := by unfold back; rw [if_neg h]
theorem hid_le {cl : List (Str × Addr)} {H : Hp} {b : Addr} {o : HO} (h : hid cl H b = some o) : H b = some o := by
  by_cases q : ∃ x, cl.lookup x = some b
  . obtain ⟨x, q⟩ := q; rw [ZDT q] at h; cases h
  . rw [ZCd q] at h; exact h
def ZEV (cl : List (Str × Addr)) (H : Hp) : Prop := ∀ x c, cl.lookup x = some c -> ∃ u o, H c = some (FZ o) /\ o.data = .cell u
theorem CloL.cells {H : Hp} {g : Addr} {iname iq : Str} {ip : Arguments} {ib : List Stmt} {isc : Scope} {fr : List Str} {cs : List V} {cl : List (Str × Addr)} (k : CloL H g iname iq ip ib isc fr cs cl) : ZEV cl H := fun x c h => by
  obtain ⟨i, hi⟩ := yBV (k.keys x c h)
  obtain ⟨v, c2, u, o, _, h2, _, h4, h5⟩ := k.cell i x hi
  rw [h] at h2
  cases h2
  exact ⟨_, o, h4, h5⟩
theorem ZAz {cl : List (Str × Addr)} {H : Hp} {b : Addr} {o : HO} (C : ZEV cl H) (h : H b = some o) (n : ∀ ob, o ≠ FZ ob) : hid cl H b = some o := by
  rw [ZCd, h]
  rintro ⟨x, q⟩
  obtain ⟨u, ob, e, _⟩ := C x b q
  rw [h] at e
  exact n ob (Option.some.inj e)
theorem ZCP {cl : List (Str × Addr)} {H : Hp} {b : Addr} (C : ZEV cl H) (h : hid cl H b = none) (n : ¬ ∃ x, cl.lookup x = some b) : H b = none := by rw [ZCd n] at h; exact h
theorem ZBO {cl : List (Str × Addr)} {H H1 : Hp} {l : Addr} {o : HO} (n : ¬ ∃ x, cl.lookup x = some l) : back cl H (upd H1 l o) = upd (back cl H H1) l o := by
  funext b
  by_cases q : ∃ x, cl.lookup x = some b
  . have : b ≠ l := fun e => n (e ▸ q)
    obtain ⟨x, q⟩ := q
    rw [ZCs q, ZAI this, ZCs q]
  . rw [ZBt q]
    by_cases e : b = l
    . subst e; rw [ZAF, ZAF]
    . rw [ZAI e, ZAI e, ZBt q]
theorem ZCR {cl : List (Str × Addr)} {H : Hp} : back cl H (hid cl H) = H := by
  funext b
  by_cases q : ∃ x, cl.lookup x = some b
  . obtain ⟨x, q⟩ := q; rw [ZCs q]
  . rw [ZBt q, ZCd q]
def NoC (cl : List (Str × Addr)) (H : Hp) : Prop := ∀ x c, cl.lookup x = some c -> H c = none
structure CloScope (N ps fr : List Str) (sc : Scope) : Prop where
  kind : sc.kind = .function
  co : sc.isCoroutine = false
  gen : sc.isGenerator = false
  nd : N.Nodup
  pre : N.take ps.length = ps
  suf : N.drop (N.length - fr.length) = fr
  two : ps.length + fr.length <= N.length
  par : ∀ x ∈ ps, sc.names.lookup x = some .local
  nocell : ∀ y ∈ sc.names, y.2 ≠ .cell
  free : ∀ x ∈ fr, sc.names.lookup x = some .free
  only : ∀ x, sc.names.lookup x = some .free -> x ∈ fr
def ZB4 (N : List Str) (vs cs : List V) : St := vs.map some ++ (List.replicate (N.length - vs.length - cs.length) none ++ cs.map some)
def ZDm (P : Program) (w : World) (K : W.Frag) (mg : Str -> Option Value) (base : Heap) (N : List Str) (qual : Str) (scope : Scope) (f : Addr) (cd : Value) (cl : List (Str × Addr)) (A : Around) (outer : List Env) (s : Shared) (H : Hp) : Cx where
  prog := P
  w := w
  K := K
  mg := mg
  base := base
  A := A.deeper (PySem.W.envX qual scope s.heap.objs.size f cd cl)
  N := N
  s₀ := s
  H₀ := H
  env := PySem.W.envX qual scope s.heap.objs.size f cd cl
  outer := outer
  stack := PySem.W.envX qual scope s.heap.objs.size f cd cl :: outer
  ex := []
  calm := true
  fn := fun _ => false
  pn := []
  xe := fun _ _ => False
theorem startC_get {N : List Str} {vs cs : List V} {i : Nat} {v : V} (hl : vs.length + cs.length <= N.length) (h : (ZB4 N vs cs)[i]? = some (some v)) :
    vs[i]? = some v ∨ (N.length - cs.length <= i /\ cs[i - (N.length - cs.length)]? = some v) := by
  unfold ZB4 at h
  by_cases h1 : i < vs.length
  . rw [yBH (by simpa using h1), yAR] at h
    cases e : vs[i]? with
    | none => rw [e] at h; cases h
    | some a => rw [e] at h; cases h; exact .inl rfl
  . rw [yBG (by simpa using Nat.le_of_not_lt h1), yAB] at h
    by_cases h2 : i - vs.length < N.length - vs.length - cs.length
    . rw [yBH (by simpa using h2), List.getElem?_replicate, if_pos h2] at h
      cases h
    . rw [yBG (by simpa using Nat.le_of_not_lt h2), yCB, yAR] at h
      right
      refine ⟨by omega, ?_⟩
      rw [show i - (N.length - cs.length) = i - vs.length - (N.length - vs.length - cs.length) by omega]
      cases e : cs[i - vs.length - (N.length - vs.length - cs.length)]? with
      | none => rw [e] at h; cases h
      | some a => rw [e] at h; cases h; rfl
theorem zip_fst_sub : ∀ (ps : List Str) (us : List Value), ((ps.zip us).map (·.1)).Sublist ps
  | [], _ => by simp
  | p :: ps, [] => by simp
  | p :: ps, u :: us => by rw [List.zip_cons_cons, yAT]; exact (zip_fst_sub ps us).cons₂ p
theorem lookup_nodup {α : Type} : ∀ {cs : List (Str × α)} {n : Str} {c : α}, (cs.map (·.1)).Nodup -> (n, c) ∈ cs -> cs.lookup n = some c
  | (m, d) :: r, n, c, hn, h => by
    rw [yAT] at hn
    have hn' := yBT.mp hn
    rw [yBN]
    rcases yAD.mp h with e | h
    . cases e; simp
    . have : n ≠ m := fun z => hn'.1 (z ▸ List.mem_map_of_mem (f := (·.1)) h)
      have : (n == m) = false := by simpa using this
      rw [this]
      exact lookup_nodup hn'.2 h
theorem zip_lookup {ps : List Str} {us : List Value} (nd : ps.Nodup) {i : Nat} {x : Str} {u : Value} (h1 : ps[i]? = some x) (h2 : us[i]? = some u) : ((ps.zip us).reverse).lookup x = some u := by
  have hm : (x, u) ∈ (ps.zip us).reverse := by
    rw [List.mem_reverse]
    refine yAO (i := i) ?_
    rw [List.getElem?_zip_eq_some]
    exact ⟨h1, h2⟩
  have hnd : ((ps.zip us).reverse.map (·.1)).Nodup := by
    rw [List.map_reverse]
    exact List.pairwise_reverse.mpr (List.Pairwise.imp (fun h => Ne.symm h) (nd.sublist (zip_fst_sub ps us)))
  exact lookup_nodup hnd hm
section
variable {P : Program} {w : World} {K : W.Frag} {mg : Str -> Option Value} {base : Heap} {A : Around} {outer : List Env} {s : Shared} {H : Hp} {g : Addr} {iname iq : Str} {ip : Arguments} {ib : List Stmt} {isc : Scope} {N ps fr : List Str} {cs vs : List V} {us : List Value} {cl : List (Str × Addr)} {k : Nat}
theorem clo_call {Q : VK} (C : CloL H g iname iq ip ib isc fr cs cl) (S : CloScope N ps fr isc) (hr : Room (k + 1) A) (e0 : Env0 P w K mg base A outer s H) (hl : vs.length = ps.length) (r : Vals vs us)
    (hbind : ∀ (doc pm ctv : Value) (c' : Addr), bindArgs (PySem.W.fnX iname iq ip ib isc cl .none .none doc pm none (.ref c') ctv) ⟨us, []⟩ = pure (ps.zip us))
    (hbody : ∀ (cd : Value) (A' : Around), Room k A' -> ∃ t, PSs (ZDm P w K mg base N iq isc g cd cl A outer s (hid cl H)) ib t /\ t { nx := fun _ H' => NoC cl H' -> Q .non (back cl H H'), rt := fun v H' => NoC cl H' -> Q v (back cl H H') } (ZB4 N vs cs) (hid cl H)) :
    codeAny (model P w) A (.call (.ref g) ⟨us, []⟩) (fun r s' => match r with | .ok (.ret u) => CE outer P w H s Q u s' | _ => False) s := by
  obtain ⟨doc, pm, ctv, c', hg, hc⟩ := C.obj
  have hget := ZCr e0.hok hg
  have lim : s.heap.NoLimit := e0.mod.nolimit.keeps fun b o e => (e0.bs b o e).1
  have hnd : ps.Nodup := by rw [<- S.pre]; exact S.nd.sublist (List.take_sublist _ _)
  refine codeAny_call_def (o := PySem.W.fnMade iname iq ip ib isc cl doc pm c' ctv) (fd := PySem.W.fnX iname iq ip ib isc cl .none .none doc pm none (.ref c') ctv) (body := ib) (binds := ps.zip us) hr.depth hget rfl lim (hc.rec e0.hok) rfl (.of_eq (hbind doc pm ctv c')) S.nocell (fun y hy => S.par _ (List.of_mem_zip hy).1) (fun h₁ hns hk₁ => ?_) S.co S.gen S.kind
  obtain ⟨t, ht, hq⟩ := hbody (.ref c') _ (hr.deeper (PySem.W.envX iq isc s.heap.objs.size g (.ref c') cl))
  have cellAt : ∀ x c, cl.lookup x = some c -> ∃ o u, H c = some (FZ o) /\ s.heap.get? c = some o /\ o.data = .cell u := fun x c h => by
    obtain ⟨u, o, e, d⟩ := C.cells x c h
    exact ⟨o, u, e, ZCr e0.hok e, d⟩
  have cfs : ∀ x c, cl.lookup x = some c -> c ∉ frs outer := fun x c h hb => by
    obtain ⟨o, u, e, _⟩ := cellAt x c h
    rw [e0.frf c hb] at e; cases e
  have hpl : ps.length <= N.length := by have := S.two; omega
  have I : Inv (ZDm P w K mg base N iq isc g (.ref c') cl A outer s (hid cl H)) [] (ZB4 N vs cs) (hid cl H) { s with heap := h₁, toks := s.toks + (ps.zip us).length } := by
    refine ⟨⟨e0.mod, S.kind, rfl, rfl, yAA _, C.inj, fun x hx => ?_, fun y c h => absurd h (by simp [ZDm]), fun _ => hr.hd, Around.frames_deeper e0.frames, .inr ⟨rfl, rfl⟩, fun b z => absurd (show b ∈ ([] : List Addr) from z) (by simp), fun b o e => ?_, e0.bsz, fun b _ _ z => absurd (show b ∈ ([] : List Addr) from z) (by simp), fun b z => absurd (show b ∈ ([] : List Addr) from z) (by simp), e0.funs, fun b hb => ?_⟩,
      rfl, e0.bare, Un.kept hk₁, ⟨_, hns, fun i x v h1 h2 h3 => ?_⟩, fun x c h => ?_, ?_, fun x c h => ZDT h, fun p hp => absurd (show p ∈ ([] : List (Addr × Obj)) from hp) (by simp), ?_, ?_⟩
    . have hx : isc.names.lookup x = some .cell ∨ isc.names.lookup x = some .free := hx
      rcases hx with hx | hx
      . exact absurd rfl (S.nocell _ (PySem.mem_of_lookup hx))
      . obtain ⟨i, hi⟩ := yBV (S.only x hx)
        obtain ⟨v, c, u, o, _, h2, _⟩ := C.cell i x hi
        exact ⟨c, h2⟩
    . refine ⟨(e0.bs b o e).1, ?_⟩
      show hid cl H b = none
      by_cases q : ∃ x, cl.lookup x = some b
      . obtain ⟨x, q⟩ := q; exact ZDT q
      . rw [ZCd q]; exact (e0.bs b o e).2
    . show hid cl H b = none
      rw [ZCd]
      . exact e0.frf b hb
      . rintro ⟨x, q⟩; exact cfs x b q hb
    . have h1 : N[i]? = some x := h1
      have hcl := C.len
      rcases startC_get (by rw [hl, hcl]; exact S.two) h2 with h4 | ⟨h4, h5⟩
      . obtain ⟨u, hu, rv⟩ := r.get h4
        have hi : i < vs.length := (yAG.mp h4).1
        have hp : ps[i]? = some x := by rw [<- S.pre, List.getElem?_take_of_lt (by omega)]; exact h1
        exact ⟨u, rv, .inl ⟨S.par x (yAO hp), zip_lookup hnd hp hu⟩⟩
      . have hf : fr[i - (N.length - cs.length)]? = some x := by
          rw [<- S.suf, List.getElem?_drop, <- hcl, show N.length - cs.length + (i - (N.length - cs.length)) = i by omega]
          exact h1
        obtain ⟨v', c, u, o, a1, a2, a3, a4, a5⟩ := C.cell _ x hf
        rw [h5] at a1
        cases a1
        refine ⟨u, a3, .inr ⟨.inr (S.free x (yAO hf)), c, a2, o, hk₁ _ _ (ZCr e0.hok a4), a5⟩⟩
    . obtain ⟨o, u, e, e2, d⟩ := cellAt x c h
      exact ⟨u, o, hk₁ _ _ e2, d⟩
    . show hid cl H s.heap.objs.size = none
      have hn := e0.hok.fresh (yAA _)
      rw [ZCd]
      . exact hn
      . rintro ⟨x, q⟩
        obtain ⟨o, u, e, _⟩ := cellAt x _ q
        rw [hn] at e; cases e
    . intro b o e
      have e' := hid_le e
      refine (e0.hok b o e').stay (fun c v _ q => hk₁ c v q) (fun c q => ?_) fun c xs q => ?_
      . exact ZAz C.cells q (fun ob z => by cases z)
      . exact ZAz C.cells q (fun ob z => by cases z)
    . unfold ZB4
      show _ = N.length
      have := S.two
      have := C.len
      simp only [yAC, yAB, yCB]
      omega
  refine wpAny_mono (ht [] _ (ZB4 N vs cs) (hid cl H) _ I hq) (fun fl s' hs => ?_) fun e s' hs => False.elim hs
  have fin : ∀ {σ' : St} {H' : Hp} {v : V} {u : Value}, Inv (ZDm P w K mg base N iq isc g (.ref c') cl A outer s (hid cl H)) [] σ' H' s' -> RelV v u -> (NoC cl H' -> Q v (back cl H H')) -> CE outer P w H s Q u s' :=
    fun {σ' H' v u} J rv q => by
      have un : Un (frs outer) [] (hid cl H) H' s.heap s'.heap := J.base
      have nex : ∀ b : Addr, b ∉ ([] : List Addr) := fun b => by simp
      have keepC : ∀ x c o, cl.lookup x = some c -> s.heap.get? c = some o -> s'.heap.get? c = some o := fun x c o h e => un.keep c o e (ZDT h) (cfs x c h) (nex c)
      have freeC : ∀ x c, cl.lookup x = some c -> H' c = none := fun x c h => by
        obtain ⟨o, u, e, e2, d⟩ := cellAt x c h
        exact un.free c o e2 (ZDT h) (nex c)
      refine ⟨v, back cl H H', J.os, J.bare, ⟨fun b o e n hb hx => ?_, fun b o e n hb hx => ?_, fun b o e n hx => ?_, un.there, fun b xs e => ?_, fun b o u' e => ?_, fun b ps' e => ?_⟩, fun b o e => ?_, rv, q freeC⟩
      . refine un.keep b o e ?_ hb hx
        by_cases q : ∃ x, cl.lookup x = some b
        . obtain ⟨x, q⟩ := q; exact ZDT q
        . rw [ZCd q]; exact n
      . refine un.slot b o e ?_ hb hx
        by_cases q : ∃ x, cl.lookup x = some b
        . obtain ⟨x, q⟩ := q; exact ZDT q
        . rw [ZCd q]; exact n
      . have nc : ¬ ∃ x, cl.lookup x = some b := by
          rintro ⟨x, q⟩
          obtain ⟨o, u, e, _⟩ := cellAt x b q
          rw [n] at e; cases e
        rw [ZBt nc]
        exact un.free b o e (by rw [ZCd nc]; exact n) hx
      . have e2 := un.tups b xs (ZAz C.cells e (fun ob z => by cases z))
        rw [ZBt]
        . exact e2
        . rintro ⟨x, q⟩; rw [freeC x b q] at e2; cases e2
      . by_cases q : ∃ x, cl.lookup x = some b
        . obtain ⟨x, q⟩ := q; rw [ZCs q]; exact e
        . rw [ZBt q]; exact un.frzs b o u' (by rw [ZCd q]; exact e)
      . obtain ⟨more, e2⟩ := un.tbls b ps' (ZAz C.cells e (fun ob z => by cases z))
        refine ⟨more, ?_⟩
        rw [ZBt]
        . exact e2
        . rintro ⟨x, q⟩; rw [freeC x b q] at e2; cases e2
      . have up : ∀ c oc, H' c = some oc -> back cl H H' c = some oc := fun c oc q => by
          rw [ZBt]
          . exact q
          . rintro ⟨x, z⟩; rw [freeC x c z] at q; cases q
        by_cases q : ∃ x, cl.lookup x = some b
        . obtain ⟨x, q⟩ := q
          rw [ZCs q] at e
          obtain ⟨o2, u2, e2, e3, d⟩ := cellAt x b q
          rw [e] at e2
          cases e2
          exact ZD8 (keepC x b _ q e3)
        . rw [ZBt q] at e
          exact (J.hok b o e).stay (fun c v _ q => q) (fun c q => up c _ q) fun c xs q => up c _ q
  cases fl with
  | ret u =>
    obtain ⟨v, σ', H', J, rv, q⟩ := hs
    exact fin J rv q
  | next =>
    obtain ⟨σ', H', J, q⟩ := hs
    exact fin (v := V.non) (u := Value.none) J rfl q
  | brk =>
    obtain ⟨_, _, _, q⟩ := hs
    exact False.elim q
  | cont =>
    obtain ⟨_, _, _, q⟩ := hs
    exact False.elim q
end
def ZDr (r : V -> List V -> Hp -> VK -> Prop) (ta : TE) (t : TA) : TE := fun σ H Q => ta σ H fun f H1 => (∃ g o, f = .ref g /\ H1 g = some (FZ o) /\ ∃ fd, o.data = .func fd) /\ t σ H1 fun vs H2 => r f vs H2 Q
def CloR (X : Cx) (r : V -> List V -> Hp -> VK -> Prop) : Prop :=
  ∀ (pins : List (Addr × Obj)) (s : Shared) (σ : St) (H : Hp) (f : Addr) (vs : List V) (us : List Value) (Q : VK), Inv X pins σ H s -> Vals vs us -> r (.ref f) vs H Q ->
    PySem.W.FnAt f s.heap /\ wpAny (model X.prog X.w) X.A (call (.ref f) us) (EP X pins σ Q) X.xe s
theorem fnAt_of {h : Heap} {g : Addr} {o : Obj} {fd : FuncData} (e : h.get? g = some o) (d : o.data = .func fd) : PySem.W.FnAt g h := by
  obtain ⟨oc, od, dt, sl⟩ := o
  have d' : dt = .func fd := d
  subst d'
  exact ⟨oc, od, fd, sl, e⟩
theorem pe_callV {X : Cx} {x : Str} {p pos : Pos} {e : Expr} {es : List Expr} {ta : TE} {t : TA} {r : V -> List V -> Hp -> VK -> Prop} (hc : CloR X r) (hx : PE X (.Name x p) ta) (ha : PA X (e :: es) t)
    (he : starEach (e :: es) X.env = (false, eval e X.env) :: starEach es X.env := by rfl) (hpl : (backTo pos (starEach es X.env)).any (·.1) = false := by rfl) : PE X (.Call (.Name x p) (e :: es) [] pos) (ZDr r ta t) := by
  intro pins s σ H Q I h
  refine wpAny_Call_Name_kw (thn (hx pins s σ H _ I h) fun v s1 ⟨f, H1, I1, rf, ⟨g, o, eg, hg, fd, hd⟩, q⟩ => ?_)
  subst eg
  cases rf
  refine PySem.W.callWith_F (fnAt_of (ZCr I1.hok hg) hd) (thn (ha pos pins s1 σ H1 _ I1 q) fun us s2 ⟨vs, H2, I2, r2, q2⟩ => ?_) he hpl
  exact hc pins s2 σ H2 g vs us Q I2 r2 q2
structure CloOk (P : Program) (w : World) (K : W.Frag) (mg : Str -> Option Value) (base : Heap) (k : Nat) (r : V -> List V -> Hp -> VK -> Prop) : Prop where
  run : ∀ (A : Around) (outer : List Env) (s : Shared) (H : Hp) (f : Addr) (vs : List V) (us : List Value) (Q : VK), Room k A -> Env0 P w K mg base A outer s H -> Vals vs us -> r (.ref f) vs H Q ->
    PySem.W.FnAt f s.heap /\ codeAny (model P w) A (.call (.ref f) ⟨us, []⟩) (fun r s' => match r with | .ok (.ret u) => CE outer P w H s Q u s' | _ => False) s
theorem CloOk.at {X : Cx} {k : Nat} {r : V -> List V -> Hp -> VK -> Prop} (C : CloOk X.prog X.w X.K X.mg X.base k r) (hr : Room k X.A) : CloR X r := by
  intro pins s σ H f vs us Q I rv h
  obtain ⟨h1, h2⟩ := C.run X.A X.stack s H f vs us Q hr I.env0 rv h
  refine ⟨h1, wpAny_call (codeAny_mono h2 fun r s' hq => ?_)⟩
  cases r with
  | error e => exact False.elim hq
  | ok fl =>
    cases fl with
    | ret u => exact I.after hq
    | next => exact False.elim hq
    | brk => exact False.elim hq
    | cont => exact False.elim hq
theorem Clo.fnAt {P : Program} {w : World} {H : Hp} {h : Heap} {g : Addr} {iname iq : Str} {ip : Arguments} {ib : List Stmt} {isc : Scope} {fr : List Str} {cs : List V} {cl : List (Str × Addr)} (x : HOk P w H h) (C : CloL H g iname iq ip ib isc fr cs cl) : PySem.W.FnAt g h := by
  obtain ⟨doc, pm, ctv, c', e, _⟩ := C.obj
  exact fnAt_of (ZCr x e) rfl
theorem clo_of {P : Program} {w : World} {K : W.Frag} {mg : Str -> Option Value} {base : Heap} {iname iq : Str} {ip : Arguments} {ib : List Stmt} {isc : Scope} {N ps fr : List Str} {k : Nat} {r : V -> List V -> Hp -> VK -> Prop} (S : CloScope N ps fr isc)
    (hcl : ∀ f vs H Q, r f vs H Q -> ∃ g cs, f = .ref g /\ Clo H g iname iq ip ib isc fr cs) (len : ∀ f vs H Q, r f vs H Q -> vs.length = ps.length)
    (hbind : ∀ (cl : List (Str × Addr)) (doc pm ctv : Value) (c' : Addr) (us : List Value), us.length = ps.length -> bindArgs (PySem.W.fnX iname iq ip ib isc cl .none .none doc pm none (.ref c') ctv) ⟨us, []⟩ = pure (ps.zip us))
    (hbody : ∀ (g : Addr) (cs : List V) (cl : List (Str × Addr)) (cd : Value) (A : Around) (outer : List Env) (s : Shared) (H : Hp) (vs : List V) (Q : VK), Room k (A.deeper (PySem.W.envX iq isc s.heap.objs.size g cd cl)) -> CloL H g iname iq ip ib isc fr cs cl -> r (.ref g) vs H Q ->
      ∃ t, PSs (ZDm P w K mg base N iq isc g cd cl A outer s (hid cl H)) ib t /\ t { nx := fun _ H' => NoC cl H' -> Q .non (back cl H H'), rt := fun v H' => NoC cl H' -> Q v (back cl H H') } (ZB4 N vs cs) (hid cl H)) : CloOk P w K mg base (k + 1) r := by
  refine ⟨fun A outer s H f vs us Q hr e0 rv h => ?_⟩
  obtain ⟨g, cs, eg, cl, C⟩ := hcl _ _ _ _ h
  cases eg
  have hl := len _ _ _ _ h
  refine ⟨Clo.fnAt e0.hok C, clo_call (k := k) C S hr e0 hl rv (fun doc pm ctv c' => hbind cl doc pm ctv c' us (by rw [<- rv.length]; exact hl)) fun cd A' hr' => ?_⟩
  exact hbody f cs cl cd A outer s H vs Q (hr.deeper _) C h
theorem NoC.ne {cl : List (Str × Addr)} {H : Hp} {b : Addr} {o : HO} (n : NoC cl H) (h : H b = some o) : ¬ ∃ x, cl.lookup x = some b := fun ⟨x, e⟩ => by rw [n x b e] at h; cases h
def TabSt (H : Hp) (Pt : Addr) (pos : Pos) (iq : Str) : Prop := H Pt = some (.tbl #[]) ∨ ∃ c', H Pt = some (.tbl #[rawInt pos.line, rawInt pos.col, .ref c']) /\ CodeAt H c' iq
theorem TabSt.mono {H H' : Hp} {Pt : Addr} {pos : Pos} {iq : Str} (e : H' Pt = H Pt) (f : ZDG H H') (k : TabSt H Pt pos iq) : TabSt H' Pt pos iq := by
  rcases k with k | ⟨c', k, q⟩
  . exact .inl (e.trans k)
  . exact .inr ⟨c', e.trans k, q.mono f⟩
def ZC9 (mg : Str -> Option Value) (h : Heap) : Prop := ∃ bm ob, mg "__builtins__" = some (.ref bm) /\ bm ≠ builtinsNs /\ h.get? bm = some ob /\ ob.cls = .type "module" /\ ob.dict = some builtinsNs /\ ob.data = .plain
structure MadeDef (H H' : Hp) (Pt : Addr) (pos : Pos) (g : Addr) (iname iq : Str) (ip : Arguments) (ib : List Stmt) (isc : Scope) (fr : List Str) (cs : List V) : Prop where
  same : ∀ b o, b ≠ Pt -> H b = some o -> H' b = some o
  tab : TabSt H' Pt pos iq
  clo : Clo H' g iname iq ip ib isc fr cs
  fresh : H g = none
section
variable {X : Cx} {pins : List (Addr × Obj)} {σ : St} {H : Hp} {s : Shared}
structure MadeMid (H H' : Hp) (Pt : Addr) (pos : Pos) (g : Addr) (iname iq : Str) (ip : Arguments) (ib : List Stmt) (isc : Scope) (cl : List (Str × Addr)) : Prop where
  same : ∀ b o, b ≠ Pt -> H b = some o -> H' b = some o
  tab : TabSt H' Pt pos iq
  obj : ∃ (doc pm ctv : Value) (c' : Addr), H' g = some (FZ (PySem.W.fnMade iname iq ip ib isc cl doc pm c' ctv)) /\ CodeAt H' c' iq
  fresh : H g = none
theorem Inv.made3 (I : Inv X pins σ H s) {Pt c' : Addr} {ps more : Array Value} {h' : Heap} {oc fo : Obj} {tk : Nat} (hP : H Pt = some (.tbl ps)) (hx : Heap.ExtBut Pt s.heap h') (hge : s.heap.objs.size <= c') (hlt : c' < h'.objs.size) (hoc : h'.get? c' = some oc)
    (hPt : h'.get? Pt = some (PySem.W.tabObj (ps ++ more))) (hfo : fo.isFreed = false) : Inv X pins σ (upd (upd (upd H Pt (.tbl (ps ++ more))) c' (FZ oc)) h'.objs.size (FZ fo)) { s with heap := h'.push fo, toks := tk } := by
  have gn : ∀ b o, s.heap.get? b = some o -> b ≠ h'.objs.size /\ b ≠ c' := fun b o e => by
    have l := Heap.lt_size e
    exact ⟨yAN (Nat.lt_trans (yAQ l hge) hlt), yAN (yAQ l hge)⟩
  have gt : ∀ b o, H b = some o -> b ≠ h'.objs.size /\ b ≠ c' := fun b o e => by
    have l := I.hok.lt e
    exact ⟨yAN (Nat.lt_trans (yAQ l hge) hlt), yAN (yAQ l hge)⟩
  have np : ∀ b, H b = none -> b ≠ Pt := fun b n z => by rw [z, hP] at n; cases n
  have cg : c' ≠ h'.objs.size := yAN hlt
  have old : ∀ b o, b ≠ Pt -> H b = some o -> upd (upd (upd H Pt (.tbl (ps ++ more))) c' (FZ oc)) h'.objs.size (FZ fo) b = some o := fun b o n e => by
    rw [ZAI (gt b o e).1, ZAI (gt b o e).2, ZAI n]; exact e
  have atP : upd (upd (upd H Pt (.tbl (ps ++ more))) c' (FZ oc)) h'.objs.size (FZ fo) Pt = some (.tbl (ps ++ more)) := by
    rw [ZAI (gt Pt _ hP).1, ZAI (gt Pt _ hP).2, ZAF]
  refine I.un (h' := h'.push fo) (t' := tk) ⟨fun b o e n _ _ => ?_, fun b o e n _ _ => ?_, fun b o e n _ => ?_, fun b o e _ => ?_, fun b xs e => ?_, fun b o u e => ?_, fun b qs e => ?_⟩ fun b o e => ?_
  . exact Heap.get?_push_of_some _ (hx b o (np b n) e)
  . exact ⟨o.slots, Heap.get?_push_of_some _ (hx b o (np b n) e)⟩
  . rw [ZAI (gn b o e).1, ZAI (gn b o e).2, ZAI (np b n)]; exact n
  . by_cases q : b = Pt
    . subst q; exact ⟨_, Heap.get?_push_of_some _ hPt⟩
    . exact ⟨o, Heap.get?_push_of_some _ (hx b o q e)⟩
  . exact old b _ (fun z => by rw [z, hP] at e; cases e) e
  . exact old b _ (fun z => by rw [z, hP] at e; cases e) e
  . by_cases q : b = Pt
    . subst q
      rw [hP] at e
      cases e
      exact ⟨more, atP⟩
    . exact ⟨#[], by rw [old b _ q e]; simp⟩
  . by_cases q1 : b = h'.objs.size
    . subst q1; rw [ZAF] at e; cases e; exact ZD8 (Heap.get?_push_size _ hfo)
    . rw [ZAI q1] at e
      by_cases q2 : b = c'
      . subst q2; rw [ZAF] at e; cases e; exact ZD8 (Heap.get?_push_of_some _ hoc)
      . rw [ZAI q2] at e
        by_cases q3 : b = Pt
        . subst q3; rw [ZAF] at e; cases e; exact Heap.get?_push_of_some _ hPt
        . rw [ZAI q3] at e
          refine (I.hok b o e).stay (fun c u hc q => ?_) (fun c q => ?_) fun c xs q => ?_
          . refine Heap.get?_push_of_some _ (hx c u ?_ q)
            rcases hc with z | z
            . rw [z]; exact q3
            . intro z2; rw [z2, hP] at z; cases z
          . exact old c _ (fun z => by rw [z, hP] at q; cases q) q
          . exact old c _ (fun z => by rw [z, hP] at q; cases q) q
theorem Inv.made1 (I : Inv X pins σ H s) {h' : Heap} {fo : Obj} {tk : Nat} (hk : ∀ b o, s.heap.get? b = some o -> h'.get? b = some o) (hsz : s.heap.objs.size <= h'.objs.size) (hfo : fo.isFreed = false) : Inv X pins σ (upd H h'.objs.size (FZ fo)) { s with heap := h'.push fo, toks := tk } :=
  I.laid (fun b u q => Heap.get?_push_of_some _ (hk b u q)) hsz (ZD8 (Heap.get?_push_size _ hfo))
def tDef (i : Nat) (Pt : Addr) (pos : Pos) (iname iq : Str) (ip : Arguments) (ib : List Stmt) (isc : Scope) (cl : List (Str × Addr)) : TS := fun D σ H => TabSt H Pt pos iq /\ ∀ g H', MadeMid H H' Pt pos g iname iq ip ib isc cl -> D.nx (σ.set i (some (.ref g))) H'
theorem ps_def {i : Nat} {Pt c : Addr} {pos : Pos} {iname iq : Str} {ip : Arguments} {ib : List Stmt} {isc : Scope} (hN : X.N.Nodup) (hi : X.N[i]? = some iname) (hx : Loc X.env.scope iname) (hf : X.fn iname = true ∨ X.env.scope.names.lookup iname = some .local)
    (hcode : X.env.code = .ref c) (C : PySem.W.CodeHd X.base c Pt) (B : ZC9 X.mg X.base) (hq : qualnameIn X.env iname iname = iq) (hd0 : ip.defaults = []) (hk0 : ip.kw_defaults = []) (ha : annTrees ip none X.env = [])
    (hfr : ∀ x, (x, NameKind.free) ∈ isc.names -> ∃ c, X.env.cells.lookup x = some c) :
    PS X (.FunctionDef iname ip ib [] none [] isc none iname pos) (tDef i Pt pos iname iq ip ib isc (closFrom X.env.cells isc.names [])) := by
  intro pins s σ H D I h
  obtain ⟨ht, h⟩ := h
  refine PySem.W.nestDef_K hd0 hk0 ha ?_
  rw [hq]
  have hgs := I.ok.mod.glob.keeps I.bk
  have hC := C.keeps I.bk
  have hcl := closureFor_eq (scope := isc) (env := X.env) hfr
  obtain ⟨bm, ob, b1, b2, b3, b4, b5, b6⟩ := B
  have hbG : bm ≠ mainGlobals := fun q => by
    obtain ⟨o, es, ep, e, hd, _⟩ := I.ok.mod.glob
    rw [q, e] at b3; cases b3; rw [hd] at b6; cases b6
  have apart : ∀ {qs : Array Value}, s.heap.get? Pt = some (PySem.W.tabObj qs) -> mainGlobals ≠ Pt /\ s.heap.BuiltinsAt X.mg Pt := fun {qs} hm => by
    refine ⟨fun q => ?_, bm, ob, b1, b2, hbG, fun q => ?_, I.bk _ _ b3, b4, b5, b6⟩
    . obtain ⟨o, es, ep, e, hd, _⟩ := hgs
      rw [q, hm] at e; cases e; cases hd
    . have e := I.bk _ _ b3
      rw [q, hm] at e; cases e; cases b4
  have fin : ∀ {g : Addr} {H' : Hp} {s' : Shared}, Inv X pins σ H' s' -> MadeMid H H' Pt pos g iname iq ip ib isc (closFrom X.env.cells isc.names []) ->
      wpAny (model X.prog X.w) X.A (storeName X.env iname (.ref g)) (fun _ s'' => SP X pins D .next s'') X.xe s' := fun {g H' s'} J M =>
    ZCH J hN hi hx (v := .ref g) rfl (fun s'' J' => ⟨_, H', J', h g H' M⟩) hf
  rcases ht with ht | ⟨c1, ht, hc1⟩
  . have hP : s.heap.get? Pt = some (PySem.W.tabObj #[]) := I.hok Pt _ ht
    obtain ⟨a1, a2⟩ := apart hP
    refine PySem.W.makeFunction_K hcl I.ok.glob hgs hcode hC hP trivial rfl a1 a2 fun c' ctv doc h' tk hx2 hge hlt hrec htb => ?_
    obtain ⟨c2, oc, vs, t, e2, hoc, hd, hv⟩ := hrec
    cases e2
    have J := I.made3 (tk := tk) (fo := PySem.W.fnMade iname iq ip ib isc (closFrom X.env.cells isc.names []) doc ((X.mg "__name__").getD .none) c' ctv) ht hx2 hge hlt hoc htb rfl
    have gt : ∀ b o, H b = some o -> b ≠ h'.objs.size /\ b ≠ c' := fun b o e => by
      have l := I.hok.lt e
      exact ⟨yAN (Nat.lt_trans (yAQ l hge) hlt), yAN (yAQ l hge)⟩
    have hcc : CodeAt (upd (upd (upd H Pt (.tbl (#[] ++ #[rawInt pos.line, rawInt pos.col, .ref c']))) c' (FZ oc)) h'.objs.size (FZ (PySem.W.fnMade iname iq ip ib isc (closFrom X.env.cells isc.names []) doc ((X.mg "__name__").getD .none) c' ctv))) c' iq :=
      ⟨oc, vs, t, by rw [ZAI (yAN hlt), ZAF], hd, hv⟩
    refine fin J ⟨fun b o n e => ?_, .inr ⟨c', ?_, hcc⟩, ⟨doc, _, ctv, c', ZAF, hcc⟩, ?_⟩
    . rw [ZAI (gt b o e).1, ZAI (gt b o e).2, ZAI n]; exact e
    . rw [ZAI (gt Pt _ ht).1, ZAI (gt Pt _ ht).2, ZAF]; rfl
    . exact I.hok.fresh (yAK hge (yBI hlt))
  . have hP : s.heap.get? Pt = some (PySem.W.tabObj #[rawInt pos.line, rawInt pos.col, .ref c1]) := I.hok Pt _ ht
    obtain ⟨a1, a2⟩ := apart hP
    refine PySem.W.makeFunction_hit (cv := .ref c1) hcl I.ok.glob hgs hcode hC hP trivial ?_ a2 fun ctv doc h' tk hk hsz => ?_
    . simp [codeAmong, rawInt]
    have J := I.made1 (tk := tk) (fo := PySem.W.fnMade iname iq ip ib isc (closFrom X.env.cells isc.names []) doc ((X.mg "__name__").getD .none) c1 ctv) hk hsz rfl
    have gt : ∀ b o, H b = some o -> b ≠ h'.objs.size := fun b o e => yAN (yAQ (I.hok.lt e) hsz)
    have old : ∀ b o, H b = some o -> upd H h'.objs.size (FZ (PySem.W.fnMade iname iq ip ib isc (closFrom X.env.cells isc.names []) doc ((X.mg "__name__").getD .none) c1 ctv)) b = some o := fun b o e => by rw [ZAI (gt b o e)]; exact e
    have hcc := hc1.mono (H' := upd H h'.objs.size (FZ (PySem.W.fnMade iname iq ip ib isc (closFrom X.env.cells isc.names []) doc ((X.mg "__name__").getD .none) c1 ctv))) fun b o e => old b _ e
    exact fin J ⟨fun b o _ e => old b o e, .inr ⟨c1, old _ _ ht, hcc⟩, ⟨doc, _, ctv, c1, ZAF, hcc⟩, I.hok.fresh hsz⟩
end
def ZCV (Pt : Addr) (pos : Pos) (iname iq : Str) (ip : Arguments) (ib : List Stmt) (isc : Scope) (fr : List Str) (ix : List Nat) (n : Nat) : Sp := fun vs H Q _ =>
  vs.length = n /\ TabSt H Pt pos iq /\ ∀ g H', MadeDef H H' Pt pos g iname iq ip ib isc fr (ix.map fun i => vs.getD i .non) -> Q (.ref g) H'
theorem teller_ok {P : Program} {w : World} {K : W.Frag} {mg : Str -> Option Value} {base : Heap} {x qual : Str} {st : Stmt} {f c Pt : Addr} {fd : FuncData} {ps : List Str} {iname iq : Str} {ip : Arguments} {ib : List Stmt} {isc : Scope} {pos rp rpos : Pos} {fr : List Str} {ix : List Nat}
    (F : Fun K x qual st f fd) (S : FnScope (ps ++ [iname]) ps (ZAB st)) (hcd : fd.code = .ref c) (C : PySem.W.CodeHd base c Pt) (B : ZC9 mg base)
    (hb : ZAN st = [.FunctionDef iname ip ib [] none [] isc none iname pos, .Return (some (.Name iname rp)) rpos]) (hiq : ∀ L cd, qualnameIn (envOfC qual (ZAB st) L f cd) iname iname = iq) (hd0 : ip.defaults = []) (hk0 : ip.kw_defaults = []) (ha : ∀ L cd, annTrees ip none (envOfC qual (ZAB st) L f cd) = [])
    (hloc : (ZAB st).names.lookup iname = some .local) (hdb : (iname == ("__debug__" : Str)) = false) (hcdn : (iname == ("__classdict__" : Str)) = false)
    (hfree : ∀ y ∈ isc.names, y.2 = .free -> y.1 ∈ fr) (hhas : ∀ y ∈ fr, (y, NameKind.free) ∈ isc.names) (hfc : ∀ y ∈ fr, (ZAB st).names.lookup y = some .cell) (hix : ∀ (j : Nat) (y : Str), fr[j]? = some y -> ∃ i, ix[j]? = some i /\ ps[i]? = some y) (hixl : ix.length = fr.length) :
    FnOk P w K mg base CX0 1 f fd ps (ZCV Pt pos iname iq ip ib isc fr ix ps.length) := by
  obtain ⟨oc, od, kV, doc, pm, an, cdv, ct, osl, rfl, lk, hcd2⟩ := F.ex
  have hcd' : cdv = .ref c := hcd
  refine ⟨fun vs H Q E h => h.1, fun A outer s H args us vs Q E hr e0 hbn r hsp => ?_⟩
  obtain ⟨hl, hT, hQ⟩ := hsp
  have KX : K.In s.heap := e0.mod.kin.keeps fun b o e => (e0.bs b o e).1
  have lim : s.heap.NoLimit := e0.mod.nolimit.keeps fun b o e => (e0.bs b o e).1
  have hkind : ∀ y ∈ ps.zip us, (ZAB st).names.lookup y.1 = some .local ∨ ((ZAB st).names.lookup y.1 = some .cell /\ ((cellsFrom (s.heap.objs.size + 1) (ZAB st).names []).lookup y.1).isSome = true) := fun ⟨n, v⟩ hy => by
    rcases S.par n (List.of_mem_zip hy).1 with q | q
    . exact .inl q
    . exact .inr ⟨q, PySem.W.cellsFrom_some _ _ _ (.inl q)⟩
  refine codeAny_call_function hr.depth (KX _ _ lk) rfl S.co S.gen rfl (PySem.W.codeRec_of KX hcd2) (hbn _ _ _ _ ?_)
  refine wpAny_newFunctionEnv_cells S.kind hkind fun env he s1 xx => ?_
  subst he
  refine ⟨lim.keeps xx.toInCall.keep, codeAny_func ?_⟩
  have I : Inv (cxOf CX0 P w K mg base (ps ++ [iname]) qual (ZAB st) f cdv A outer s H E).nox [] (start (ps ++ [iname]) vs) H s1 := (inv_start S hr.hd e0 hl r xx).wish _
  have cellHas : ∀ y ∈ fr, ∃ cc, (cellsFrom (s.heap.objs.size + 1) (ZAB st).names []).lookup y = some cc := fun y hy => ZCQ (hfc y hy)
  rw [hb]
  have hiN : (ps ++ [iname])[ps.length]? = some iname := by simp
  have d1 := ps_def (X := (cxOf CX0 P w K mg base (ps ++ [iname]) qual (ZAB st) f cdv A outer s H E).nox) (i := ps.length) (pos := pos) (Pt := Pt) (c := c) (iq := iq) (ip := ip) (ib := ib) (isc := isc) S.nd hiN (.inl hloc) (.inr hloc) hcd' C B (hiq _ _) hd0 hk0 (ha _ _) fun y hy => cellHas y (hfree _ hy rfl)
  have hlen : (start (ps ++ [iname]) vs).length = ps.length + 1 := by
    unfold start
    simp only [yAC, yAB, yCB, yAF, yBW]
    omega
  have run := d1 [] s1 (start (ps ++ [iname]) vs) H { nx := fun σ' H' => ∃ g, σ' = (start (ps ++ [iname]) vs).set ps.length (some (.ref g)) /\ MadeMid H H' Pt pos g iname iq ip ib isc (closFrom (cellsFrom (s.heap.objs.size + 1) (ZAB st).names []) isc.names []), rt := fun _ _ => False } I ⟨hT, fun g H' M => ⟨g, rfl, M⟩⟩
  refine wpAny_execs_cons (wpAny_mono run (fun fl s2 q => ?_) fun e s' z => z.elim)
  cases fl with
  | ret v => obtain ⟨_, _, _, _, _, q⟩ := q; exact q.elim
  | brk => obtain ⟨_, _, _, q⟩ := q; exact q.elim
  | cont => obtain ⟨_, _, _, q⟩ := q; exact q.elim
  | next =>
    obtain ⟨σ', H', J, g, rfl, M⟩ := q
    have v1 := pe_var (pos := rp) (X := (cxOf CX0 P w K mg base (ps ++ [iname]) qual (ZAB st) f cdv A outer s H E).nox) hiN (.inl hloc) hdb hcdn [] s2 _ H' (fun v H2 => v = .ref g /\ H2 = H') J ⟨.ref g, by rw [List.getElem?_set_self (by rw [hlen]; omega)], rfl, rfl⟩
    refine wpAny_execs_cons (wpAny_Return_some (wpAny_mono v1 (fun u s3 q => ?_) fun e s' z => z.elim))
    obtain ⟨v, H2, J2, rv, rfl, rfl⟩ := q
    cases rv
    -- the cells are tracked
    have un : Un (frs outer) [] H H2 s.heap s3.heap := J2.base
    have nex : ∀ b : Addr, b ∉ ([] : List Addr) := fun b => by simp
    have inj := J2.ok.inj
    have cAt : ∀ (j : Nat) (y : Str), fr[j]? = some y -> ∃ v cc uu, (ix.map fun i => vs.getD i .non)[j]? = some v /\ (cellsFrom (s.heap.objs.size + 1) (ZAB st).names []).lookup y = some cc /\ RelV v uu /\ s3.heap.IsCell cc (some uu) := fun j y hj => by
      obtain ⟨i, h1, h2⟩ := hix j y hj
      have hi : i < ps.length := (yAG.mp h2).1
      obtain ⟨v, hv⟩ : ∃ v, vs[i]? = some v := ⟨_, yAM (by omega)⟩
      obtain ⟨m, _, hm⟩ := J2.loc
      have hs : ((start (ps ++ [iname]) vs).set ps.length (some (.ref g)))[i]? = some (some v) := by
        rw [List.getElem?_set_ne (by omega)]
        unfold start
        rw [yBH (by rw [yAB]; omega), yAR, hv]
        rfl
      have hN : (ps ++ [iname])[i]? = some y := by rw [yBH hi]; exact h2
      obtain ⟨uu, ru, lk2⟩ := hm i y v hN hs (.inr (.inl (hfc y (yAO hj))))
      refine ⟨v, ?_⟩
      rcases lk2 with ⟨k1, _⟩ | ⟨_, cc, e1, e2⟩
      . have k2 : (ZAB st).names.lookup y = some .local := k1
        rw [hfc y (yAO hj)] at k2
        cases k2
      . refine ⟨cc, uu, ?_, e1, ru, e2⟩
        rw [yAR, h1]
        show some (vs.getD i .non) = some v
        rw [List.getD_eq_getElem?_getD, hv]
        rfl
    have clk : ∀ y cc, (closFrom (cellsFrom (s.heap.objs.size + 1) (ZAB st).names []) isc.names []).lookup y = some cc -> y ∈ fr /\ (cellsFrom (s.heap.objs.size + 1) (ZAB st).names []).lookup y = some cc := fun y cc h => by
      rcases ZBM _ _ y cc (PySem.mem_of_lookup h) with z | ⟨z1, z2⟩
      . cases z
      . have hy := hfree _ z1 rfl
        obtain ⟨c3, h3⟩ := cellHas y hy
        rw [h3] at z2
        exact ⟨hy, by rw [h3]; exact congrArg some z2.symm⟩
    have clh : ∀ y cc, y ∈ fr -> (cellsFrom (s.heap.objs.size + 1) (ZAB st).names []).lookup y = some cc -> (closFrom (cellsFrom (s.heap.objs.size + 1) (ZAB st).names []) isc.names []).lookup y = some cc := fun y cc hy h => by
      obtain ⟨c3, h3⟩ := ZBG (ZBN (cells := cellsFrom (s.heap.objs.size + 1) (ZAB st).names []) isc.names [] y (hhas y hy))
      have := (clk y c3 h3).2
      rw [h] at this
      rw [h3, Option.some.inj this]
    have cnew : ∀ y cc, (closFrom (cellsFrom (s.heap.objs.size + 1) (ZAB st).names []) isc.names []).lookup y = some cc -> s.heap.objs.size <= cc /\ H2 cc = none /\ ∃ o u, s3.heap.get? cc = some o /\ o.data = .cell u := fun y cc h => by
      obtain ⟨hy, h2⟩ := clk y cc h
      obtain ⟨u, o, e1, e2⟩ := J2.cell y cc h2
      exact ⟨yBI (xx.above y cc (PySem.mem_of_lookup h2)), J2.freeC y cc h2, o, u, e1, e2⟩
    generalize closFrom (cellsFrom (s.heap.objs.size + 1) (ZAB st).names []) isc.names [] = cl at M clk clh cnew
    have tr : ∀ b, ¬ (∃ y, cl.lookup y = some b) -> back cl (fun b => (s3.heap.get? b).map FZ) H2 b = H2 b := fun b n => ZBt n
    have tc : ∀ y b o, cl.lookup y = some b -> s3.heap.get? b = some o -> back cl (fun b => (s3.heap.get? b).map FZ) H2 b = some (FZ o) := fun y b o h e => by rw [ZCs h, e]; rfl
    have oldn : ∀ b, b < s.heap.objs.size -> ¬ ∃ y, cl.lookup y = some b := fun b hb ⟨y, z⟩ => absurd (cnew y b z).1 (Nat.not_le.mpr hb)
    have up : ∀ b o, H2 b = some o -> back cl (fun b => (s3.heap.get? b).map FZ) H2 b = some o := fun b o e => by
      rw [tr b fun ⟨y, z⟩ => by rw [(cnew y b z).2.1] at e; cases e]; exact e
    refine ⟨.ref g, back cl (fun b => (s3.heap.get? b).map FZ) H2, J2.os, J2.bare, ⟨un.keep, un.slot, fun b o e n hx => ?_, un.there, fun b xs e => up _ _ (un.tups b xs e), fun b o u e => up _ _ (un.frzs b o u e), fun b qs e => ?_⟩, fun b o e => ?_, rfl, hQ g _ ⟨fun b o n e => up _ _ (M.same b o n e), ?_, ⟨cl, ?_, fun y cc h => (clk y cc h).1, fun y z cc h1 h2 => inj y z cc (clk y cc h1).2 (clk z cc h2).2, fun j y hj => ?_, ?_⟩, M.fresh⟩⟩
    . rw [tr b (oldn b (Heap.lt_size e))]; exact un.free b o e n hx
    . obtain ⟨more, e2⟩ := un.tbls b qs e
      exact ⟨more, up _ _ e2⟩
    . by_cases q : ∃ y, cl.lookup y = some b
      . obtain ⟨y, q⟩ := q
        obtain ⟨_, _, o2, u2, e2, _⟩ := cnew y b q
        rw [tc y b o2 q e2] at e
        cases e
        exact ZD8 e2
      . rw [tr b q] at e
        exact (J2.hok b o e).stay (fun c v _ q => q) (fun c q => up c _ q) fun c xs q => up c _ q
    . exact M.tab.mono (by
        rcases M.tab with z | ⟨_, z, _⟩
        . rw [z]; exact up _ _ z
        . rw [z]; exact up _ _ z) fun b o e => up b _ e
    . obtain ⟨d1, d2, d3, c3, e1, e2⟩ := M.obj
      exact ⟨d1, d2, d3, c3, up _ _ e1, e2.mono fun b o e => up b _ e⟩
    . obtain ⟨v, cc, uu, a1, a2, a3, o, a4, a5⟩ := cAt j y hj
      have hl2 := clh y cc (yAO hj) a2
      exact ⟨v, cc, uu, o, a1, hl2, a3, tc y cc o hl2 a4, a5⟩
    . rw [yAB]; exact hixl
def ZEU (tabs : List (Addr × Addr)) (H : Hp) : Prop := ∀ q ∈ tabs, H q.2 = some (.tbl #[])
theorem law_callT {P : Program} {w : World} {K : W.Frag} {mg mb : Str -> Option Value} {CX : CXT} {k : Nat} {fa a : Addr} {fd : FuncData} {x : Str} {sp : Sp} {s₁ : Shared} {vs : List Value} {ns : List Int} {tabs : List (Addr × Addr)}
    (KX : K.In s₁.heap) (hns : s₁.heap.Ns mainGlobals mg) (hb : s₁.heap.Ns builtinsNs mb) (hbb : ∀ x : Str, x ≠ "__name__" -> mb x = bootBuiltins x) (hlim : s₁.heap.NoLimit) (hg : s₁.gens = #[])
    (ha : s₁.heap.get? a = some { cls := .type "list", data := .seq vs.toArray }) (hi : IntsAre vs ns) (hl : ns.length <= sizeLine) (hr : Room k callerA)
    (hT : ∀ q ∈ tabs, PySem.W.CodeHd s₁.heap q.1 q.2 /\ s₁.heap.get? q.2 = some (PySem.W.tabObj #[])) (nt : PySem.W.noTabs K = true) (hbm : ZC9 mg s₁.heap)
    (F : ∀ base : Heap, K.In base -> base.Ns mainGlobals mg -> (∀ q ∈ tabs, PySem.W.CodeHd base q.1 q.2) -> ZC9 mg base -> FnOk P w K mg base CX k fa fd [x] sp) (hbind : ∀ (s : Shared) (u : Value), BindsTo s fd ⟨[u], []⟩ [(x, u)])
    (hsp : ∀ H : Hp, ZEU tabs H -> SqL K H a (ns.map V.int) -> sp [.ref a] H (fun v _ => v = .bl true) fun _ _ _ => False)
    (hCX : ∀ H e s', CX [] H s₁ (fun _ _ _ => False) e s' -> False) :
    codeAny (model P w) callerA (.call (.ref fa) ⟨[.ref a], []⟩) (fun r s' => r = .ok (.ret (.bool true)) /\ OldK s₁.heap s'.heap /\ s'.os = s₁.os /\ AllBare s'.gens) s₁ := by
  have rv := ZB3 hi
  have lenV := hi.length
  have core : ∀ H : Hp, SqL K H a (ns.map V.int) -> HOk P w H s₁.heap -> (∀ b o, H b = some o -> (b = a /\ K.lookup a = none /\ ∃ ob xs, o = .frz ob (.lst xs)) ∨ (o = .tbl #[] /\ ∃ q ∈ tabs, q.2 = b)) -> ZEU tabs H ->
      codeAny (model P w) callerA (.call (.ref fa) ⟨[.ref a], []⟩) (fun r s' => r = .ok (.ret (.bool true)) /\ OldK s₁.heap s'.heap /\ s'.os = s₁.os /\ AllBare s'.gens) s₁ := by
    intro H hS hok hA hO
    have base_of : ∀ {b : Addr} {o : Obj}, s₁.heap.get? b = some o -> H b = none -> (hidT s₁.heap H).get? b = some o := fun e n => hidT_get e n
    have noObj : ∀ {b : Addr} {o : Obj}, s₁.heap.get? b = some o -> (∀ vs' n', o.data ≠ .seq vs' n') -> (o.cls = .none -> ∀ vs', o.data ≠ .fields vs') -> H b = none := fun {b o} e d1 d2 => by
      cases q : H b with
      | none => rfl
      | some u =>
        rcases hA b u q with ⟨e', _⟩ | ⟨_, q', hq, e'⟩
        . subst e'
          rw [ha] at e; cases e
          exact absurd rfl (d1 _ _)
        . subst e'
          rw [(hT q' hq).2] at e; cases e
          exact absurd rfl (d2 rfl _)
    have nsK : ∀ {b : Addr} {m : Str -> Option Value}, s₁.heap.Ns b m -> (hidT s₁.heap H).Ns b m := fun {b m} ⟨o, es, ep, e, d, r⟩ => ⟨o, es, ep, base_of e (noObj e (by rw [d]; intro _ _ z; cases z) (fun _ => by rw [d]; intro _ z; cases z)), d, r⟩
    have hKb : K.In (hidT s₁.heap H) := fun b o e => base_of (KX b o e) (by
      cases q : H b with
      | none => rfl
      | some u =>
        rcases hA b u q with ⟨e', n, _⟩ | ⟨_, q', hq, e'⟩
        . subst e'; rw [n] at e; cases e
        . subst e'
          have e2 := KX _ _ e
          rw [(hT q' hq).2] at e2
          cases e2
          have h2 := List.all_eq_true.mp nt _ (PySem.W.mem_of_lookupK e)
          exact absurd (show false = true from h2) yAX)
    have hM : Mod K mg (hidT s₁.heap H) := ⟨hKb, nsK hns, ⟨mb, nsK hb, hbb⟩, let ⟨mc, h1, h2⟩ := hlim; ⟨mc, nsK h1, h2⟩⟩
    have e0 : Env0 P w K mg (hidT s₁.heap H) callerA [] s₁ H := ⟨rfl, hM, fun b o e => of_hidT e, Nat.le_of_eq (hidT_size _ _), trivial, fun b hb => absurd (show b ∈ ([] : List Addr) from hb) (by simp), hok, .of_eq hg⟩
    have hC : ∀ q ∈ tabs, PySem.W.CodeHd (hidT s₁.heap H) q.1 q.2 := fun q hq => by
      obtain ⟨o, vs, file, tf, flags, tg, inF, text, tt, e1, e2, e3, r⟩ := (hT q hq).1
      exact ⟨o, vs, file, tf, flags, tg, inF, text, tt, base_of e1 (noObj e1 (by rw [e3]; intro _ _ z; cases z) (fun z => by rw [e2] at z; cases z)), e2, e3, r⟩
    have hB : ZC9 mg (hidT s₁.heap H) := by
      obtain ⟨bm, ob, b1, b2, b3, b4, b5, b6⟩ := hbm
      exact ⟨bm, ob, b1, b2, base_of b3 (noObj b3 (by rw [b6]; intro _ _ z; cases z) (fun z => by rw [b4] at z; cases z)), b4, b5, b6⟩
    refine codeAny_mono ((F _ hKb (nsK hns) hC hB).run callerA [] s₁ H ⟨[.ref a], []⟩ [.ref a] [.ref a] _ _ hr e0 (hbind s₁ (.ref a)) (.cons rfl .nil) (hsp H hO hS)) fun r s' h => ?_
    cases r with
    | error e => exact (hCX H e s' h).elim
    | ok fl =>
      cases fl with
      | next => exact False.elim h
      | brk => exact False.elim h
      | cont => exact False.elim h
      | ret u =>
        obtain ⟨v, H', os, bare, un, hok', r', q⟩ := h
        have q' : v = .bl true := q
        subst q'
        obtain rfl : u = Value.bool true := r'
        have nfs : ∀ b : Addr, b ∉ frs ([] : List Env) := fun b z => absurd (show b ∈ ([] : List Addr) from z) (by simp)
        refine ⟨rfl, ⟨fun b o e => ?_, fun b o e => un.there b o e (by simp)⟩, os, bare⟩
        cases q : H b with
        | none => exact .inl (un.keep b o e q (nfs b) (by simp))
        | some u =>
          rcases hA b u q with ⟨_, _, ob, xs, z⟩ | ⟨z, q', hq, e'⟩
          . subst z
            have z2 := un.frzs b ob _ q
            obtain ⟨e1, _⟩ := hok b _ q
            obtain ⟨e2, _⟩ := hok' b _ z2
            rw [e] at e1; cases e1
            exact .inl e2
          . subst z
            subst e'
            obtain ⟨more, z2⟩ := un.tbls _ _ q
            have e2 : s'.heap.get? q'.2 = some (PySem.W.tabObj (#[] ++ more)) := hok' _ _ z2
            have e3 := (hT q' hq).2
            rw [e] at e3
            have e4 : o = PySem.W.tabObj #[] := Option.some.inj e3
            subst e4
            exact .inr (.inl ⟨((hT q' hq).1.tab (hT q' hq).2).isCodeTable, rfl, #[], more, rfl, e2⟩)
  have tabA : ∀ q ∈ tabs, q.2 ≠ a := fun q hq z => by
    have e := (hT q hq).2
    rw [z, ha] at e; cases e
  cases hk : K.lookup a with
  | some o =>
    have e := KX a o hk
    rw [ha] at e
    cases e
    refine core (fun b => if b ∈ tabs.map (·.2) then some (.tbl #[]) else none) (.inr ⟨_, vs.toArray, _, hk, rfl, rfl, rfl, by rw [yAS, lenV]; exact hl, by simpa using rv⟩) (fun b u z => ?_) (fun b u z => ?_) fun q hq => if_pos (List.mem_map_of_mem hq)
    . by_cases hb : b ∈ tabs.map (·.2)
      . have z' := (if_pos hb).symm.trans z
        cases z'
        obtain ⟨q, hq, rfl⟩ := yBB.mp hb
        exact (hT q hq).2
      . have z' := (if_neg hb).symm.trans z
        cases z'
    . by_cases hb : b ∈ tabs.map (·.2)
      . have z' := (if_pos hb).symm.trans z
        cases z'
        obtain ⟨q, hq, e⟩ := yBB.mp hb
        exact .inr ⟨rfl, q, hq, e⟩
      . have z' := (if_neg hb).symm.trans z
        cases z'
  | none =>
    refine core (fun b => if b ∈ tabs.map (·.2) then some (.tbl #[]) else if b = a then some (.frz { cls := .type "list", data := .seq vs.toArray } (.lst (ns.map V.int))) else none) (.inl (.inr ⟨{ cls := .type "list", data := .seq vs.toArray }, ?_⟩)) (fun b u z => ?_) (fun b u z => ?_) fun q hq => if_pos (List.mem_map_of_mem hq)
    . dsimp only
      rw [if_neg, if_pos rfl]
      intro z
      obtain ⟨q, hq, e⟩ := yBB.mp z
      exact tabA q hq e
    . by_cases hb : b ∈ tabs.map (·.2)
      . have z' := (if_pos hb).symm.trans z
        cases z'
        obtain ⟨q, hq, rfl⟩ := yBB.mp hb
        exact (hT q hq).2
      . have z' := (if_neg hb).symm.trans z
        by_cases hba : b = a
        . have z' := (if_pos hba).symm.trans z'
          cases z'
          subst hba
          exact ⟨ha, by rw [yAB]; exact hl, vs, _, rv, ha⟩
        . have z' := (if_neg hba).symm.trans z'
          cases z'
    . by_cases hb : b ∈ tabs.map (·.2)
      . have z' := (if_pos hb).symm.trans z
        cases z'
        obtain ⟨q, hq, e⟩ := yBB.mp hb
        exact .inr ⟨rfl, q, hq, e⟩
      . have z' := (if_neg hb).symm.trans z
        by_cases hba : b = a
        . have z' := (if_pos hba).symm.trans z'
          cases z'
          exact .inl ⟨hba, hk, _, _, rfl⟩
        . have z' := (if_neg hba).symm.trans z'
          cases z'
def ZDt (K : W.Frag) (tabs : List (Addr × Addr)) : Sp := fun vs H Q _ => ∃ (a : Addr) (ns : List Int), vs = [.ref a] /\ SqL K H a (ns.map V.int) /\ ns.length <= 63 /\ ZEU tabs H /\ ∀ H', Q (.bl true) H'
theorem tabIn_of {K : W.Frag} {x : Str} {f c Pt : Addr} {oc oc2 : Value} {od od2 : Option Addr} {fd : FuncData} {sl sl2 : Array (Option Value)} {vs : Array Value} (a : W.nsIn K mainGlobals x = some (some (.ref f))) (l : K.lookup f = some ⟨oc, od, .func fd, sl⟩) (hc : fd.code = .ref c)
    (lc : K.lookup c = some ⟨oc2, od2, .fields vs, sl2⟩) (tp : vs[11]? = some (.ref Pt)) : PySem.W.tabIn K x = some (c, Pt) := by
  unfold PySem.W.tabIn
  rw [a]
  dsimp only
  rw [l]
  dsimp only
  rw [hc]
  dsimp only
  rw [lc]
  dsimp only
  rw [tp]
theorem walk_ofT2 {l : PySem.W.OpenLaw} {k : Nat} {q : Program} {loose : List Str} {XP : (Str -> Option Value) -> Heap -> Prop} {YP : World -> Heap -> Prop} {d : DefRec} {K : Params -> W.Frag} {x : Str} {names : List Str}
    (hn : l.most = some 63) (hdf : d.params.defaults = []) (hr : Room k callerA)
    (hY : ∀ (w : World) (h : Heap), YP w h -> (K w.params).In h) (hrec : ∀ y ∈ names, ∃ dr, (recsOf q).find? (fun e => e.name == y) = some dr)
    (F : ∀ (w : World) (mg : Str -> Option Value) (fa : Addr) (h : Heap), (K w.params).In h -> h.Ns mainGlobals mg -> mg d.name = some (.ref fa) ->
      ∃ (tabs : List (Addr × Addr)) (fd : FuncData), PySem.W.noTabs (K w.params) = true /\ (∀ t ∈ tabs, ∃ y ∈ names, PySem.W.tabIn (K w.params) y = some t) /\ (∀ (s : Shared) (u : Value), BindsTo s fd ⟨[u], []⟩ [(x, u)]) /\
        ∀ base : Heap, (K w.params).In base -> base.Ns mainGlobals mg -> (∀ t ∈ tabs, PySem.W.CodeHd base t.1 t.2) -> ZC9 mg base -> FnOk l.prog w (K w.params) mg base CX0 k fa fd [x] (ZDt (K w.params) tabs)) :
    PySem.W.WalkO q loose XP YP l.row.toRowW d [] (fun f vs => PySem.call f vs) := by
  refine Att.attach_call hn hdf fun w s₀ s₁ mg mb fa o pm cd doc a vs ns G Y ho hd hcd hmg hobj hints hlen hg => ?_
  have KX := hY w _ Y
  obtain ⟨tabs, fd, nt, ht, hb, hF⟩ := F w mg fa _ KX G.T.g hmg
  refine law_callT (tabs := tabs) KX G.T.g G.T.b G.T.builtins G.T.nolimit hg hobj hints (yAK hlen (by decide)) hr (fun t h2 => ?_) nt G.T.bmain hF hb (fun H hO hS => ⟨a, ns, rfl, hS, hlen, hO, fun _ => rfl⟩) fun H e s' z => z
  obtain ⟨y, hy, e2⟩ := ht t h2
  obtain ⟨dr, e1⟩ := hrec y hy
  exact PySem.W.tab_of G.T KX e1 e2
theorem hix_of {ix : List Nat} {ps fr : List Str} (h : ix.map (fun i => ps[i]?) = fr.map some) : ∀ (j : Nat) (y : Str), fr[j]? = some y -> ∃ i, ix[j]? = some i /\ ps[i]? = some y := fun j y e => by
  have := congrArg (fun l => l[j]?) h
  simp only [yAR, e, Option.map_some] at this
  cases q : ix[j]? with
  | none => rw [q] at this; cases this
  | some i => rw [q] at this; exact ⟨i, rfl, by simpa using this⟩
def inBody (s : Stmt) (j : Nat) : Stmt := (ZAN s).getD j (.Pass ⟨0, 0, 0, 0⟩)
def ZCf (s : Stmt) : Pos := match s with
  | .FunctionDef _ _ _ _ _ _ _ _ _ pos => pos
  | _ => ⟨0, 0, 0, 0⟩
theorem cx_cloK {P : Program} {w : World} {K : W.Frag} {mg : Str -> Option Value} {base : Heap} {N : List Str} {qual : Str} {scope : Scope} {f : Addr} {cd : Value} {cl : List (Str × Addr)} {A : Around} {outer : List Env} {s : Shared} {H : Hp} : (ZDm P w K mg base N qual scope f cd cl A outer s H).K = K := rfl
section
variable {prog : Program} {w : World} {A : Around} {R : Result -> Shared -> Prop} {I : Addr} {fp wr : List Addr} {n : Nat} {P : Nat -> Value -> Prop} {St : Nat -> Heap -> Prop}
end
section
variable {prog : Program} {w : World} {A : Around} {E : Value -> Shared -> Prop} {s : Shared} {l : Addr}
end
def maxD (d : Int) : List Int -> Int
  | [] => d
  | x :: r => r.foldl (fun m y => if m < y then y else m) x
section
variable {X : Cx} {e d : Expr} {te td : TE} {p pos : Pos} {kpos : Pos}
def tMaxD (K : W.Frag) (te td : TE) : TE := fun σ H Q => te σ H fun x H1 => td σ H1 fun y H2 => ∃ a ns dd, x = .ref a /\ y = .int dd /\ SqL K H2 a (ns.map V.int) /\ Q (.int (maxD dd ns)) H2
end
theorem lkc {k k' : Str} {v : V} {r : List (Str × V)} : List.lookup k ((k', v) :: r) = if k = k' then some v else List.lookup k r := by
  rw [yBN]
  by_cases h : k = k'
  . subst h; simp
  . have : (k == k') = false := by simpa using h
    rw [this, if_neg h]
theorem length_putF_of {f : Str} {v u : V} : ∀ {fs : List (Str × V)}, fs.lookup f = some u -> (putF f v fs).length = fs.length
  | [], h => by cases h
  | (g, w) :: r, h => by
    unfold putF
    by_cases e : g = f
    . rw [if_pos e]; rfl
    . rw [if_neg e, yAF, yAF]
      rw [lkc, if_neg (fun z => e z.symm)] at h
      rw [length_putF_of h]
structure Ins (H : Hp) (a C : Addr) (fl : List (Str × V)) : Prop where
  ex : ∃ dx fs, H a = some (.ins C dx fs) /\ fs.length <= 50 /\ ∀ f, fs.lookup f = fl.lookup f
theorem Ins.of {H : Hp} {a C dx : Addr} {fl : List (Str × V)} (h : H a = some (.ins C dx fl)) (hl : fl.length <= 50) : Ins H a C fl := ⟨dx, fl, h, hl, fun _ => rfl⟩
theorem Ins.congr {H : Hp} {a C : Addr} {fl fl' : List (Str × V)} (h : Ins H a C fl) (e : ∀ f, fl.lookup f = fl'.lookup f) : Ins H a C fl' := let ⟨dx, fs, h1, h2, h3⟩ := h.ex; ⟨dx, fs, h1, h2, fun f => (h3 f).trans (e f)⟩
theorem Ins.mono {H H' : Hp} {a C : Addr} {fl : List (Str × V)} (h : Ins H a C fl) (s : Same H H') : Ins H' a C fl := let ⟨dx, fs, h1, h2, h3⟩ := h.ex; ⟨dx, fs, s _ _ h1, h2, h3⟩
theorem Ins.keep {H H' : Hp} {a C : Addr} {fl : List (Str × V)} (h : Ins H a C fl) (s : H' a = H a) : Ins H' a C fl := let ⟨dx, fs, h1, h2, h3⟩ := h.ex; ⟨dx, fs, s.trans h1, h2, h3⟩
theorem Ins.ne {H : Hp} {a b C : Addr} {fl : List (Str × V)} {o : HO} (h : Ins H a C fl) (hb : H b = some o) (n : ∀ C dx fs, o ≠ .ins C dx fs) : b ≠ a := fun z => by
  obtain ⟨dx, fs, h1, _⟩ := h.ex
  rw [z, h1] at hb
  exact n _ _ _ (Option.some.inj hb).symm
theorem Ins.neN {H : Hp} {a b C : Addr} {fl : List (Str × V)} (h : Ins H a C fl) (hb : H b = none) : b ≠ a := fun z => by
  obtain ⟨dx, fs, h1, _⟩ := h.ex
  rw [z, h1] at hb; cases hb
section
variable {K : W.Frag} {f : Str} {a C : Addr} {fl : List (Str × V)} {v : V} {H : Hp}
theorem Ins.get {Q : VK} (h : Ins H a C fl) (cl : Cls K C) (n : NoAttr K C f) (l : fl.lookup f = some v) (q : Q v H) : getF K f (.ref a) H Q := by
  obtain ⟨dx, fs, h1, h2, h3⟩ := h.ex
  exact getF_of h1 cl n ((h3 f).trans l) q
theorem Ins.meth {m : Str} {R : Prop} (h : Ins H a C fl) (l : fl.lookup m = none) (q : R) : ∃ b dx fs, V.ref a = .ref b /\ H b = some (.ins C dx fs) /\ fs.lookup m = none /\ R := by
  obtain ⟨dx, fs, h1, h2, h3⟩ := h.ex
  exact ⟨a, dx, fs, rfl, h1, (h3 m).trans l, q⟩
end
def augA (K : W.Frag) (tv : TE) (rd : V -> V -> Hp -> VK -> Prop) (f : Str) (D : Ends) (σ : St) (x : V) (H1 : Hp) : Prop := ∃ a C dx fs v, x = .ref a /\ H1 a = some (.ins C dx fs) /\ Cls K C /\ NoAttr K C f /\ fs.lookup f = some v /\
  tv σ H1 fun y H2 => rd v y H2 fun z H3 => ∃ dx' fs', H3 a = some (.ins C dx' fs') /\ fs'.length < 1000 /\ D.nx σ (upd H3 a (.ins C dx' (putF f z fs')))
theorem sFldAug_eq {K : W.Frag} {ta tv : TE} {rd : V -> V -> Hp -> VK -> Prop} {f : Str} {D : Ends} {σ : St} {H : Hp} : sFldAug K ta tv rd f D σ H = ta σ H (fun x H1 => augA K tv rd f D σ x H1) := rfl
theorem Ins.aug {K : W.Frag} {f : Str} {a C : Addr} {fl : List (Str × V)} {i j : Int} {H : Hp} {D : Ends} {σ : St} (h : Ins H a C fl) (cl : Cls K C) (n : NoAttr K C f) (l : fl.lookup f = some (.int i))
    (q : ∀ H', Ins H' a C (putF f (.int (i + j)) fl) -> (∀ b, b ≠ a -> H' b = H b) -> D.nx σ H') : augA K (tC (.int j)) rAdd f D σ (.ref a) H := by
  obtain ⟨dx, fs, h1, h2, h3⟩ := h.ex
  refine ⟨a, C, dx, fs, _, rfl, h1, cl, n, (h3 f).trans l, i, j, rfl, rfl, dx, fs, h1, by omega, q _ ⟨dx, _, ZAF, ?_, fun g => ?_⟩ fun b hb => ZAI hb⟩
  . rw [length_putF_of ((h3 f).trans l)]; exact h2
  . rw [ZAv, ZAv, h3]
theorem setX {K : W.Frag} {f : Str} {a C dx : Addr} {fs : List (Str × V)} {v : V} {H : Hp} {Q : Hp -> Prop} (h : H a = some (.ins C dx fs)) (cl : Cls K C) (n : NoAttr K C f) (hl : fs.length <= 20) (q : ∀ H', H' a = some (.ins C dx (putF f v fs)) -> (∀ b, b ≠ a -> H' b = H b) -> Q H') : setF K f (.ref a) v H Q :=
  setF_of h cl n (by omega) (q _ ZAF fun b hb => ZAI hb)
theorem ZAn {f : Str} {v : V} {fs : List (Str × V)} {n : Nat} (h : fs.length <= n) : (putF f v fs).length <= n + 1 := yAK (ZB0 f v fs) (Nat.succ_le_succ h)
theorem ZEM {f0 : Str} {v0 : V} : (putF f0 v0 []).length <= 20 := yAK (ZAn (yAA 0)) (by decide)
theorem putL2 {f0 f1 : Str} {v0 v1 : V} : (putF f1 v1 (putF f0 v0 [])).length <= 20 := yAK (ZAn (ZAn (yAA 0))) (by decide)
theorem putL3 {f0 f1 f2 : Str} {v0 v1 v2 : V} : (putF f2 v2 (putF f1 v1 (putF f0 v0 []))).length <= 20 := yAK (ZAn (ZAn (ZAn (yAA 0)))) (by decide)
theorem putL4 {f0 f1 f2 f3 : Str} {v0 v1 v2 v3 : V} : (putF f3 v3 (putF f2 v2 (putF f1 v1 (putF f0 v0 [])))).length <= 20 := yAK (ZAn (ZAn (ZAn (ZAn (yAA 0))))) (by decide)
theorem putL5 {f0 f1 f2 f3 f4 : Str} {v0 v1 v2 v3 v4 : V} : (putF f4 v4 (putF f3 v3 (putF f2 v2 (putF f1 v1 (putF f0 v0 []))))).length <= 20 := yAK (ZAn (ZAn (ZAn (ZAn (ZAn (yAA 0)))))) (by decide)
theorem mx_eq (p q : Int) : (if q > p then q else p) = max p q := by split <;> omega
theorem ZEP (p q : Int) : (if q < p then q else p) = min p q := by split <;> omega
section
variable {X : Cx}
end
theorem us_len {us ds : List Value} {ps : List Str} {n : Nat} (h : (us ++ ds).length = ps.length) (e : n + ds.length = ps.length) : us.length = n := by
  rw [yAC] at h; omega
def Fr (S : List Addr) (H H' : Hp) : Prop := ∀ b o, b ∉ S -> H b = some o -> H' b = some o
theorem Fr.refl {S : List Addr} {H : Hp} : Fr S H H := fun _ _ _ h => h
theorem Fr.trans {S : List Addr} {H H' H'' : Hp} (e : Fr S H H') (f : Fr S H' H'') : Fr S H H'' := fun b o n h => f b o n (e b o n h)
theorem Same.fr {S : List Addr} {H H' : Hp} (e : Same H H') : Fr S H H' := fun b o _ h => e b o h
theorem Fr.upd {S : List Addr} {H : Hp} {l : Addr} {o : HO} (h : l ∈ S) : Fr S H (upd H l o) := fun b o' n e => by
  have z : b ≠ l := fun z => n (by rw [z]; exact h)
  rw [ZAI z]; exact e
end L2
namespace PySem
namespace F
end F
section
variable {prog : Program} {w : World} {A : Around} {s : Shared} {R : Result -> Shared -> Prop}
variable {I : Addr} {fp wr : List Addr} {G : Array GenState -> Array GenState -> Prop} {n : Nat} {P : Nat -> Value -> Prop} {St : Nat -> Shared -> Prop}
end
section
variable {prog : Program} {w : World} {A : Around} {E : Value -> Shared -> Prop} {s : Shared}
variable {I : Addr} {fp wr : List Addr} {G : Array GenState -> Array GenState -> Prop} {n : Nat} {P : Nat -> Value -> Prop} {St : Nat -> Shared -> Prop}
end
end PySem
namespace L2
open PySem PySem.Spec PyProof.Rows
def tRevL (K : W.Frag) (t : TA) : TE := fun σ H Q => t σ H fun vs H1 => ∃ (l : Addr) (ys : List V), vs = [.ref l] /\ SqL K H1 l ys /\ ∀ r, H1 r = none -> Q (.ref r) (upd H1 r (.lst ys.reverse))
section
variable {X : Cx} {e : Expr} {ta : TA} {p p2 pos pos2 : Pos}
end
def compR2 (g : TG) (tt : TT) (te : TE) (σ0 : St) (Q : VK) (x y : V) (H1 : Hp) : Prop := ∃ i j : Int, [x, y] = [.int i, .int j] /\ (-(2 ^ 62) <= i /\ i < 2 ^ 62 /\ -(2 ^ 62) <= j /\ j < 2 ^ 62) /\ compR i g tt te σ0 Q (j - i).toNat H1
theorem tCompR2_eq {k : Nat} {js : List Nat} {t u : TE} {g : TG} {tt : TT} {te : TE} {σ : St} {H : Hp} {Q : VK} : ZDg k js (iRng2 (ZBu t (ZBu u tNil))) g tt te σ H Q = t σ H (fun x H1 => u σ H1 fun y H2 => compR2 g tt te (up k js σ) Q x y H2) := rfl
section
variable {X : Cx}
end
def Itz (K : W.Frag) (a b : Addr) : It :=
  ⟨fun i H => ∃ xs x ys y, SqL K H a xs /\ xs[i]? = some x /\ SqL K H b ys /\ ys[i]? = some y, fun i H v H' => ∃ p x y, H p = none /\ (∀ xs, SqL K H a xs -> xs[i]? = some x) /\ (∀ ys, SqL K H b ys -> ys[i]? = some y) /\ H' = upd H p (.tup [x, y]) /\ v = .ref p, fun i H => ∃ xs ys, SqL K H a xs /\ SqL K H b ys /\ (xs.length <= i ∨ ys.length <= i)⟩
section
variable {X : Cx}
def iZip (K : W.Frag) (ta : TA) : TI := fun σ H R => ta σ H fun vs H1 => ∃ a b, vs = [.ref a, .ref b] /\ (∃ xs, SqL K H1 a xs) /\ (∃ xs, SqL K H1 b xs) /\ R (Itz K a b) H1
end
section
variable {K : W.Frag} {a b : Addr} {xs ys : List V} {g : TG} {tb : TS} {D : Ends} {σ : St} {H : Hp}
def forZ (K : W.Frag) (g : TG) (tb : TS) (D : Ends) (σ : St) (x y : V) (H1 : Hp) : Prop := ∃ a b, [x, y] = [.ref a, .ref b] /\ (∃ xs, SqL K H1 a xs) /\ (∃ xs, SqL K H1 b xs) /\ ∃ W : Nat -> Nat -> St -> Hp -> Prop, (∃ m, W 0 m σ H1) /\ ∀ i m σ H, W i m σ H ->
  ((Itz K a b).stop i H /\ D.nx σ H) ∨ ((Itz K a b).go i H /\ ∃ N : St -> Hp -> Prop, (∀ σ' H', N σ' H' -> ∃ m', m' < m /\ W (i + 1) m' σ' H') /\ ∀ x H', (Itz K a b).yld i H x H' -> g x σ H' fun σ2 H2 => tb { D with nx := N, ct := N, bk := D.nx } σ2 H2)
theorem tForZ_eq {t u : TE} : tFor (iZip K (ZBu t (ZBu u tNil))) g tb D σ H = t σ H (fun x H1 => u σ H1 fun y H2 => forZ K g tb D σ x y H2) := rfl
end
section
open PySem.SeqAt
open PySem.AutoSeq1 (wpAny_loadPart')
open PySem.MeetsSeq PySem.MeetsSeq2 PySem.MeetsSeq3 HT
end
section
variable {prog : Program} {w : World} {A : Around} {E : Value -> Shared -> Prop} {s : Shared}
end
section
variable {X : Cx}
end
section
variable {κ : Type} [DecidableEq κ]
end
section
variable {P : Program} {w : World} {H : Hp} {h : Heap} {a : Addr}
end
section
variable {X : Cx} {pins : List (Addr × Obj)} {σ : St} {H : Hp} {s : Shared} {a : Addr} {y v : V} {u r : Value} {o : Option V} {A : Around} {E : Value -> Shared -> Prop}
end
section
variable {X : Cx} {pins : List (Addr × Obj)} {σ : St} {H : Hp} {s : Shared} {a : Addr} {kvs : List (Key × V)} {k : Key} {u : Value} {A : Around} {E : Value -> Shared -> Prop}
end
section
variable {X : Cx} {o i e value : Expr} {pos pos' tpos : Pos} {td ty tv : TE}
end
section
variable {X : Cx} {pos : Pos}
end
end L2
namespace PySem
open Sem (wp)
namespace F
end F
section
variable {α : Type} {prog : Program} {w : World} {A : Around} {E : Value -> Shared -> Prop} {s : Shared}
end
section
variable {prog : Program} {w : World} {A : Around} {E : Value -> Shared -> Prop} {h : Heap} {g : Array GenState} {d : Drawn} {t : Nat} {os : OsState} {a : Addr} {its : Array Value} {n : Nat}
end
end PySem
namespace PySem
namespace F
end F
end PySem
namespace L2
open PySem PySem.Spec PyProof.Rows
section
variable {X : Cx} {pins : List (Addr × Obj)} {σ : St} {H : Hp} {s1 : Shared} {A : Around}
end
end L2
namespace PySem
section
variable {prog : Program} {w : World} {A : Around} {E : Value -> Shared -> Prop} {s : Shared} {zo ti to : Addr} {f0 f1 : Value}
end
end PySem
namespace L2
open PySem PySem.Spec PyProof.Rows
section
variable {X : Cx}
end
section
variable {K : W.Frag} {a b : Addr} {xs ys : List V} {g : TG} {σ : St} {H : Hp} {tt : TT} {te : TE} {Q : VK} {σ0 : St}
end
section
variable {X : Cx}
end
section
variable {X : Cx}
end
section
variable {X : Cx}
end
theorem nat_sorted {ms : List Int} {tk : List Nat} (hp : ms.Perm (tk.map fun (n : Nat) => (n : Int))) (hs : ms.Pairwise (· <= ·)) : ∃ A : List Nat, ms = A.map (fun (n : Nat) => (n : Int)) /\ A.Perm tk /\ A.Pairwise (· <= ·) := by
  have hm : ∀ x ∈ ms, ((x.toNat : Nat) : Int) = x := fun x hx => by
    obtain ⟨n, _, e⟩ := yBB.mp (hp.mem_iff.mp hx)
    rw [<- e]; rfl
  refine ⟨ms.map Int.toNat, ?_, ?_, ?_⟩
  . rw [List.map_map]
    have : ms = ms.map id := (List.map_id _).symm
    conv => lhs; rw [this]
    exact List.map_congr_left fun x hx => (hm x hx).symm
  . have := hp.map Int.toNat
    rw [List.map_map] at this
    have e : tk.map (Int.toNat ∘ fun (n : Nat) => (n : Int)) = tk := by
      conv => rhs; rw [<- List.map_id tk]
      exact List.map_congr_left fun x _ => Int.toNat_natCast x
    rw [e] at this
    exact this
  . rw [List.pairwise_map]
    refine hs.imp_of_mem fun {a b} ha hb z => ?_
    have := hm a ha
    have := hm b hb
    omega
end L2
namespace L2S
open PySem PyProof.Rows
def kn (f : Keyed -> Int) (xs : Array Keyed) (i : Nat) : Int := ((xs[i]?).map f).getD 0
theorem ZAx {f : Keyed -> Int} {xs ys : Array Keyed} {i j : Nat} (h : xs[i]? = ys[j]?) : kn f xs i = kn f ys j := by unfold kn; rw [h]
structure Asks (M : Model) (A : Around) (E : Value -> Shared -> Prop) (s : Shared) (κ : SortKind) (a₀ : Array Keyed) (f : Keyed -> Int) : Prop where
  lt : ∀ x y, x ∈ a₀.toList -> y ∈ a₀.toList -> ∀ (st : SortSt) (Q : Option Bool -> SortSt -> Prop), kindOf st = κ -> Q (some (decide (f x < f y))) st -> wpS M A E s (lt' x y) Q st
structure SB (κ : SortKind) (a₀ : Array Keyed) (st : SortSt) : Prop where
  perm : (arrOf st).Perm a₀
  kind : kindOf st = κ
  fail : failedOf st = none
theorem SB.size {κ : SortKind} {a₀ : Array Keyed} {st : SortSt} (h : SB κ a₀ st) : (arrOf st).size = a₀.size := h.perm.size_eq
theorem SB.arr {κ : SortKind} {a₀ : Array Keyed} {st : SortSt} (h : SB κ a₀ st) {xs : Array Keyed} (hp : xs.Perm (arrOf st)) : SB κ a₀ (setArr st xs) := ⟨hp.trans h.perm, h.kind, h.fail⟩
theorem SB.get {κ : SortKind} {a₀ : Array Keyed} {st : SortSt} {f : Keyed -> Int} (h : SB κ a₀ st) {i : Nat} (hi : i < a₀.size) : ∃ x, (arrOf st)[i]? = some x /\ x ∈ a₀.toList /\ kn f (arrOf st) i = f x := by
  have hi' : i < (arrOf st).size := by rw [h.size]; exact hi
  refine ⟨(arrOf st)[i], getElem?_pos _ i hi', (Array.perm_iff_toList_perm.mp h.perm).mem_iff.mp (by simp), ?_⟩
  unfold kn
  rw [getElem?_pos _ i hi']
  rfl
def Up (f : Keyed -> Int) (xs : Array Keyed) (lo n : Nat) : Prop := ∀ i j, lo <= i -> i <= j -> j < lo + n -> kn f xs i <= kn f xs j
def Down (f : Keyed -> Int) (xs : Array Keyed) (lo n : Nat) : Prop := ∀ i j, lo <= i -> i <= j -> j < lo + n -> kn f xs j <= kn f xs i
def Kept (lo : Nat) (xs ys : Array Keyed) : Prop := ∀ i, i < lo -> ys[i]? = xs[i]?
theorem Kept.refl {lo : Nat} {xs : Array Keyed} : Kept lo xs xs := fun _ _ => rfl
theorem Kept.trans {lo : Nat} {xs ys zs : Array Keyed} (a : Kept lo xs ys) (b : Kept lo ys zs) : Kept lo xs zs := fun i h => (b i h).trans (a i h)
theorem ZCb {f : Keyed -> Int} {xs : Array Keyed} {i j : Nat} (hj : j <= xs.size) (k : Nat) : kn f (mirror xs i j ((j - i) / 2)) k = if i <= k /\ k < j then kn f xs (i + j - 1 - k) else kn f xs k := by
  have e := getElem?_mirror_all (i := i) hj k
  split
  . rename_i h; rw [if_pos h] at e; exact ZAx e
  . rename_i h; rw [if_neg h] at e; exact ZAx e
theorem ZBX {lo : Nat} {xs : Array Keyed} {i j : Nat} (hj : j <= xs.size) (hi : lo <= i) : Kept lo xs (mirror xs i j ((j - i) / 2)) := fun k hk => by
  rw [getElem?_mirror_all hj k, if_neg (by omega)]
theorem ZCa {f : Keyed -> Int} {xs : Array Keyed} {i j : Nat} (hj : j <= xs.size) (he : ∀ k, i <= k -> k < j -> kn f xs k = kn f xs (j - 1)) (k : Nat) : kn f (mirror xs i j ((j - i) / 2)) k = kn f xs k := by
  rw [ZCb hj]
  split
  . rename_i h; rw [he _ (by omega) (by omega), he k h.1 h.2]
  . rfl
section
variable {M : Model} {A : Around} {E : Value -> Shared -> Prop} {s : Shared} {κ : SortKind} {a₀ : Array Keyed} {f : Keyed -> Int}
theorem ZDF {st : SortSt} {i j : Nat} {Q : Option Bool -> SortSt -> Prop} (L : Asks M A E s κ a₀ f) (hB : SB κ a₀ st) (hi : i < a₀.size) (hj : j < a₀.size)
    (h : Q (some (decide (kn f (arrOf st) i < kn f (arrOf st) j))) st) : wpS M A E s (ltAt' i j) Q st := by
  obtain ⟨x, e1, m1, k1⟩ := hB.get (f := f) hi
  obtain ⟨y, e2, m2, k2⟩ := hB.get (f := f) hj
  rw [ltAt'_eq]
  refine wpS_bind (wpS_get ?_)
  show wpS _ _ _ _ (elem' (arrOf st) i >>= fun x => elem' (arrOf st) j >>= fun y => lt' x y) Q st
  rw [elem'_eq, elem'_eq, e1, e2]
  refine wpS_bind (wpS_pure (wpS_bind (wpS_pure (L.lt x y m1 m2 st Q hB.kind ?_))))
  rw [<- k1, <- k2]
  exact h
theorem ZDY {st : SortSt} {i j : Nat} {Q : Unit -> SortSt -> Prop} (h : Q () (setArr st (mirror (arrOf st) i j ((j - i) / 2)))) : wpS M A E s (reverseSlice' i j) Q st := by
  rw [reverseSlice'_eq]
  exact wpS_modify h
def ZBp (lo a nrem : Nat) : StateT SortSt Sem AscSt :=
  forIn [a:nrem] ((none, a) : AscSt) fun _ c => do
    let r <- ltAt' (lo + c.snd) (lo + c.snd - 1)
    match r with
    | some b => if b = true then pure (ForInStep.done (none, c.snd)) else pure (ForInStep.yield (none, c.snd + 1))
    | _ => pure (ForInStep.done (some none, c.snd))
def ZDI (lo n nrem : Nat) : StateT SortSt Sem (Option Nat) := do
  reverseSlice' lo (lo + n)
  let c <- ZBp lo n nrem
  match c.fst with
  | some r => pure r
  | none => pure (some c.snd)
def ZBn (lo n nrem : Nat) : StateT SortSt Sem DescSt :=
  forIn [n:nrem] ((none, n, 0) : DescSt) fun _ c => do
    let r <- ltAt' (lo + c.snd.fst) (lo + c.snd.fst - 1)
    match r with
    | some b =>
      if b = true then
        if c.snd.snd > 0 then do
          reverseSlice' (lo + c.snd.fst - (c.snd.snd + 1)) (lo + c.snd.fst)
          pure (ForInStep.yield (none, c.snd.fst + 1, 0))
        else pure (ForInStep.yield (none, c.snd.fst + 1, 0))
      else do
        let r2 <- ltAt' (lo + c.snd.fst - 1) (lo + c.snd.fst)
        match r2 with
        | some b2 =>
          if b2 = true then pure (ForInStep.done (none, c.snd.fst, c.snd.snd))
          else pure (ForInStep.yield (none, c.snd.fst + 1, c.snd.snd + 1))
        | _ => pure (ForInStep.done (some none, c.snd.fst, c.snd.snd))
    | _ => pure (ForInStep.done (some none, c.snd.fst, c.snd.snd))
def ZCA (lo n nrem : Nat) : StateT SortSt Sem (Option Nat) := do
  liftM (rule "list.sort.descending-run")
  let c <- ZBn lo (n + 1) nrem
  match c.fst with
  | some r => pure r
  | none =>
    if c.snd.snd > 0 then do
      reverseSlice' (lo + c.snd.fst - (c.snd.snd + 1)) (lo + c.snd.fst)
      ZDI lo c.snd.fst nrem
    else ZDI lo c.snd.fst nrem
theorem bnd {α β : Type} (m : StateT SortSt Sem α) {g h : α -> StateT SortSt Sem β} (e : ∀ a, g a = h a) : (m >>= g) = (m >>= h) := by rw [show g = h from funext e]
theorem count_eq (lo nrem : Nat) : countRun' lo nrem = (do
    let c <- ZBp lo 1 nrem
    match c.fst with
    | some r => pure r
    | none =>
      if (c.snd == nrem) = true then pure (some c.snd)
      else if c.snd > 1 then do
        let r <- ltAt' lo (lo + c.snd - 1)
        match r with
        | some b => if b = true then pure (some c.snd) else do
            reverseSlice' lo (lo + c.snd)
            ZCA lo c.snd nrem
        | _ => pure none
      else ZCA lo c.snd nrem) := by
  have tl : ∀ n2 : Nat, ZDI lo n2 nrem = (reverseSlice' lo (lo + n2) >>= fun _ => ZBp lo n2 nrem >>= fun c => match c.fst with | some r => pure r | none => pure (some c.snd)) := fun _ => rfl
  rw [countRun'_eq]
  refine bnd (ZBp lo 1 nrem) fun c => ?_
  obtain ⟨r, n⟩ := c
  cases r with
  | some r => rfl
  | none =>
    have dn : ∀ n1 : Nat, (liftM (rule "list.sort.descending-run") >>= fun _ => ZBn lo (n1 + 1) nrem >>= fun c => match c.fst with
        | some r => pure r
        | none => if c.snd.snd > 0 then (reverseSlice' (lo + c.snd.fst - (c.snd.snd + 1)) (lo + c.snd.fst) >>= fun _ => ZDI lo c.snd.fst nrem) else ZDI lo c.snd.fst nrem) = ZCA lo n1 nrem := fun _ => rfl
    dsimp only
    split
    . rfl
    . split
      . refine bnd (ltAt' lo (lo + n - 1)) fun x => ?_
        cases x with
        | none => rfl
        | some rose =>
          dsimp only
          split
          . rfl
          . refine bnd _ fun _ => ?_
            rw [<- dn]
            refine bnd _ fun _ => bnd (ZBn lo (n + 1) nrem) fun s2 => ?_
            obtain ⟨r2, n2, q2⟩ := s2
            cases r2 with
            | some r2 => rfl
            | none =>
              dsimp only
              split
              . refine bnd _ fun _ => ?_
                rw [tl]
                refine bnd _ fun _ => bnd (ZBp lo n2 nrem) fun s3 => ?_
                obtain ⟨r3, n3⟩ := s3
                cases r3 <;> rfl
              . rw [tl]
                refine bnd _ fun _ => bnd (ZBp lo n2 nrem) fun s3 => ?_
                obtain ⟨r3, n3⟩ := s3
                cases r3 <;> rfl
      . rw [<- dn]
        refine bnd _ fun _ => bnd (ZBn lo (n + 1) nrem) fun s2 => ?_
        obtain ⟨r2, n2, q2⟩ := s2
        cases r2 with
        | some r2 => rfl
        | none =>
          dsimp only
          split
          . refine bnd _ fun _ => ?_
            rw [tl]
            refine bnd _ fun _ => bnd (ZBp lo n2 nrem) fun s3 => ?_
            obtain ⟨r3, n3⟩ := s3
            cases r3 <;> rfl
          . rw [tl]
            refine bnd _ fun _ => bnd (ZBp lo n2 nrem) fun s3 => ?_
            obtain ⟨r3, n3⟩ := s3
            cases r3 <;> rfl
theorem up_one {xs : Array Keyed} {lo : Nat} : Up f xs lo 1 := fun i j h1 h2 h3 => by rw [show i = j by omega]; exact Int.le_refl _
theorem up_loop {st : SortSt} {lo a nrem : Nat} {Q : AscSt -> SortSt -> Prop} (L : Asks M A E s κ a₀ f) (hn : lo + nrem <= a₀.size) (ha : 1 <= a) (han : a <= nrem) (hB : SB κ a₀ st) (hs : Up f (arrOf st) lo a)
    (h : ∀ n, a <= n -> n <= nrem -> Up f (arrOf st) lo n -> (n = nrem ∨ kn f (arrOf st) (lo + n) < kn f (arrOf st) (lo + n - 1)) -> Q (none, n) st) : wpS M A E s (ZBp lo a nrem) Q st := by
  unfold ZBp
  refine wpS_forRange (I := fun x c st' => st' = st /\ c = (none, x) /\ Up f (arrOf st) lo x) ?_ ?_ ⟨rfl, rfl, hs⟩
  . rintro x c st' hax hxn ⟨rfl, rfl, hs'⟩
    dsimp only
    refine wpS_bind (ZDF L hB (by omega) (by omega) ?_)
    by_cases hl : kn f (arrOf st') (lo + x) < kn f (arrOf st') (lo + x - 1)
    . rw [decide_eq_true hl]
      exact wpS_pure (h x hax (by omega) hs' (.inr hl))
    . rw [decide_eq_false hl]
      refine wpS_pure ⟨rfl, rfl, fun i j h1 h2 h3 => ?_⟩
      by_cases hj : j < lo + x
      . exact hs' i j h1 h2 hj
      . by_cases hi : i = j
        . rw [hi]; exact Int.le_refl _
        . have e1 := hs' i (lo + x - 1) h1 (by omega) (by omega)
          rw [show j = lo + x by omega]
          omega
  . rintro c st' ⟨rfl, rfl, hs'⟩
    rw [Nat.max_eq_right han] at hs' ⊢
    exact h nrem han (yAA _) hs' (.inl rfl)
abbrev ZD9 (κ : SortKind) (a₀ : Array Keyed) (f : Keyed -> Int) (lo nrem : Nat) (xs : Array Keyed) (pd : Array (Nat × Nat × Nat)) (Q : Option Nat -> SortSt -> Prop) : Prop :=
  ∀ m st', SB κ a₀ st' -> 1 <= m -> m <= nrem -> Up f (arrOf st') lo m -> Kept lo xs (arrOf st') -> pendingOf st' = pd -> Q (some m) st'
theorem tail_l {st : SortSt} {lo n nrem : Nat} {xs : Array Keyed} {pd : Array (Nat × Nat × Nat)} {Q : Option Nat -> SortSt -> Prop} (L : Asks M A E s κ a₀ f) (hn : lo + nrem <= a₀.size) (h1 : 1 <= n) (hnn : n <= nrem) (hB : SB κ a₀ st)
    (hs : Down f (arrOf st) lo n) (hk : Kept lo xs (arrOf st)) (hp : pendingOf st = pd) (h : ZD9 κ a₀ f lo nrem xs pd Q) : wpS M A E s (ZDI lo n nrem) Q st := by
  unfold ZDI
  have hsz : lo + n <= (arrOf st).size := by rw [hB.size]; omega
  refine wpS_bind (ZDY ?_)
  have hB' : SB κ a₀ (setArr st (mirror (arrOf st) lo (lo + n) ((lo + n - lo) / 2))) := hB.arr (mirror_perm _ _ _ _)
  have hk' : Kept lo xs (mirror (arrOf st) lo (lo + n) ((lo + n - lo) / 2)) := hk.trans (ZBX hsz (yAA _))
  refine wpS_bind (up_loop L hn h1 hnn hB' (fun i j z1 z2 z3 => ?_) fun m hm1 hm2 hsm _ => wpS_pure (h m _ hB' (by omega) hm2 hsm hk' hp))
  show kn f (mirror (arrOf st) lo (lo + n) _) i <= kn f (mirror (arrOf st) lo (lo + n) _) j
  rw [ZCb hsz, ZCb hsz, if_pos (by omega), if_pos (by omega)]
  exact hs _ _ (by omega) (by omega) (by omega)
theorem down_loop {st : SortSt} {lo n nrem : Nat} {xs : Array Keyed} {pd : Array (Nat × Nat × Nat)} {Q : DescSt -> SortSt -> Prop} (L : Asks M A E s κ a₀ f) (hn : lo + nrem <= a₀.size) (h1 : 1 <= n) (hnn : n <= nrem) (hB : SB κ a₀ st)
    (hs : Down f (arrOf st) lo n) (hk : Kept lo xs (arrOf st)) (hp : pendingOf st = pd)
    (h : ∀ m q st', SB κ a₀ st' -> n <= m -> m <= nrem -> Down f (arrOf st') lo m -> q + 1 <= m -> (∀ i, lo + m - (q + 1) <= i -> i < lo + m -> kn f (arrOf st') i = kn f (arrOf st') (lo + m - 1)) -> Kept lo xs (arrOf st') -> pendingOf st' = pd -> Q (none, m, q) st') :
    wpS M A E s (ZBn lo n nrem) Q st := by
  unfold ZBn
  refine wpS_forRange (I := fun x c st' => ∃ q, c = (none, x, q) /\ SB κ a₀ st' /\ Down f (arrOf st') lo x /\ q + 1 <= x /\ (∀ i, lo + x - (q + 1) <= i -> i < lo + x -> kn f (arrOf st') i = kn f (arrOf st') (lo + x - 1)) /\ Kept lo xs (arrOf st') /\ pendingOf st' = pd) ?_ ?_
    ⟨0, rfl, hB, hs, by omega, fun i z1 z2 => by rw [show i = lo + n - 1 by omega], hk, hp⟩
  . rintro x c st' hax hxn ⟨q, rfl, hB', hs', hq, he, hk', hp'⟩
    dsimp only
    have hsz : lo + x <= (arrOf st').size := by rw [hB'.size]; omega
    refine wpS_bind (ZDF L hB' (by omega) (by omega) ?_)
    by_cases hl : kn f (arrOf st') (lo + x) < kn f (arrOf st') (lo + x - 1)
    . rw [decide_eq_true hl]
      have more : ∀ ys : Array Keyed, (∀ k, kn f ys k = kn f (arrOf st') k) -> Down f ys lo (x + 1) := fun ys hy i j z1 z2 z3 => by
        rw [hy, hy]
        by_cases hj : j < lo + x
        . exact hs' i j z1 z2 hj
        . by_cases hi : i = j
          . rw [hi]; exact Int.le_refl _
          . have e1 := hs' i (lo + x - 1) z1 (by omega) (by omega)
            rw [show j = lo + x by omega]
            omega
      dsimp only
      rw [if_pos rfl]
      by_cases hq0 : q > 0
      . rw [if_pos hq0]
        refine wpS_bind (ZDY (wpS_pure ⟨0, rfl, hB'.arr (mirror_perm _ _ _ _), more _ (ZCa hsz he), by omega, fun i z1 z2 => by rw [show i = lo + (x + 1) - 1 by omega], hk'.trans (ZBX hsz (by omega)), hp'⟩))
      . rw [if_neg hq0]
        exact wpS_pure ⟨0, rfl, hB', more _ (fun _ => rfl), by omega, fun i z1 z2 => by rw [show i = lo + (x + 1) - 1 by omega], hk', hp'⟩
    . rw [decide_eq_false hl]
      dsimp only
      rw [if_neg (by decide)]
      refine wpS_bind (ZDF L hB' (by omega) (by omega) ?_)
      by_cases hg : kn f (arrOf st') (lo + x - 1) < kn f (arrOf st') (lo + x)
      . rw [decide_eq_true hg]
        exact wpS_pure (h x q st' hB' hax (by omega) hs' hq he hk' hp')
      . rw [decide_eq_false hg]
        have ex : kn f (arrOf st') (lo + x) = kn f (arrOf st') (lo + x - 1) := by omega
        refine wpS_pure ⟨q + 1, rfl, hB', fun i j z1 z2 z3 => ?_, by omega, fun i z1 z2 => ?_, hk', hp'⟩
        . by_cases hj : j < lo + x
          . exact hs' i j z1 z2 hj
          . by_cases hi : i = j
            . rw [hi]; exact Int.le_refl _
            . have e1 := hs' i (lo + x - 1) z1 (by omega) (by omega)
              rw [show j = lo + x by omega]
              omega
        . rw [show lo + (x + 1) - 1 = lo + x by omega]
          by_cases hi : i = lo + x
          . rw [hi]
          . rw [ex]; exact he i (by omega) (by omega)
  . rintro c st' ⟨q, rfl, hB', hs', hq, he, hk', hp'⟩
    rw [Nat.max_eq_right hnn] at hs' hq he ⊢
    exact h nrem q st' hB' hnn (yAA _) hs' hq he hk' hp'
theorem down_part {st : SortSt} {lo n nrem : Nat} {xs : Array Keyed} {pd : Array (Nat × Nat × Nat)} {Q : Option Nat -> SortSt -> Prop} (L : Asks M A E s κ a₀ f) (hn : lo + nrem <= a₀.size) (hnn : n + 1 <= nrem) (hB : SB κ a₀ st)
    (hs : Down f (arrOf st) lo (n + 1)) (hk : Kept lo xs (arrOf st)) (hp : pendingOf st = pd) (h : ZD9 κ a₀ f lo nrem xs pd Q) : wpS M A E s (ZCA lo n nrem) Q st := by
  unfold ZCA
  refine wpS_bind (wpS_lift (wpAny_rule ⟨rfl, ?_⟩))
  refine wpS_bind (down_loop L hn (by omega) hnn hB hs hk hp fun m q st' hB' hm1 hm2 hs' hq he hk' hp' => ?_)
  dsimp only
  have hsz : lo + m <= (arrOf st').size := by rw [hB'.size]; omega
  by_cases hq0 : q > 0
  . rw [if_pos hq0]
    refine wpS_bind (ZDY (tail_l L hn (by omega) hm2 (hB'.arr (mirror_perm _ _ _ _)) (fun i j z1 z2 z3 => ?_) (hk'.trans (ZBX hsz (by omega))) hp' h))
    show kn f (mirror (arrOf st') _ _ _) j <= kn f (mirror (arrOf st') _ _ _) i
    rw [ZCa hsz he, ZCa hsz he]
    exact hs' i j z1 z2 z3
  . rw [if_neg hq0]
    exact tail_l L hn (by omega) hm2 hB' hs' hk' hp' h
theorem count_run {st : SortSt} {lo nrem : Nat} {Q : Option Nat -> SortSt -> Prop} (L : Asks M A E s κ a₀ f) (hn : lo + nrem <= a₀.size) (h1 : 1 <= nrem) (hB : SB κ a₀ st)
    (h : ZD9 κ a₀ f lo nrem (arrOf st) (pendingOf st) Q) : wpS M A E s (countRun' lo nrem) Q st := by
  rw [count_eq]
  refine wpS_bind (up_loop L hn (yAA 1) h1 hB up_one fun n hn1 hn2 hsn hor => ?_)
  dsimp only
  by_cases hnn : n = nrem
  . rw [if_pos (by simpa using hnn)]
    exact wpS_pure (h n st hB hn1 hn2 hsn .refl rfl)
  rw [if_neg (by simpa using hnn)]
  have hlt := hor.resolve_left hnn
  by_cases hgt : n > 1
  . rw [if_pos hgt]
    refine wpS_bind (ZDF L hB (by omega) (by omega) ?_)
    by_cases hr : kn f (arrOf st) lo < kn f (arrOf st) (lo + n - 1)
    . rw [decide_eq_true hr]
      exact wpS_pure (h n st hB hn1 hn2 hsn .refl rfl)
    rw [decide_eq_false hr]
    dsimp only
    rw [if_neg (by decide)]
    have hsz : lo + n <= (arrOf st).size := by rw [hB.size]; omega
    have hall : ∀ k, lo <= k -> k < lo + n -> kn f (arrOf st) k = kn f (arrOf st) (lo + n - 1) := fun k k1 k2 => by
      have a1 := hsn lo k (yAA _) k1 k2
      have a2 := hsn k (lo + n - 1) k1 (by omega) (by omega)
      omega
    refine wpS_bind (ZDY (down_part L hn (by omega) (hB.arr (mirror_perm _ _ _ _)) (fun i j z1 z2 z3 => ?_) (ZBX hsz (yAA _)) rfl h))
    show kn f (mirror (arrOf st) _ _ _) j <= kn f (mirror (arrOf st) _ _ _) i
    rw [ZCa hsz hall, ZCa hsz hall]
    by_cases hj : j < lo + n
    . rw [hall i z1 (by omega), hall j (by omega) hj]; exact Int.le_refl _
    . by_cases hi : i = j
      . rw [hi]; exact Int.le_refl _
      . rw [hall i z1 (by omega), show j = lo + n by omega]; exact Int.le_of_lt hlt
  . rw [if_neg hgt]
    have hn1' : n = 1 := by omega
    subst hn1'
    refine down_part L hn (by omega) hB (fun i j z1 z2 z3 => ?_) .refl rfl h
    by_cases hi : i = j
    . rw [hi]; exact Int.le_refl _
    . have e1 : i = lo := by omega
      have e2 : j = lo + 1 := by omega
      subst e1 e2
      exact Int.le_of_lt hlt
theorem kn_bubble {xs : Array Keyed} {src d : Nat} (hs : src < xs.size) (hd : d <= src) (k : Nat) : kn f (bubble xs src d) k = if k = src - d then kn f xs src else if src - d < k /\ k <= src then kn f xs (k - 1) else kn f xs k := by
  have e := getElem?_bubble hs d hd k
  split
  . rename_i h; rw [if_pos h] at e; exact ZAx e
  . rename_i h
    rw [if_neg h] at e
    split
    . rename_i h2; rw [if_pos h2] at e; exact ZAx e
    . rename_i h2; rw [if_neg h2] at e; exact ZAx e
theorem kept_bubble {lo : Nat} {xs : Array Keyed} {src d : Nat} (hs : src < xs.size) (hd : lo + d <= src) : Kept lo xs (bubble xs src d) := fun k hk => by
  rw [getElem?_bubble hs d (by omega) k, if_neg (by omega), if_neg (by omega)]
theorem bin_sort {st : SortSt} {lo n ok : Nat} {Q : Bool -> SortSt -> Prop} (L : Asks M A E s κ a₀ f) (hn : lo + n <= a₀.size) (hok : ok <= n) (hB : SB κ a₀ st) (hs : Up f (arrOf st) lo ok)
    (h : ∀ st', SB κ a₀ st' -> Up f (arrOf st') lo n -> Kept lo (arrOf st) (arrOf st') -> pendingOf st' = pendingOf st -> Q true st') : wpS M A E s (binarySort' lo n ok) Q st := by
  rw [binarySort'_eq]
  refine wpS_bind (wpS_mono (wpS_forRange (I := fun k c st' => c = (none, ()) /\ SB κ a₀ st' /\ Up f (arrOf st') lo (min k n) /\ Kept lo (arrOf st) (arrOf st') /\ pendingOf st' = pendingOf st)
    (Q := fun c st' => c = (none, ()) /\ SB κ a₀ st' /\ Up f (arrOf st') lo n /\ Kept lo (arrOf st) (arrOf st') /\ pendingOf st' = pendingOf st) ?_ ?_ ?_) ?_)
  . rintro k c st' hak hkn ⟨rfl, hB', hs', hk', hp'⟩
    rw [show min k n = k by omega] at hs'
    have hk : lo + k < a₀.size := by omega
    refine wpS_bind (wpS_mono (wpS_forRange (I := fun x c st2 => st2 = st' /\ ∃ l r, c = (none, l, r) /\ l <= r /\ r <= k /\ r - l <= k - x /\
        (∀ i, i < l -> kn f (arrOf st') (lo + i) <= kn f (arrOf st') (lo + k)) /\ (∀ i, r <= i -> i < k -> kn f (arrOf st') (lo + k) < kn f (arrOf st') (lo + i)))
      (Q := fun c st2 => st2 = st' /\ ∃ l r, c = (none, l, r) /\ l <= k /\ (∀ i, i < l -> kn f (arrOf st') (lo + i) <= kn f (arrOf st') (lo + k)) /\ (∀ i, l <= i -> i < k -> kn f (arrOf st') (lo + k) < kn f (arrOf st') (lo + i))) ?_ ?_ ?_) ?_)
    . rintro x c st2 _ hxk ⟨rfl, l, r, rfl, hlr, hrk, hm, hlo, hhi⟩
      dsimp only
      by_cases hge : l ≥ r
      . rw [if_pos hge]
        have : l = r := by omega
        subst this
        exact wpS_pure ⟨rfl, l, l, rfl, hrk, hlo, hhi⟩
      rw [if_neg hge]
      refine wpS_bind (ZDF L hB' hk (by omega) ?_)
      by_cases hl : kn f (arrOf st2) (lo + k) < kn f (arrOf st2) (lo + (l + r) / 2)
      . rw [decide_eq_true hl]
        refine wpS_pure ⟨rfl, l, (l + r) / 2, rfl, by omega, by omega, by omega, hlo, fun i z1 z2 => ?_⟩
        exact Int.lt_of_lt_of_le hl (hs' _ _ (by omega) (by omega) (by omega))
      . rw [decide_eq_false hl]
        refine wpS_pure ⟨rfl, (l + r) / 2 + 1, r, rfl, by omega, by omega, by omega, fun i z1 => ?_, hhi⟩
        have e1 := hs' (lo + i) (lo + (l + r) / 2) (by omega) (by omega) (by omega)
        omega
    . rintro c st2 ⟨rfl, l, r, rfl, hlr, hrk, hm, hlo, hhi⟩
      have : l = r := by omega
      subst this
      exact ⟨rfl, l, l, rfl, hrk, hlo, hhi⟩
    . exact ⟨rfl, 0, k, rfl, by omega, by omega, by omega, fun i hi => by omega, fun i z1 z2 => by omega⟩
    . rintro c st2 ⟨rfl, l, r, rfl, hlk, hlo, hhi⟩
      show wpS _ _ _ _ (moveDown' (lo + k) (lo + l) >>= fun _ => pure (ForInStep.yield (none, ()))) _ _
      rw [moveDown'_eq, show lo + k - (lo + l) = k - l by omega]
      have hks : lo + k < (arrOf st2).size := by rw [hB'.size]; exact hk
      refine wpS_bind (wpS_modify (wpS_pure ⟨rfl, hB'.arr (bubble_perm _ _ _), ?_, hk'.trans (kept_bubble hks (by omega)), hp'⟩))
      rw [show min (k + 1) n = k + 1 by omega]
      intro i j z1 z2 z3
      show kn f (bubble (arrOf st2) (lo + k) (k - l)) i <= kn f (bubble (arrOf st2) (lo + k) (k - l)) j
      have at' : ∀ m, lo <= m -> m < lo + k + 1 -> kn f (bubble (arrOf st2) (lo + k) (k - l)) m = if m < lo + l then kn f (arrOf st2) m else if m = lo + l then kn f (arrOf st2) (lo + k) else kn f (arrOf st2) (m - 1) := fun m m1 m2 => by
        rw [kn_bubble hks (by omega)]
        by_cases c1 : m < lo + l
        . rw [if_pos c1, if_neg (by omega), if_neg (by omega)]
        . rw [if_neg c1]
          by_cases c2 : m = lo + l
          . rw [if_pos c2, if_pos (by omega)]
          . rw [if_neg c2, if_neg (by omega), if_pos (by omega)]
      rw [at' i z1 (by omega), at' j (by omega) (by omega)]
      have lo' : ∀ m, lo <= m -> m < lo + l -> kn f (arrOf st2) m <= kn f (arrOf st2) (lo + k) := fun m m1 m2 => by
        have := hlo (m - lo) (by omega)
        rw [show lo + (m - lo) = m by omega] at this
        exact this
      have hi' : ∀ m, lo + l <= m -> m < lo + k -> kn f (arrOf st2) (lo + k) < kn f (arrOf st2) m := fun m m1 m2 => by
        have := hhi (m - lo) (by omega) (by omega)
        rw [show lo + (m - lo) = m by omega] at this
        exact this
      by_cases c1 : j < lo + l
      . rw [if_pos c1, if_pos (by omega)]
        exact hs' i j z1 z2 (by omega)
      rw [if_neg c1]
      by_cases c2 : j = lo + l
      . rw [if_pos c2]
        by_cases c3 : i < lo + l
        . rw [if_pos c3]; exact lo' i z1 c3
        . rw [if_neg c3, if_pos (by omega)]; exact Int.le_refl _
      . rw [if_neg c2]
        by_cases c3 : i < lo + l
        . rw [if_pos c3]; exact hs' i (j - 1) z1 (by omega) (by omega)
        . rw [if_neg c3]
          by_cases c4 : i = lo + l
          . rw [if_pos c4]; exact Int.le_of_lt (hi' (j - 1) (by omega) (by omega))
          . rw [if_neg c4]; exact hs' (i - 1) (j - 1) (by omega) (by omega) (by omega)
  . rintro c st' ⟨hc, hB', hs', hk', hp'⟩
    rw [show min (max (max ok 1) n) n = n by omega] at hs'
    exact ⟨hc, hB', hs', hk', hp'⟩
  . refine ⟨rfl, hB, fun i j z1 z2 z3 => ?_, .refl, rfl⟩
    by_cases h1 : ok = 0
    . rw [show i = j by omega]; exact Int.le_refl _
    . exact hs i j z1 z2 (by omega)
  . rintro c st' ⟨rfl, hB', hs', hk', hp'⟩
    exact wpS_pure (h st' hB' hs' hk' hp')
end
end L2S
namespace L2S
open PySem PyProof.Rows
def gal : Bool -> Keyed -> Array Keyed -> Nat -> Nat -> Nat -> StateT SortSt Sem (Option Nat) := sortPriv% PySem.Builtin.gallop
def past (left : Bool) (key : Keyed) (arr : Array Keyed) (base i : Nat) : StateT SortSt Sem (Option Bool) := do
  let y <- elem' arr (base + i)
  if left then lt' y key else return (<- lt' key y).map (!·)
theorem gal_eq (left : Bool) (key : Keyed) (arr : Array Keyed) (base n hint : Nat) : gal left key arr base n hint = (do
  let mut o1 := 0
  let mut o2 := 1
  let mut p1 := 0
  let mut p2 := 0
  let some b0 <- past left key arr base hint | return none
  if b0 then
    let mx := n - hint
    for _ in [0:n] do
      if o2 ≥ mx then break
      let some b <- past left key arr base (hint + o2) | return none
      if !b then break
      o1 := o2
      o2 := 2 * o2 + 1
    p1 := hint + o1 + 1
    p2 := hint + min o2 mx
  else
    let mx := hint + 1
    for _ in [0:n] do
      if o2 ≥ mx then break
      let some b <- past left key arr base (hint - o2) | return none
      if b then break
      o1 := o2
      o2 := 2 * o2 + 1
    p1 := hint + 1 - min o2 mx
    p2 := hint - o1
  for _ in [0:n] do
    if p1 ≥ p2 then break
    let m := p1 + (p2 - p1) / 2
    let some b <- past left key arr base m | return none
    if b then p1 := m + 1 else p2 := m
  return some p2) := rfl
section
variable {M : Model} {A : Around} {E : Value -> Shared -> Prop} {s : Shared}
theorem gal_ok {left : Bool} {key : Keyed} {arr : Array Keyed} {base n hint : Nat} {st : SortSt} {Q : Option Nat -> SortSt -> Prop} (g : Nat -> Bool) (hh : hint < n)
    (hp : ∀ i, i < n -> ∀ Q : Option Bool -> SortSt -> Prop, Q (some (g i)) st -> wpS M A E s (past left key arr base i) Q st) (hm : ∀ i j, i <= j -> j < n -> g j = true -> g i = true)
    (h : ∀ k, k <= n -> (∀ i, i < k -> g i = true) -> (∀ i, k <= i -> i < n -> g i = false) -> Q (some k) st) : wpS M A E s (gal left key arr base n hint) Q st := by
  have hm' : ∀ i j, i <= j -> j < n -> g i = false -> g j = false := fun i j z1 z2 z3 => by
    cases e : g j with
    | false => rfl
    | true => rw [hm i j z1 z2 e] at z3; cases z3
  have last : ∀ p1 p2 : Nat, p1 <= p2 -> p2 <= n -> (∀ i, i < p1 -> g i = true) -> (∀ i, p2 <= i -> i < n -> g i = false) ->
      wpS M A E s (forIn [0:n] ((none, p1, p2) : Option (Option Nat) × Nat × Nat) fun _ c => if c.2.1 ≥ c.2.2 then pure (ForInStep.done (none, c.2.1, c.2.2)) else do
        let r <- past left key arr base (c.2.1 + (c.2.2 - c.2.1) / 2)
        match r with
        | some b => if b = true then pure (ForInStep.yield (none, c.2.1 + (c.2.2 - c.2.1) / 2 + 1, c.2.2)) else pure (ForInStep.yield (none, c.2.1, c.2.1 + (c.2.2 - c.2.1) / 2))
        | _ => pure (ForInStep.done (some none, c.2.1, c.2.2))) (fun c st' => ∃ k, c = (none, k, k) /\ st' = st /\ k <= n /\ (∀ i, i < k -> g i = true) /\ (∀ i, k <= i -> i < n -> g i = false)) st := by
    intro p1 p2 a1 a2 a3 a4
    refine wpS_forRange (I := fun x c st' => st' = st /\ ∃ p1 p2, c = (none, p1, p2) /\ p1 <= p2 /\ p2 <= n /\ p2 - p1 <= n - x /\ (∀ i, i < p1 -> g i = true) /\ (∀ i, p2 <= i -> i < n -> g i = false)) ?_ ?_ ⟨rfl, p1, p2, rfl, a1, a2, by omega, a3, a4⟩
    . rintro x c st' _ hx ⟨rfl, p1, p2, rfl, b1, b2, b3, b4, b5⟩
      dsimp only
      by_cases hge : p1 ≥ p2
      . rw [if_pos hge]
        have : p1 = p2 := by omega
        subst this
        exact wpS_pure ⟨p1, rfl, rfl, b2, b4, b5⟩
      rw [if_neg hge]
      refine wpS_bind (hp _ (by omega) _ ?_)
      cases e : g (p1 + (p2 - p1) / 2) with
      | true => exact wpS_pure ⟨rfl, _, _, rfl, by omega, b2, by omega, fun i hi => hm i _ (by omega) (by omega) e, b5⟩
      | false => exact wpS_pure ⟨rfl, _, _, rfl, by omega, by omega, by omega, b4, fun i i1 i2 => hm' _ i i1 i2 e⟩
    . rintro c st' ⟨rfl, p1, p2, rfl, b1, b2, b3, b4, b5⟩
      have : p1 = p2 := by omega
      subst this
      exact ⟨p1, rfl, rfl, b2, b4, b5⟩
  rw [gal_eq]
  refine wpS_bind (hp hint hh _ ?_)
  cases e0 : g hint with
  | true =>
    refine wpS_bind (wpS_mono (wpS_forRange (I := fun x c st' => st' = st /\ ∃ o1 o2, c = (none, o1, o2) /\ o1 < o2 /\ x + 1 <= o2 /\ hint + o1 < n /\ g (hint + o1) = true)
      (Q := fun c st' => st' = st /\ ∃ o1 o2, c = (none, o1, o2) /\ o1 < o2 /\ hint + o1 < n /\ g (hint + o1) = true /\ (o2 ≥ n - hint ∨ (hint + o2 < n /\ g (hint + o2) = false))) ?_ ?_ ⟨rfl, 0, 1, rfl, by omega, by omega, by omega, e0⟩) ?_)
    . rintro x c st' _ hx ⟨rfl, o1, o2, rfl, b1, b2, b3, b4⟩
      dsimp only
      by_cases hge : o2 ≥ n - hint
      . rw [if_pos hge]
        exact wpS_pure ⟨rfl, o1, o2, rfl, b1, b3, b4, .inl hge⟩
      rw [if_neg hge]
      refine wpS_bind (hp _ (by omega) _ ?_)
      cases e : g (hint + o2) with
      | true => exact wpS_pure ⟨rfl, _, _, rfl, by omega, by omega, by omega, e⟩
      | false => exact wpS_pure ⟨rfl, _, _, rfl, b1, b3, b4, .inr ⟨by omega, e⟩⟩
    . rintro c st' ⟨rfl, o1, o2, rfl, b1, b2, b3, b4⟩
      exact ⟨rfl, o1, o2, rfl, b1, b3, b4, .inl (by omega)⟩
    . rintro c st' ⟨rfl, o1, o2, rfl, b1, b3, b4, b5⟩
      dsimp only
      refine wpS_bind (wpS_mono (last (hint + o1 + 1) (hint + min o2 (n - hint)) (by omega) (by omega) (fun i hi => hm i _ (by omega) b3 b4) fun i i1 i2 => ?_) ?_)
      . rcases b5 with z | ⟨z1, z2⟩
        . omega
        . exact hm' _ i (by omega) i2 z2
      . rintro c st' ⟨k, rfl, rfl, k1, k2, k3⟩
        exact wpS_pure (h k k1 k2 k3)
  | false =>
    refine wpS_bind (wpS_mono (wpS_forRange (I := fun x c st' => st' = st /\ ∃ o1 o2, c = (none, o1, o2) /\ o1 < o2 /\ x + 1 <= o2 /\ o1 <= hint /\ g (hint - o1) = false)
      (Q := fun c st' => st' = st /\ ∃ o1 o2, c = (none, o1, o2) /\ o1 < o2 /\ o1 <= hint /\ g (hint - o1) = false /\ (o2 ≥ hint + 1 ∨ (o2 < hint + 1 /\ g (hint - o2) = true))) ?_ ?_ ⟨rfl, 0, 1, rfl, by omega, by omega, by omega, e0⟩) ?_)
    . rintro x c st' _ hx ⟨rfl, o1, o2, rfl, b1, b2, b3, b4⟩
      dsimp only
      by_cases hge : o2 ≥ hint + 1
      . rw [if_pos hge]
        exact wpS_pure ⟨rfl, o1, o2, rfl, b1, b3, b4, .inl hge⟩
      rw [if_neg hge]
      refine wpS_bind (hp _ (by omega) _ ?_)
      cases e : g (hint - o2) with
      | true => exact wpS_pure ⟨rfl, _, _, rfl, b1, b3, b4, .inr ⟨by omega, e⟩⟩
      | false => exact wpS_pure ⟨rfl, _, _, rfl, by omega, by omega, by omega, e⟩
    . rintro c st' ⟨rfl, o1, o2, rfl, b1, b2, b3, b4⟩
      exact ⟨rfl, o1, o2, rfl, b1, b3, b4, .inl (by omega)⟩
    . rintro c st' ⟨rfl, o1, o2, rfl, b1, b3, b4, b5⟩
      dsimp only
      refine wpS_bind (wpS_mono (last (hint + 1 - min o2 (hint + 1)) (hint - o1) (by omega) (by omega) (fun i hi => ?_) fun i i1 i2 => hm' _ i i1 i2 b4) ?_)
      . rcases b5 with z | ⟨z1, z2⟩
        . omega
        . exact hm i _ (by omega) (by omega) z2
      . rintro c st' ⟨k, rfl, rfl, k1, k2, k3⟩
        exact wpS_pure (h k k1 k2 k3)
end
end L2S
namespace L2S
open PySem PyProof.Rows
def mLo : Array Keyed -> Array Keyed -> StateT SortSt Sem (Array Keyed) := sortPriv% PySem.Builtin.mergeLo
abbrev setG (st : SortSt) (g : Nat) : SortSt := SortSt.mk' (kindOf st) (arrOf st) (pendingOf st) g (failedOf st)
theorem mLo_eq (a b : Array Keyed) : mLo a b = (do
  rule "list.sort.merge-lo"
  let tt := a.size + b.size
  let dn (o : Array Keyed) (i j : Nat) := o ++ a.extract i a.size ++ b.extract j b.size
  let la (o : Array Keyed) (i j : Nat) := o ++ b.extract j b.size ++ a.extract i a.size
  let mut o : Array Keyed := #[<- elem' b 0]
  let mut i := 0
  let mut j := 1
  if j == b.size then return dn o i j
  if i + 1 == a.size then return la o i j
  let mut mg := gallopOf (<- get)
  for _ in [0:tt] do
    let mut ac := 0
    let mut bc := 0
    for _ in [0:tt] do
      let some w <- lt' (<- elem' b j) (<- elem' a i) | return dn o i j
      if w then
        o := o.push (<- elem' b j); j := j + 1; bc := bc + 1; ac := 0
        if j == b.size then return dn o i j
        if bc ≥ mg then break
      else
        o := o.push (<- elem' a i); i := i + 1; ac := ac + 1; bc := 0
        if i + 1 == a.size then return la o i j
        if ac ≥ mg then break
    rule "list.sort.gallop"
    mg := mg + 1
    for _ in [0:tt] do
      if mg > 1 then mg := mg - 1
      modify fun st => setG st mg
      let some k <- gal false (<- elem' b j) a i (a.size - i) 0 | return dn o i j
      ac := k
      if k > 0 then
        o := o ++ a.extract i (i + k); i := i + k
        if i + 1 == a.size then return la o i j
        if i == a.size then return dn o i j
      o := o.push (<- elem' b j); j := j + 1
      if j == b.size then return dn o i j
      let some k <- gal true (<- elem' a i) b j (b.size - j) 0 | return dn o i j
      bc := k
      if k > 0 then
        o := o ++ b.extract j (j + k); j := j + k
        if j == b.size then return dn o i j
      o := o.push (<- elem' a i); i := i + 1
      if i + 1 == a.size then return la o i j
      if ac < 7 && bc < 7 then break
    mg := mg + 1
    modify fun st => setG st mg
  unsupported "internal:list.sort.merge-bound") := rfl
def leK (f : Keyed -> Int) (x y : Keyed) : Prop := f x <= f y
structure Jm (f : Keyed -> Int) (as bs o : List Keyed) (i j : Nat) : Prop where
  perm : o.Perm (as.take i ++ bs.take j)
  sa : (o ++ as.drop i).Pairwise (leK f)
  sb : (o ++ bs.drop j).Pairwise (leK f)
def Good (f : Keyed -> Int) (as bs r : List Keyed) : Prop := r.Perm (as ++ bs) /\ r.Pairwise (leK f)
theorem take_more (as : List Keyed) (i k : Nat) : as.take (i + k) = as.take i ++ (as.drop i).take k := List.take_add
theorem drop_more (as : List Keyed) (i k : Nat) : as.drop i = (as.drop i).take k ++ as.drop (i + k) := by rw [<- List.drop_drop, yBX]
section
variable {f : Keyed -> Int} {as bs o : List Keyed} {i j : Nat}
theorem Jm.swap (h : Jm f as bs o i j) : Jm f bs as o j i := ⟨h.perm.trans yBO, h.sb, h.sa⟩
theorem Jm.chunk (h : Jm f as bs o i j) (k : Nat) (hc : ∀ x ∈ (as.drop i).take k, ∀ y ∈ bs.drop j, f x <= f y) : Jm f as bs (o ++ (as.drop i).take k) (i + k) j := by
  have sa := h.sa
  rw [drop_more as i k, <- yAI] at sa
  refine ⟨?_, sa, ?_⟩
  . rw [take_more]
    refine (List.Perm.append_right _ h.perm).trans ?_
    rw [yAI, yAI]
    exact List.Perm.append_left _ yBO
  . obtain ⟨p1, p2, p3⟩ := List.pairwise_append.mp h.sb
    obtain ⟨q1, q2, q3⟩ := List.pairwise_append.mp sa
    refine List.pairwise_append.mpr ⟨q1, p2, fun x hx y hy => ?_⟩
    rcases yAU.mp hx with z | z
    . exact p3 x z y hy
    . exact hc x z y hy
theorem Jm.dn (h : Jm f as bs o i j) (e : as.drop i = [] ∨ bs.drop j = []) : Good f as bs (o ++ as.drop i ++ bs.drop j) := by
  refine ⟨?_, ?_⟩
  . have p : (o ++ as.drop i ++ bs.drop j).Perm ((as.take i ++ bs.take j) ++ as.drop i ++ bs.drop j) := List.Perm.append_right _ (List.Perm.append_right _ h.perm)
    refine p.trans ?_
    have e1 : (as.take i ++ bs.take j ++ as.drop i ++ bs.drop j).Perm (as.take i ++ as.drop i ++ (bs.take j ++ bs.drop j)) := by
      rw [yAI, yAI, yAI]
      refine List.Perm.append_left _ ?_
      rw [<- yAI, <- yAI]
      exact List.Perm.append_right _ yBO
    rw [yBX, yBX] at e1
    exact e1
  . rcases e with e | e
    . rw [e, yBF]; exact h.sb
    . rw [e, yBF]; exact h.sa
theorem Jm.la (h : Jm f as bs o i j) (hl : ∀ x ∈ as.drop i, ∀ y ∈ bs.drop j, f y <= f x) : Good f as bs (o ++ bs.drop j ++ as.drop i) := by
  have c := h.swap.chunk (bs.length - j) (fun x hx y hy => hl y hy x (List.mem_of_mem_take hx))
  rw [yBC (by rw [yAZ]; exact yAA _)] at c
  have g := c.dn (.inl (List.drop_eq_nil_of_le (by omega)))
  rw [List.drop_eq_nil_of_le (as := bs) (i := j + (bs.length - j)) (by omega), yBF] at g
  exact ⟨g.1.trans yBO, g.2⟩
end
theorem ZC6 (a : Array Keyed) (i : Nat) : (a.extract i a.size).toList = a.toList.drop i := by
  rw [yBY, yBZ]
  exact yBC (by rw [yAZ]; simp)
theorem ZDV (a : Array Keyed) (i k : Nat) : (a.extract i (i + k)).toList = (a.toList.drop i).take k := by
  rw [yBY, yBZ, show i + k - i = k by omega]
theorem ZD4 {a : Array Keyed} {i : Nat} {x : Keyed} (h : a[i]? = some x) : (a.toList.drop i).take 1 = [x] := by
  have hi : i < a.toList.length := by
    rw [yAL]
    exact (yBM.mp h).1
  rw [List.drop_eq_getElem_cons hi]
  have : a.toList[i] = x := by
    rw [yBM] at h
    obtain ⟨_, e⟩ := h
    simpa using e
  rw [this]
  simp
structure Ev (st st' : SortSt) : Prop where
  k : kindOf st' = kindOf st
  a : arrOf st' = arrOf st
  p : pendingOf st' = pendingOf st
  f : failedOf st' = failedOf st
theorem Ev.refl {st : SortSt} : Ev st st := ⟨rfl, rfl, rfl, rfl⟩
theorem Ev.setG {st st' : SortSt} (h : Ev st st') (g : Nat) : Ev st (setG st' g) := ⟨h.k, h.a, h.p, h.f⟩
section
variable {M : Model} {A : Around} {E : Value -> Shared -> Prop} {s : Shared} {κ : SortKind} {a₀ : Array Keyed} {f : Keyed -> Int}
theorem ZAk {a : Array Keyed} {i : Nat} {x : Keyed} {st : SortSt} {Q : Keyed -> SortSt -> Prop} (h : a[i]? = some x) (q : Q x st) : wpS M A E s (elem' a i) Q st := by
  rw [elem'_eq, h]
  exact wpS_pure q
def InA (a₀ a : Array Keyed) : Prop := ∀ x ∈ a.toList, x ∈ a₀.toList
theorem InA.get {a : Array Keyed} (h : InA a₀ a) {i : Nat} {x : Keyed} (e : a[i]? = some x) : x ∈ a₀.toList := h x (by rw [yBM] at e; obtain ⟨_, rfl⟩ := e; simp)
theorem ZA5 {a : Array Keyed} {i : Nat} {x : Keyed} (e : a[i]? = some x) : kn f a i = f x := by unfold kn; rw [e]; rfl
theorem ZB2 {a : Array Keyed} {i : Nat} (h : i < a.size) : ∃ x, a[i]? = some x := ⟨_, getElem?_pos a i h⟩
theorem past_at {left : Bool} {key x : Keyed} {arr : Array Keyed} {base i : Nat} {st : SortSt} {Q : Option Bool -> SortSt -> Prop} (L : Asks M A E s κ a₀ f) (hk : kindOf st = κ) (hx : arr[base + i]? = some x) (h1 : x ∈ a₀.toList) (h2 : key ∈ a₀.toList)
    (q : Q (some (if left = true then decide (f x < f key) else !decide (f key < f x))) st) : wpS M A E s (past left key arr base i) Q st := by
  unfold past
  refine wpS_bind (ZAk hx ?_)
  cases left with
  | true => exact L.lt x key h1 h2 st _ hk q
  | false =>
    refine wpS_bind (L.lt key x h2 h1 st _ hk ?_)
    exact wpS_pure q
theorem ZD7 {key : Keyed} {arr : Array Keyed} {base n hint : Nat} {st : SortSt} {Q : Option Nat -> SortSt -> Prop} (L : Asks M A E s κ a₀ f) (hk : kindOf st = κ) (hi : InA a₀ arr) (hkey : key ∈ a₀.toList) (hh : hint < n) (hs : base + n <= arr.size) (hu : Up f arr base n)
    (h : ∀ k, k <= n -> (∀ i, i < k -> kn f arr (base + i) <= f key) -> (∀ i, k <= i -> i < n -> f key < kn f arr (base + i)) -> Q (some k) st) : wpS M A E s (gal false key arr base n hint) Q st := by
  refine gal_ok (fun i => !decide (f key < kn f arr (base + i))) hh (fun i hin Q q => ?_) (fun i j z1 z2 z3 => ?_) fun k k1 k2 k3 => h k k1 (fun i z => ?_) fun i z1 z2 => ?_
  . obtain ⟨x, hx⟩ := ZB2 (a := arr) (i := base + i) (by omega)
    refine past_at L hk hx (hi.get hx) hkey ?_
    rw [ZA5 hx] at q
    exact q
  . have := hu (base + i) (base + j) (by omega) (by omega) (by omega)
    simp at z3 ⊢
    omega
  . have := k2 i z
    simp at this
    exact this
  . have := k3 i z1 z2
    simp at this
    exact this
theorem ZDU {key : Keyed} {arr : Array Keyed} {base n hint : Nat} {st : SortSt} {Q : Option Nat -> SortSt -> Prop} (L : Asks M A E s κ a₀ f) (hk : kindOf st = κ) (hi : InA a₀ arr) (hkey : key ∈ a₀.toList) (hh : hint < n) (hs : base + n <= arr.size) (hu : Up f arr base n)
    (h : ∀ k, k <= n -> (∀ i, i < k -> kn f arr (base + i) < f key) -> (∀ i, k <= i -> i < n -> f key <= kn f arr (base + i)) -> Q (some k) st) : wpS M A E s (gal true key arr base n hint) Q st := by
  refine gal_ok (fun i => decide (kn f arr (base + i) < f key)) hh (fun i hin Q q => ?_) (fun i j z1 z2 z3 => ?_) fun k k1 k2 k3 => h k k1 (fun i z => ?_) fun i z1 z2 => ?_
  . obtain ⟨x, hx⟩ := ZB2 (a := arr) (i := base + i) (by omega)
    refine past_at L hk hx (hi.get hx) hkey ?_
    rw [ZA5 hx] at q
    exact q
  . have := hu (base + i) (base + j) (by omega) (by omega) (by omega)
    simp at z3 ⊢
    omega
  . have := k2 i z
    simp at this
    exact this
  . have := k3 i z1 z2
    simp at this
    exact this
theorem ZCO {a : Array Keyed} {i : Nat} {x : Keyed} (h : x ∈ a.toList.drop i) : ∃ k, i <= k /\ k < a.size /\ kn f a k = f x /\ a[k]? = some x := by
  obtain ⟨n, hn⟩ := yBV h
  rw [List.getElem?_drop] at hn
  rw [yBD] at hn
  exact ⟨i + n, by omega, (yBM.mp hn).1, ZA5 hn, hn⟩
theorem mem_take {a : Array Keyed} {i k : Nat} {x : Keyed} (h : x ∈ (a.toList.drop i).take k) : ∃ n, i <= n /\ n < i + k /\ n < a.size /\ kn f a n = f x := by
  obtain ⟨n, hn⟩ := yBV h
  have hl := (yAG.mp hn).1
  rw [yAP] at hl
  rw [List.getElem?_take_of_lt (by omega), List.getElem?_drop, yBD] at hn
  exact ⟨i + n, by omega, by omega, (yBM.mp hn).1, ZA5 hn⟩
structure Two (a₀ : Array Keyed) (f : Keyed -> Int) (a b : Array Keyed) : Prop where
  ia : InA a₀ a
  ib : InA a₀ b
  ua : Up f a 0 a.size
  ub : Up f b 0 b.size
  na : 1 <= a.size
  nb : 1 <= b.size
  lo : ∀ i, i < a.size -> kn f b 0 <= kn f a i
  hi : ∀ j, j < b.size -> kn f b j <= kn f a (a.size - 1)
end
end L2S
namespace L2S
open PySem PyProof.Rows
abbrev C5 := Option (Array Keyed) × Array Keyed × Nat × Nat × Nat
abbrev C6 := Option (Array Keyed) × Array Keyed × Nat × Nat × Nat × Nat
abbrev C7 := Option (Array Keyed) × Array Keyed × Nat × Nat × Nat × Nat × Nat
abbrev SM (α : Type) := StateT SortSt Sem α
abbrev dnA (a b o : Array Keyed) (i j : Nat) : Array Keyed := o ++ a.extract i a.size ++ b.extract j b.size
abbrev laA (a b o : Array Keyed) (i j : Nat) : Array Keyed := o ++ b.extract j b.size ++ a.extract i a.size
def lo1 (a b : Array Keyed) (mg : Nat) (c : C6) : SM (ForInStep C6) := do
  let y <- elem' b c.2.2.2.1
  let x <- elem' a c.2.2.1
  let r <- lt' y x
  match r with
  | some w =>
    if w = true then do
      let y <- elem' b c.2.2.2.1
      if (c.2.2.2.1 + 1 == b.size) = true then pure (.done (some (dnA a b (c.2.1.push y) c.2.2.1 (c.2.2.2.1 + 1)), c.2.1.push y, c.2.2.1, c.2.2.2.1 + 1, 0, c.2.2.2.2.2 + 1))
      else if c.2.2.2.2.2 + 1 ≥ mg then pure (.done (none, c.2.1.push y, c.2.2.1, c.2.2.2.1 + 1, 0, c.2.2.2.2.2 + 1))
      else pure (.yield (none, c.2.1.push y, c.2.2.1, c.2.2.2.1 + 1, 0, c.2.2.2.2.2 + 1))
    else do
      let x <- elem' a c.2.2.1
      if (c.2.2.1 + 1 + 1 == a.size) = true then pure (.done (some (laA a b (c.2.1.push x) (c.2.2.1 + 1) c.2.2.2.1), c.2.1.push x, c.2.2.1 + 1, c.2.2.2.1, c.2.2.2.2.1 + 1, 0))
      else if c.2.2.2.2.1 + 1 ≥ mg then pure (.done (none, c.2.1.push x, c.2.2.1 + 1, c.2.2.2.1, c.2.2.2.2.1 + 1, 0))
      else pure (.yield (none, c.2.1.push x, c.2.2.1 + 1, c.2.2.2.1, c.2.2.2.2.1 + 1, 0))
  | _ => pure (.done (some (dnA a b c.2.1 c.2.2.1 c.2.2.2.1), c.2.1, c.2.2.1, c.2.2.2.1, c.2.2.2.2.1, c.2.2.2.2.2))
def lo4 (a b : Array Keyed) (g ac bc : Nat) (o : Array Keyed) (i j : Nat) : SM (ForInStep C7) := do
  let x <- elem' a i
  if (i + 1 + 1 == a.size) = true then pure (.done (some (laA a b (o.push x) (i + 1) j), o.push x, i + 1, j, g, ac, bc))
  else if (decide (ac < 7) && decide (bc < 7)) = true then pure (.done (none, o.push x, i + 1, j, g, ac, bc))
  else pure (.yield (none, o.push x, i + 1, j, g, ac, bc))
def lo3 (a b : Array Keyed) (g ac bc : Nat) (o : Array Keyed) (i j : Nat) : SM (ForInStep C7) := do
  let y <- elem' b j
  if (j + 1 == b.size) = true then pure (.done (some (dnA a b (o.push y) i (j + 1)), o.push y, i, j + 1, g, ac, bc))
  else do
    let x <- elem' a i
    let r <- gal true x b (j + 1) (b.size - (j + 1)) 0
    match r with
    | some k =>
      if k > 0 then
        if (j + 1 + k == b.size) = true then pure (.done (some (dnA a b (o.push y ++ b.extract (j + 1) (j + 1 + k)) i (j + 1 + k)), o.push y ++ b.extract (j + 1) (j + 1 + k), i, j + 1 + k, g, ac, k))
        else lo4 a b g ac k (o.push y ++ b.extract (j + 1) (j + 1 + k)) i (j + 1 + k)
      else lo4 a b g ac k (o.push y) i (j + 1)
    | _ => pure (.done (some (dnA a b (o.push y) i (j + 1)), o.push y, i, j + 1, g, ac, bc))
def lo2 (a b : Array Keyed) (g ac bc : Nat) (o : Array Keyed) (i j : Nat) : SM (ForInStep C7) := do
  modify fun st => setG st g
  let y <- elem' b j
  let r <- gal false y a i (a.size - i) 0
  match r with
  | some k =>
    if k > 0 then
      if (i + k + 1 == a.size) = true then pure (.done (some (laA a b (o ++ a.extract i (i + k)) (i + k) j), o ++ a.extract i (i + k), i + k, j, g, k, bc))
      else if (i + k == a.size) = true then pure (.done (some (dnA a b (o ++ a.extract i (i + k)) (i + k) j), o ++ a.extract i (i + k), i + k, j, g, k, bc))
      else lo3 a b g k bc (o ++ a.extract i (i + k)) (i + k) j
    else lo3 a b g k bc o i j
  | _ => pure (.done (some (dnA a b o i j), o, i, j, g, ac, bc))
def loB (a b : Array Keyed) (c : C7) : SM (ForInStep C7) :=
  if c.2.2.2.2.1 > 1 then lo2 a b (c.2.2.2.2.1 - 1) c.2.2.2.2.2.1 c.2.2.2.2.2.2 c.2.1 c.2.2.1 c.2.2.2.1
  else lo2 a b c.2.2.2.2.1 c.2.2.2.2.2.1 c.2.2.2.2.2.2 c.2.1 c.2.2.1 c.2.2.2.1
def loO (a b : Array Keyed) (c : C5) : SM (ForInStep C5) := do
  let c1 <- forIn [0:a.size + b.size] ((none, c.2.1, c.2.2.1, c.2.2.2.1, 0, 0) : C6) fun _ d => lo1 a b c.2.2.2.2 d
  match c1.1 with
  | some r => pure (.done (some r, c1.2.1, c1.2.2.1, c1.2.2.2.1, c.2.2.2.2))
  | none => do
    liftM (rule "list.sort.gallop")
    let c2 <- forIn [0:a.size + b.size] ((none, c1.2.1, c1.2.2.1, c1.2.2.2.1, c.2.2.2.2 + 1, c1.2.2.2.2.1, c1.2.2.2.2.2) : C7) fun _ d => loB a b d
    match c2.1 with
    | some r => pure (.done (some r, c2.2.1, c2.2.2.1, c2.2.2.2.1, c2.2.2.2.2.1))
    | none => do
      modify fun st => setG st (c2.2.2.2.2.1 + 1)
      pure (.yield (none, c2.2.1, c2.2.2.1, c2.2.2.2.1, c2.2.2.2.2.1 + 1))
theorem bnd2 {α β : Type} {m m' : StateT SortSt Sem α} {g h : α -> StateT SortSt Sem β} (e0 : m = m') (e : ∀ a, g a = h a) : (m >>= g) = (m' >>= h) := by rw [e0, show g = h from funext e]
theorem for2 {β : Type} {r : Std.Legacy.Range} {c : β} {g h : Nat -> β -> StateT SortSt Sem (ForInStep β)} (e : ∀ x c, g x c = h x c) : forIn r c g = forIn r c h := by rw [show g = h from funext fun x => funext (e x)]
theorem if2 {α : Type} {c : Prop} [Decidable c] {x y x' y' : α} (e1 : x = x') (e2 : y = y') : (if c then x else y) = (if c then x' else y') := by rw [e1, e2]
theorem mLo_low (a b : Array Keyed) : mLo a b = (do
  liftM (rule "list.sort.merge-lo")
  let y <- elem' b 0
  if (1 == b.size) = true then pure (dnA a b #[y] 0 1)
  else if (0 + 1 == a.size) = true then pure (laA a b #[y] 0 1)
  else do
    let st <- get
    let c <- forIn [0:a.size + b.size] ((none, #[y], 0, 1, gallopOf st) : C5) fun _ d => loO a b d
    match c.1 with
    | some r => pure r
    | none => liftM (unsupported "internal:list.sort.merge-bound" : Sem (Array Keyed))) := by
  rw [mLo_eq]
  refine bnd _ fun _ => bnd _ fun y => ?_
  refine if2 rfl (if2 rfl ?_)
  refine bnd _ fun st => bnd2 (for2 fun _ c => ?_) fun c => ?_
  . unfold loO
    refine bnd2 (for2 fun _ d => ?_) fun c1 => ?_
    . rfl
    . obtain ⟨r, o, i, j, ac, bc⟩ := c1
      cases r with
      | some r => rfl
      | none =>
        refine bnd2 rfl fun _ => bnd2 (for2 fun _ d => ?_) fun c2 => ?_
        . unfold loB
          refine if2 ?_ ?_
          all_goals
            unfold lo2
            refine bnd2 rfl fun _ => bnd2 rfl fun y => bnd2 rfl fun r => ?_
            cases r with
            | none => rfl
            | some k =>
              refine if2 (if2 rfl (if2 rfl ?_)) ?_
              all_goals
                unfold lo3
                refine bnd2 rfl fun y2 => if2 rfl (bnd2 rfl fun x2 => bnd2 rfl fun r2 => ?_)
                cases r2 with
                | none => rfl
                | some k2 =>
                  refine if2 (if2 rfl ?_) ?_
                  all_goals
                    unfold lo4
                    refine bnd2 rfl fun x3 => if2 rfl (if2 rfl rfl)
        . obtain ⟨r, o, i, j, g, ac, bc⟩ := c2
          cases r with
          | some r => rfl
          | none => rfl
  . obtain ⟨r, o, i, j, g⟩ := c
    cases r with
    | some r => rfl
    | none => rfl
end L2S
namespace L2S
open PySem PyProof.Rows
section
variable {M : Model} {A : Around} {E : Value -> Shared -> Prop} {s : Shared} {κ : SortKind} {a₀ : Array Keyed} {f : Keyed -> Int} {a b o : Array Keyed} {i j : Nat}
theorem ZEC {a : Array Keyed} (h : Up f a 0 a.size) : a.toList.Pairwise (leK f) := by
  rw [List.pairwise_iff_getElem]
  intro i j hi hj hij
  rw [yAL] at hi hj
  have := h i j (yAH _) (yBI hij) (by omega)
  rw [ZA5 (getElem?_pos a i hi), ZA5 (getElem?_pos a j hj)] at this
  simpa [leK] using this
abbrev JA (f : Keyed -> Int) (a b o : Array Keyed) (i j : Nat) : Prop := Jm f a.toList b.toList o.toList i j
abbrev Fin (f : Keyed -> Int) (a b r : Array Keyed) : Prop := Good f a.toList b.toList r.toList
theorem JA.dn (h : JA f a b o i j) (e : a.size <= i ∨ b.size <= j) : Fin f a b (dnA a b o i j) := by
  have g := Jm.dn h (e.imp (fun z => List.drop_eq_nil_of_le (by rw [yAL]; exact z)) (fun z => List.drop_eq_nil_of_le (by rw [yAL]; exact z)))
  unfold Fin dnA
  rw [yBK, yBK, ZC6, ZC6]
  exact g
theorem JA.la (h : JA f a b o i j) (T : Two a₀ f a b) (e : i + 1 = a.size) : Fin f a b (laA a b o i j) := by
  have g := Jm.la h fun x hx y hy => by
    obtain ⟨k, k1, k2, k3, _⟩ := ZCO (f := f) hx
    obtain ⟨n, n1, n2, n3, _⟩ := ZCO (f := f) hy
    have := T.hi n n2
    rw [show a.size - 1 = k by omega, k3, n3] at this
    exact this
  unfold Fin laA
  rw [yBK, yBK, ZC6, ZC6]
  exact g
theorem JA.pushA {x : Keyed} (h : JA f a b o i j) (hx : a[i]? = some x) (hc : ∀ n, j <= n -> n < b.size -> f x <= kn f b n) : JA f a b (o.push x) (i + 1) j := by
  have g := Jm.chunk h 1 fun u hu y hy => by
    rw [ZD4 hx, yBA] at hu
    obtain ⟨n, n1, n2, n3, _⟩ := ZCO (f := f) hy
    rw [hu, <- n3]
    exact hc n n1 n2
  rw [ZD4 hx] at g
  unfold JA
  rw [Array.toList_push]
  exact g
theorem JA.pushB {x : Keyed} (h : JA f a b o i j) (hx : b[j]? = some x) (hc : ∀ n, i <= n -> n < a.size -> f x <= kn f a n) : JA f a b (o.push x) i (j + 1) :=
  (JA.pushA (Jm.swap h) hx hc).swap
theorem JA.chunkA (h : JA f a b o i j) (k : Nat) (hc : ∀ n m, i <= n -> n < i + k -> n < a.size -> j <= m -> m < b.size -> kn f a n <= kn f b m) : JA f a b (o ++ a.extract i (i + k)) (i + k) j := by
  have g := Jm.chunk h k fun u hu y hy => by
    obtain ⟨n, n1, n2, n3, n4⟩ := mem_take (f := f) hu
    obtain ⟨m, m1, m2, m3, _⟩ := ZCO (f := f) hy
    rw [<- n4, <- m3]
    exact hc n m n1 n2 n3 m1 m2
  unfold JA
  rw [yBK, ZDV]
  exact g
theorem JA.chunkB (h : JA f a b o i j) (k : Nat) (hc : ∀ n m, j <= n -> n < j + k -> n < b.size -> i <= m -> m < a.size -> kn f b n <= kn f a m) : JA f a b (o ++ b.extract j (j + k)) i (j + k) :=
  (JA.chunkA (Jm.swap h) k hc).swap
theorem Up.sub {xs : Array Keyed} {n : Nat} (h : Up f xs 0 n) {lo m : Nat} (e : lo + m <= n) : Up f xs lo m := fun i j z1 z2 z3 => h i j (yAH _) z2 (by omega)
def R7 (f : Keyed -> Int) (a b : Array Keyed) (st : SortSt) (x : Nat) : ForInStep C7 -> SortSt -> Prop
  | .done c, st' => Ev st st' /\ ((∃ r z, c = (some r, z) /\ Fin f a b r) ∨ ∃ o i j g ac bc, c = (none, o, i, j, g, ac, bc) /\ JA f a b o i j /\ i + 1 < a.size /\ j < b.size /\ x + 2 <= i + j)
  | .yield c, st' => Ev st st' /\ ∃ o i j g ac bc, c = (none, o, i, j, g, ac, bc) /\ JA f a b o i j /\ i + 1 < a.size /\ j < b.size /\ x + 2 <= i + j
theorem mLo_ok {st : SortSt} {Q : Array Keyed -> SortSt -> Prop} (L : Asks M A E s κ a₀ f) (hk : kindOf st = κ) (T : Two a₀ f a b) (h : ∀ r st', Ev st st' -> Fin f a b r -> Q r st') : wpS M A E s (mLo a b) Q st := by
  have ta := T.na
  have tb := T.nb
  have ua : ∀ n m, n <= m -> m < a.size -> kn f a n <= kn f a m := fun n m z1 z2 => T.ua n m (yAH _) z1 (by omega)
  have ub : ∀ n m, n <= m -> m < b.size -> kn f b n <= kn f b m := fun n m z1 z2 => T.ub n m (yAH _) z1 (by omega)
  rw [mLo_low]
  refine wpS_bind (wpS_lift (wpAny_rule ⟨rfl, ?_⟩))
  obtain ⟨y0, hy0⟩ := ZB2 (a := b) (i := 0) (by omega)
  refine wpS_bind (ZAk hy0 ?_)
  have J0 : JA f a b #[y0] 0 1 := by
    have e : JA f a b #[] 0 0 := ⟨by simp, by simpa using ZEC T.ua, by simpa using ZEC T.ub⟩
    have := JA.pushB e hy0 fun n _ n2 => by rw [<- ZA5 (f := f) hy0]; exact T.lo n n2
    exact this
  by_cases c1 : 1 = b.size
  . rw [if_pos (by simpa using c1)]
    exact wpS_pure (h _ st .refl (J0.dn (.inr (by omega))))
  rw [if_neg (by simpa using c1)]
  by_cases c2 : 0 + 1 = a.size
  . rw [if_pos (by simpa using c2)]
    exact wpS_pure (h _ st .refl (J0.la T c2))
  rw [if_neg (by simpa using c2)]
  refine wpS_bind (wpS_get ?_)
  refine wpS_bind (wpS_mono (wpS_forRange (I := fun x c st' => Ev st st' /\ ∃ o i j g, c = (none, o, i, j, g) /\ JA f a b o i j /\ i + 1 < a.size /\ j < b.size /\ x + 1 <= i + j) (Q := fun c st' => Ev st st' /\ ∃ r z, c = (some r, z) /\ Fin f a b r) ?_ ?_ ⟨.refl, _, 0, 1, _, rfl, J0, by omega, by omega, by omega⟩) ?_)
  . rintro x c st1 _ hx ⟨e1, o, i, j, g, rfl, J, hi, hj, hp⟩
    unfold loO
    dsimp only
    refine wpS_bind (wpS_mono (wpS_forRange (I := fun y c st' => Ev st st' /\ ∃ o i j ac bc, c = (none, o, i, j, ac, bc) /\ JA f a b o i j /\ i + 1 < a.size /\ j < b.size /\ x + 1 + y <= i + j)
      (Q := fun c st' => Ev st st' /\ ((∃ r z, c = (some r, z) /\ Fin f a b r) ∨ ∃ o i j ac bc, c = (none, o, i, j, ac, bc) /\ JA f a b o i j /\ i + 1 < a.size /\ j < b.size /\ x + 2 <= i + j)) ?_ ?_ ⟨e1, o, i, j, 0, 0, rfl, J, hi, hj, by omega⟩) ?_)
    . rintro y c st2 _ hy ⟨e2, o, i, j, ac, bc, rfl, J, hi, hj, hp⟩
      unfold lo1
      dsimp only
      obtain ⟨yb, hyb⟩ := ZB2 (a := b) hj
      obtain ⟨xa, hxa⟩ := ZB2 (a := a) (i := i) (by omega)
      refine wpS_bind (ZAk hyb ?_)
      refine wpS_bind (ZAk hxa ?_)
      refine wpS_bind (L.lt yb xa (T.ib.get hyb) (T.ia.get hxa) st2 _ (e2.k.trans hk) ?_)
      by_cases hw : f yb < f xa
      . rw [decide_eq_true hw]
        dsimp only
        rw [if_pos rfl]
        refine wpS_bind (ZAk hyb ?_)
        have J2 := J.pushB hyb fun n n1 n2 => by
          have := ua i n n1 n2
          rw [ZA5 hxa] at this
          omega
        by_cases c3 : j + 1 = b.size
        . rw [if_pos (by simpa using c3)]
          exact wpS_pure ⟨e2, .inl ⟨_, _, rfl, J2.dn (.inr (by omega))⟩⟩
        rw [if_neg (by simpa using c3)]
        split
        . exact wpS_pure ⟨e2, .inr ⟨_, _, _, _, _, rfl, J2, hi, by omega, by omega⟩⟩
        . exact wpS_pure ⟨e2, _, _, _, _, _, rfl, J2, hi, by omega, by omega⟩
      . rw [decide_eq_false hw]
        dsimp only
        rw [if_neg (by decide)]
        refine wpS_bind (ZAk hxa ?_)
        have J2 := J.pushA hxa fun n n1 n2 => by
          have := ub j n n1 n2
          rw [ZA5 hyb] at this
          omega
        by_cases c3 : i + 1 + 1 = a.size
        . rw [if_pos (by simpa using c3)]
          exact wpS_pure ⟨e2, .inl ⟨_, _, rfl, J2.la T c3⟩⟩
        rw [if_neg (by simpa using c3)]
        split
        . exact wpS_pure ⟨e2, .inr ⟨_, _, _, _, _, rfl, J2, by omega, hj, by omega⟩⟩
        . exact wpS_pure ⟨e2, _, _, _, _, _, rfl, J2, by omega, hj, by omega⟩
    . rintro c st2 ⟨e2, o, i, j, ac, bc, rfl, J, hi, hj, hp⟩
      exact ⟨e2, .inr ⟨_, _, _, _, _, rfl, J, hi, hj, by omega⟩⟩
    . rintro c st2 ⟨e2, ⟨r, z, rfl, hr⟩ | ⟨o, i, j, ac, bc, rfl, J, hi, hj, hp⟩⟩
      . exact wpS_pure ⟨e2, r, _, rfl, hr⟩
      dsimp only
      refine wpS_bind (wpS_lift (wpAny_rule ⟨rfl, ?_⟩))
      refine wpS_bind (wpS_mono (wpS_forRange (I := fun y c st' => Ev st st' /\ ∃ o i j g ac bc, c = (none, o, i, j, g, ac, bc) /\ JA f a b o i j /\ i + 1 < a.size /\ j < b.size /\ x + 2 <= i + j)
        (Q := fun c st' => Ev st st' /\ ((∃ r z, c = (some r, z) /\ Fin f a b r) ∨ ∃ o i j g ac bc, c = (none, o, i, j, g, ac, bc) /\ JA f a b o i j /\ i + 1 < a.size /\ j < b.size /\ x + 2 <= i + j)) ?_ ?_ ⟨e2, o, i, j, _, ac, bc, rfl, J, hi, hj, hp⟩) ?_)
      . rintro y c st3 _ hy ⟨e3, o, i, j, g, ac, bc, rfl, J, hi, hj, hp⟩
        have four : ∀ (g ac bc : Nat) (o : Array Keyed) (i j : Nat) (st4 : SortSt) (xa : Keyed), Ev st st4 -> JA f a b o i j -> i + 1 < a.size -> j < b.size -> x + 2 <= i + j -> a[i]? = some xa -> (∀ n, j <= n -> n < b.size -> f xa <= kn f b n) ->
            wpS M A E s (lo4 a b g ac bc o i j) (R7 f a b st x) st4 := by
          intro g ac bc o i j st4 xa e4 J hi hj hp hxa hle
          unfold lo4
          refine wpS_bind (ZAk hxa ?_)
          have J2 := J.pushA hxa hle
          by_cases c3 : i + 1 + 1 = a.size
          . rw [if_pos (by simpa using c3)]
            exact wpS_pure ⟨e4, .inl ⟨_, _, rfl, J2.la T c3⟩⟩
          rw [if_neg (by simpa using c3)]
          split
          . exact wpS_pure ⟨e4, .inr ⟨_, _, _, _, _, _, rfl, J2, by omega, hj, by omega⟩⟩
          . exact wpS_pure ⟨e4, _, _, _, _, _, _, rfl, J2, by omega, hj, by omega⟩
        have three : ∀ (g ac bc : Nat) (o : Array Keyed) (i j : Nat) (st4 : SortSt) (yb : Keyed), Ev st st4 -> JA f a b o i j -> i + 1 < a.size -> j < b.size -> x + 2 <= i + j -> b[j]? = some yb -> (∀ n, i <= n -> n < a.size -> f yb <= kn f a n) ->
            wpS M A E s (lo3 a b g ac bc o i j) (R7 f a b st x) st4 := by
          intro g ac bc o i j st4 yb e4 J hi hj hp hyb hle
          unfold lo3
          refine wpS_bind (ZAk hyb ?_)
          have J2 := J.pushB hyb hle
          by_cases c3 : j + 1 = b.size
          . rw [if_pos (by simpa using c3)]
            exact wpS_pure ⟨e4, .inl ⟨_, _, rfl, J2.dn (.inr (by omega))⟩⟩
          rw [if_neg (by simpa using c3)]
          obtain ⟨xa, hxa⟩ := ZB2 (a := a) (i := i) (by omega)
          refine wpS_bind (ZAk hxa ?_)
          refine wpS_bind (ZDU L (e4.k.trans hk) T.ib (T.ia.get hxa) (by omega) (by omega) (T.ub.sub (by omega)) fun k k1 k2 k3 => ?_)
          dsimp only
          have rest : ∀ n, j + 1 + k <= n -> n < b.size -> f xa <= kn f b n := fun n n1 n2 => by
            have := k3 (n - (j + 1)) (by omega) (by omega)
            rw [show j + 1 + (n - (j + 1)) = n by omega] at this
            exact this
          by_cases hk0 : k > 0
          . rw [if_pos hk0]
            have J3 := J2.chunkB k fun n m n1 n2 n3 m1 m2 => by
              have z := k2 (n - (j + 1)) (by omega)
              rw [show j + 1 + (n - (j + 1)) = n by omega] at z
              have z2 := ua i m m1 m2
              rw [ZA5 hxa] at z2
              omega
            by_cases c4 : j + 1 + k = b.size
            . rw [if_pos (by simpa using c4)]
              exact wpS_pure ⟨e4, .inl ⟨_, _, rfl, J3.dn (.inr (by omega))⟩⟩
            rw [if_neg (by simpa using c4)]
            exact four _ _ _ _ _ _ _ xa e4 J3 hi (by omega) (by omega) hxa rest
          . rw [if_neg hk0]
            have : k = 0 := by omega
            subst this
            exact four _ _ _ _ _ _ _ xa e4 J2 hi (by omega) (by omega) hxa rest
        have two : ∀ (g ac bc : Nat), wpS M A E s (lo2 a b g ac bc o i j) (R7 f a b st x) st3 := by
          intro g ac bc
          unfold lo2
          obtain ⟨yb, hyb⟩ := ZB2 (a := b) hj
          refine wpS_bind (wpS_modify ?_)
          have e4 := e3.setG g
          refine wpS_bind (ZAk hyb ?_)
          refine wpS_bind (ZD7 L (e4.k.trans hk) T.ia (T.ib.get hyb) (by omega) (by omega) (T.ua.sub (by omega)) fun k k1 k2 k3 => ?_)
          dsimp only
          have rest : ∀ n, i + k <= n -> n < a.size -> f yb <= kn f a n := fun n n1 n2 => by
            have := k3 (n - i) (by omega) (by omega)
            rw [show i + (n - i) = n by omega] at this
            omega
          by_cases hk0 : k > 0
          . rw [if_pos hk0]
            have J3 := J.chunkA k fun n m n1 n2 n3 m1 m2 => by
              have z := k2 (n - i) (by omega)
              rw [show i + (n - i) = n by omega] at z
              have z2 := ub j m m1 m2
              rw [ZA5 hyb] at z2
              omega
            by_cases c4 : i + k + 1 = a.size
            . rw [if_pos (by simpa using c4)]
              exact wpS_pure ⟨e4, .inl ⟨_, _, rfl, J3.la T c4⟩⟩
            rw [if_neg (by simpa using c4)]
            by_cases c5 : i + k = a.size
            . rw [if_pos (by simpa using c5)]
              exact wpS_pure ⟨e4, .inl ⟨_, _, rfl, J3.dn (.inl (by omega))⟩⟩
            rw [if_neg (by simpa using c5)]
            exact three _ _ _ _ _ _ _ yb e4 J3 (by omega) hj (by omega) hyb rest
          . rw [if_neg hk0]
            have : k = 0 := by omega
            subst this
            exact three _ _ _ _ _ _ _ yb e4 J hi hj hp hyb rest
        unfold loB
        dsimp only
        split
        . exact wpS_mono (two _ _ _) fun r st' z => by cases r <;> exact z
        . exact wpS_mono (two _ _ _) fun r st' z => by cases r <;> exact z
      . rintro c st3 ⟨e3, o, i, j, g, ac, bc, rfl, J, hi, hj, hp⟩
        exact ⟨e3, .inr ⟨_, _, _, _, _, _, rfl, J, hi, hj, hp⟩⟩
      . rintro c st3 ⟨e3, ⟨r, z, rfl, hr⟩ | ⟨o, i, j, g, ac, bc, rfl, J, hi, hj, hp⟩⟩
        . exact wpS_pure ⟨e3, r, _, rfl, hr⟩
        . dsimp only
          exact wpS_bind (wpS_modify (wpS_pure ⟨e3.setG _, _, _, _, _, rfl, J, hi, hj, by omega⟩))
  . rintro c st1 ⟨e1, o, i, j, g, rfl, J, hi, hj, hp⟩
    omega
  . rintro c st1 ⟨e1, r, z, rfl, hr⟩
    exact wpS_pure (h r st1 e1 hr)
end
end L2S
namespace L2S
open PySem PyProof.Rows
def mHi : Array Keyed -> Array Keyed -> StateT SortSt Sem (Array Keyed) := sortPriv% PySem.Builtin.mergeHi
theorem mHi_eq (a b : Array Keyed) : mHi a b = (do
  rule "list.sort.merge-hi"
  let tt := a.size + b.size
  let dn (o : Array Keyed) (i j : Nat) := a.extract 0 i ++ b.extract 0 j ++ o.reverse
  let fb (o : Array Keyed) (i j : Nat) := b.extract 0 j ++ a.extract 0 i ++ o.reverse
  let mut i := a.size - 1
  let mut j := b.size
  let mut o : Array Keyed := #[<- elem' a i]
  if i == 0 then return dn o i j
  if j == 1 then return fb o i j
  let mut mg := gallopOf (<- get)
  for _ in [0:tt] do
    let mut ac := 0
    let mut bc := 0
    for _ in [0:tt] do
      let some w <- lt' (<- elem' b (j - 1)) (<- elem' a (i - 1)) | return dn o i j
      if w then
        i := i - 1; o := o.push (<- elem' a i); ac := ac + 1; bc := 0
        if i == 0 then return dn o i j
        if ac ≥ mg then break
      else
        j := j - 1; o := o.push (<- elem' b j); bc := bc + 1; ac := 0
        if j == 1 then return fb o i j
        if bc ≥ mg then break
    rule "list.sort.gallop"
    mg := mg + 1
    for _ in [0:tt] do
      if mg > 1 then mg := mg - 1
      modify fun st => setG st mg
      let some t <- gal false (<- elem' b (j - 1)) a 0 i (i - 1) | return dn o i j
      let k := i - t
      ac := k
      if k > 0 then
        o := o ++ (a.extract t i).reverse; i := t
        if i == 0 then return dn o i j
      j := j - 1; o := o.push (<- elem' b j)
      if j == 1 then return fb o i j
      let some t <- gal true (<- elem' a (i - 1)) b 0 j (j - 1) | return dn o i j
      let k := j - t
      bc := k
      if k > 0 then
        o := o ++ (b.extract t j).reverse; j := t
        if j == 1 then return fb o i j
        if j == 0 then return dn o i j
      i := i - 1; o := o.push (<- elem' a i)
      if i == 0 then return dn o i j
      if ac < 7 && bc < 7 then break
    mg := mg + 1
    modify fun st => setG st mg
  unsupported "internal:list.sort.merge-bound") := rfl
abbrev D5 := Option (Array Keyed) × Nat × Nat × Array Keyed × Nat
abbrev D6 := Option (Array Keyed) × Nat × Nat × Array Keyed × Nat × Nat
abbrev D7 := Option (Array Keyed) × Nat × Nat × Array Keyed × Nat × Nat × Nat
abbrev dnH (a b o : Array Keyed) (i j : Nat) : Array Keyed := a.extract 0 i ++ b.extract 0 j ++ o.reverse
abbrev fbH (a b o : Array Keyed) (i j : Nat) : Array Keyed := b.extract 0 j ++ a.extract 0 i ++ o.reverse
def hi1 (a b : Array Keyed) (mg : Nat) (c : D6) : SM (ForInStep D6) := do
  let y <- elem' b (c.2.2.1 - 1)
  let x <- elem' a (c.2.1 - 1)
  let r <- lt' y x
  match r with
  | some w =>
    if w = true then do
      let x <- elem' a (c.2.1 - 1)
      if (c.2.1 - 1 == 0) = true then pure (.done (some (dnH a b (c.2.2.2.1.push x) (c.2.1 - 1) c.2.2.1), c.2.1 - 1, c.2.2.1, c.2.2.2.1.push x, c.2.2.2.2.1 + 1, 0))
      else if c.2.2.2.2.1 + 1 ≥ mg then pure (.done (none, c.2.1 - 1, c.2.2.1, c.2.2.2.1.push x, c.2.2.2.2.1 + 1, 0))
      else pure (.yield (none, c.2.1 - 1, c.2.2.1, c.2.2.2.1.push x, c.2.2.2.2.1 + 1, 0))
    else do
      let y <- elem' b (c.2.2.1 - 1)
      if (c.2.2.1 - 1 == 1) = true then pure (.done (some (fbH a b (c.2.2.2.1.push y) c.2.1 (c.2.2.1 - 1)), c.2.1, c.2.2.1 - 1, c.2.2.2.1.push y, 0, c.2.2.2.2.2 + 1))
      else if c.2.2.2.2.2 + 1 ≥ mg then pure (.done (none, c.2.1, c.2.2.1 - 1, c.2.2.2.1.push y, 0, c.2.2.2.2.2 + 1))
      else pure (.yield (none, c.2.1, c.2.2.1 - 1, c.2.2.2.1.push y, 0, c.2.2.2.2.2 + 1))
  | _ => pure (.done (some (dnH a b c.2.2.2.1 c.2.1 c.2.2.1), c.2.1, c.2.2.1, c.2.2.2.1, c.2.2.2.2.1, c.2.2.2.2.2))
def hi4 (a b : Array Keyed) (g ac bc : Nat) (o : Array Keyed) (i j : Nat) : SM (ForInStep D7) := do
  let x <- elem' a (i - 1)
  if (i - 1 == 0) = true then pure (.done (some (dnH a b (o.push x) (i - 1) j), i - 1, j, o.push x, g, ac, bc))
  else if (decide (ac < 7) && decide (bc < 7)) = true then pure (.done (none, i - 1, j, o.push x, g, ac, bc))
  else pure (.yield (none, i - 1, j, o.push x, g, ac, bc))
def hi3 (a b : Array Keyed) (g ac bc : Nat) (o : Array Keyed) (i j : Nat) : SM (ForInStep D7) := do
  let y <- elem' b (j - 1)
  if (j - 1 == 1) = true then pure (.done (some (fbH a b (o.push y) i (j - 1)), i, j - 1, o.push y, g, ac, bc))
  else do
    let x <- elem' a (i - 1)
    let r <- gal true x b 0 (j - 1) (j - 1 - 1)
    match r with
    | some t =>
      if j - 1 - t > 0 then
        if (t == 1) = true then pure (.done (some (fbH a b (o.push y ++ (b.extract t (j - 1)).reverse) i t), i, t, o.push y ++ (b.extract t (j - 1)).reverse, g, ac, j - 1 - t))
        else if (t == 0) = true then pure (.done (some (dnH a b (o.push y ++ (b.extract t (j - 1)).reverse) i t), i, t, o.push y ++ (b.extract t (j - 1)).reverse, g, ac, j - 1 - t))
        else hi4 a b g ac (j - 1 - t) (o.push y ++ (b.extract t (j - 1)).reverse) i t
      else hi4 a b g ac (j - 1 - t) (o.push y) i (j - 1)
    | _ => pure (.done (some (dnH a b (o.push y) i (j - 1)), i, j - 1, o.push y, g, ac, bc))
def hi2 (a b : Array Keyed) (g ac bc : Nat) (o : Array Keyed) (i j : Nat) : SM (ForInStep D7) := do
  modify fun st => setG st g
  let y <- elem' b (j - 1)
  let r <- gal false y a 0 i (i - 1)
  match r with
  | some t =>
    if i - t > 0 then
      if (t == 0) = true then pure (.done (some (dnH a b (o ++ (a.extract t i).reverse) t j), t, j, o ++ (a.extract t i).reverse, g, i - t, bc))
      else hi3 a b g (i - t) bc (o ++ (a.extract t i).reverse) t j
    else hi3 a b g (i - t) bc o i j
  | _ => pure (.done (some (dnH a b o i j), i, j, o, g, ac, bc))
def hiB (a b : Array Keyed) (c : D7) : SM (ForInStep D7) :=
  if c.2.2.2.2.1 > 1 then hi2 a b (c.2.2.2.2.1 - 1) c.2.2.2.2.2.1 c.2.2.2.2.2.2 c.2.2.2.1 c.2.1 c.2.2.1
  else hi2 a b c.2.2.2.2.1 c.2.2.2.2.2.1 c.2.2.2.2.2.2 c.2.2.2.1 c.2.1 c.2.2.1
def hiO (a b : Array Keyed) (c : D5) : SM (ForInStep D5) := do
  let c1 <- forIn [0:a.size + b.size] ((none, c.2.1, c.2.2.1, c.2.2.2.1, 0, 0) : D6) fun _ d => hi1 a b c.2.2.2.2 d
  match c1.1 with
  | some r => pure (.done (some r, c1.2.1, c1.2.2.1, c1.2.2.2.1, c.2.2.2.2))
  | none => do
    liftM (rule "list.sort.gallop")
    let c2 <- forIn [0:a.size + b.size] ((none, c1.2.1, c1.2.2.1, c1.2.2.2.1, c.2.2.2.2 + 1, c1.2.2.2.2.1, c1.2.2.2.2.2) : D7) fun _ d => hiB a b d
    match c2.1 with
    | some r => pure (.done (some r, c2.2.1, c2.2.2.1, c2.2.2.2.1, c2.2.2.2.2.1))
    | none => do
      modify fun st => setG st (c2.2.2.2.2.1 + 1)
      pure (.yield (none, c2.2.1, c2.2.2.1, c2.2.2.2.1, c2.2.2.2.2.1 + 1))
theorem mHi_low (a b : Array Keyed) : mHi a b = (do
  liftM (rule "list.sort.merge-hi")
  let x <- elem' a (a.size - 1)
  if (a.size - 1 == 0) = true then pure (dnH a b #[x] (a.size - 1) b.size)
  else if (b.size == 1) = true then pure (fbH a b #[x] (a.size - 1) b.size)
  else do
    let st <- get
    let c <- forIn [0:a.size + b.size] ((none, a.size - 1, b.size, #[x], gallopOf st) : D5) fun _ d => hiO a b d
    match c.1 with
    | some r => pure r
    | none => liftM (unsupported "internal:list.sort.merge-bound" : Sem (Array Keyed))) := by
  rw [mHi_eq]
  refine bnd _ fun _ => bnd _ fun y => ?_
  refine if2 rfl (if2 rfl ?_)
  refine bnd _ fun st => bnd2 (for2 fun _ c => ?_) fun c => ?_
  . unfold hiO
    refine bnd2 (for2 fun _ d => ?_) fun c1 => ?_
    . rfl
    . obtain ⟨r, i, j, o, ac, bc⟩ := c1
      cases r with
      | some r => rfl
      | none =>
        refine bnd2 rfl fun _ => bnd2 (for2 fun _ d => ?_) fun c2 => ?_
        . unfold hiB
          refine if2 ?_ ?_
          all_goals
            unfold hi2
            refine bnd2 rfl fun _ => bnd2 rfl fun y => bnd2 rfl fun r => ?_
            cases r with
            | none => rfl
            | some k =>
              refine if2 (if2 rfl ?_) ?_
              all_goals
                unfold hi3
                refine bnd2 rfl fun y2 => if2 rfl (bnd2 rfl fun x2 => bnd2 rfl fun r2 => ?_)
                cases r2 with
                | none => rfl
                | some k2 =>
                  refine if2 (if2 rfl (if2 rfl ?_)) ?_
                  all_goals
                    unfold hi4
                    refine bnd2 rfl fun x3 => if2 rfl (if2 rfl rfl)
        . obtain ⟨r, i, j, o, g, ac, bc⟩ := c2
          cases r with
          | some r => rfl
          | none => rfl
  . obtain ⟨r, i, j, o, g⟩ := c
    cases r with
    | some r => rfl
    | none => rfl
end L2S
namespace L2S
open PySem PyProof.Rows
section
variable {M : Model} {A : Around} {E : Value -> Shared -> Prop} {s : Shared} {κ : SortKind} {a₀ : Array Keyed} {f : Keyed -> Int} {a b o : Array Keyed} {i j : Nat}
abbrev JH (f : Keyed -> Int) (a b o : Array Keyed) (i j : Nat) : Prop := Jm (fun x => - f x) a.toList.reverse b.toList.reverse o.toList (a.size - i) (b.size - j)
theorem ZBL {a : Array Keyed} {i : Nat} (h : i <= a.size) : a.toList.reverse.drop (a.size - i) = (a.toList.take i).reverse := by
  rw [List.drop_reverse, yAL, show a.size - (a.size - i) = i by omega]
theorem ZDc (a : Array Keyed) (i : Nat) : (a.extract 0 i).toList = a.toList.take i := by
  rw [yBY, yBZ, Nat.sub_zero]
  rfl
theorem ZDP {a : Array Keyed} {i : Nat} {x : Keyed} (h : i <= a.size) (hx : x ∈ a.toList.reverse.drop (a.size - i)) : ∃ k, k < i /\ kn f a k = f x := by
  rw [ZBL h, List.mem_reverse] at hx
  obtain ⟨n, hn⟩ := yBV hx
  have hl := (yAG.mp hn).1
  rw [yAP] at hl
  rw [List.getElem?_take_of_lt (by omega), yBD] at hn
  exact ⟨n, by omega, ZA5 hn⟩
theorem good_rev {as bs r : List Keyed} (h : Good (fun x => - f x) as.reverse bs.reverse r) : Good f as bs r.reverse := by
  refine ⟨?_, ?_⟩
  . refine (List.reverse_perm r).trans (h.1.trans ?_)
    exact List.Perm.append (List.reverse_perm as) (List.reverse_perm bs)
  . rw [List.pairwise_reverse]
    refine h.2.imp fun {x y} z => ?_
    have w : - f x <= - f y := z
    show f y <= f x
    omega
theorem JH.dn (h : JH f a b o i j) (hi : i <= a.size) (hj : j <= b.size) (e : i = 0 ∨ j = 0) : Fin f a b (dnH a b o i j) := by
  have g := Jm.dn (Jm.swap h) (e.symm.imp (fun z => by rw [ZBL hj, z]; rfl) (fun z => by rw [ZBL hi, z]; rfl))
  have g2 := good_rev g
  rw [ZBL hi, ZBL hj, List.reverse_append, List.reverse_append, List.reverse_reverse, List.reverse_reverse, <- yAI] at g2
  unfold Fin dnH
  rw [yBK, yBK, ZDc, ZDc, yCC]
  exact ⟨g2.1.trans yBO, g2.2⟩
theorem JH.fb (h : JH f a b o i j) (T : Two a₀ f a b) (hi : i <= a.size) (hj : j <= b.size) (e : j = 1) : Fin f a b (fbH a b o i j) := by
  have g := Jm.la (Jm.swap h) fun x hx y hy => by
    obtain ⟨k, k1, k2⟩ := ZDP (f := f) hj hx
    obtain ⟨n, n1, n2⟩ := ZDP (f := f) hi hy
    have := T.lo n (by omega)
    rw [show k = 0 by omega] at k2
    rw [k2, n2] at this
    show - f y <= - f x
    omega
  have g2 := good_rev g
  rw [ZBL hi, ZBL hj, List.reverse_append, List.reverse_append, List.reverse_reverse, List.reverse_reverse, <- yAI] at g2
  unfold Fin fbH
  rw [yBK, yBK, ZDc, ZDc, yCC]
  exact ⟨g2.1.trans yBO, g2.2⟩
theorem JH.chunkA (h : JH f a b o i j) {t : Nat} (ht : t <= i) (hi : i <= a.size) (hj : j <= b.size) (hc : ∀ n m, t <= n -> n < i -> m < j -> kn f b m <= kn f a n) : JH f a b (o ++ (a.extract t i).reverse) t j := by
  have e : (a.toList.reverse.drop (a.size - i)).take (i - t) = (a.extract t i).reverse.toList := by
    rw [ZBL hi, List.take_reverse, yCC, yBY, yBZ, yAP, yAL, yCD hi, show i - (i - t) = t by omega, List.drop_take]
  have g := Jm.chunk h (i - t) fun u hu y hy => by
    obtain ⟨m, m1, m2⟩ := ZDP (f := f) hj hy
    rw [e, yCC, List.mem_reverse, show i = t + (i - t) by omega, ZDV] at hu
    obtain ⟨n, n1, n2, n3, n4⟩ := mem_take (f := f) hu
    have := hc n m n1 (by omega) m1
    show - f u <= - f y
    omega
  rw [e] at g
  unfold JH
  rw [yBK, show a.size - t = a.size - i + (i - t) by omega]
  exact g
theorem JH.chunkB (h : JH f a b o i j) {t : Nat} (ht : t <= j) (hi : i <= a.size) (hj : j <= b.size) (hc : ∀ n m, t <= n -> n < j -> m < i -> kn f a m <= kn f b n) : JH f a b (o ++ (b.extract t j).reverse) i t :=
  (JH.chunkA (Jm.swap h) ht hj hi hc).swap
theorem one_rev {x : Keyed} (hx : a[i - 1]? = some x) (hi : 1 <= i) : (a.extract (i - 1) i).reverse = #[x] := by
  have e : (a.extract (i - 1) i).toList = [x] := by
    have := ZDV a (i - 1) 1
    rw [show i - 1 + 1 = i by omega] at this
    rw [this]
    exact ZD4 hx
  apply Array.toList_inj.mp
  rw [yCC, e]
  rfl
theorem JH.pushA {x : Keyed} (h : JH f a b o i j) (hx : a[i - 1]? = some x) (h1 : 1 <= i) (hi : i <= a.size) (hj : j <= b.size) (hc : ∀ m, m < j -> kn f b m <= f x) : JH f a b (o.push x) (i - 1) j := by
  have g := JH.chunkA h (t := i - 1) (by omega) hi hj fun n m n1 n2 m1 => by
    rw [show n = i - 1 by omega, ZA5 hx]
    exact hc m m1
  rw [one_rev hx h1] at g
  rw [show o.push x = o ++ #[x] from rfl]
  exact g
theorem JH.pushB {x : Keyed} (h : JH f a b o i j) (hx : b[j - 1]? = some x) (h1 : 1 <= j) (hi : i <= a.size) (hj : j <= b.size) (hc : ∀ m, m < i -> kn f a m <= f x) : JH f a b (o.push x) i (j - 1) :=
  (JH.pushA (Jm.swap h) hx h1 hj hi hc).swap
structure At (f : Keyed -> Int) (a b : Array Keyed) (x : Nat) (i j : Nat) (o : Array Keyed) : Prop where
  J : JH f a b o i j
  i1 : 1 <= i
  i2 : i <= a.size
  j1 : 2 <= j
  j2 : j <= b.size
  p : x + i + j <= a.size + b.size
def R7h (f : Keyed -> Int) (a b : Array Keyed) (st : SortSt) (x : Nat) : ForInStep D7 -> SortSt -> Prop
  | .done c, st' => Ev st st' /\ ((∃ r z, c = (some r, z) /\ Fin f a b r) ∨ ∃ i j o g ac bc, c = (none, i, j, o, g, ac, bc) /\ At f a b x i j o)
  | .yield c, st' => Ev st st' /\ ∃ i j o g ac bc, c = (none, i, j, o, g, ac, bc) /\ At f a b x i j o
theorem mHi_ok {st : SortSt} {Q : Array Keyed -> SortSt -> Prop} (L : Asks M A E s κ a₀ f) (hk : kindOf st = κ) (T : Two a₀ f a b) (h : ∀ r st', Ev st st' -> Fin f a b r -> Q r st') : wpS M A E s (mHi a b) Q st := by
  have ta := T.na
  have tb := T.nb
  have ua : ∀ n m, n <= m -> m < a.size -> kn f a n <= kn f a m := fun n m z1 z2 => T.ua n m (yAH _) z1 (by omega)
  have ub : ∀ n m, n <= m -> m < b.size -> kn f b n <= kn f b m := fun n m z1 z2 => T.ub n m (yAH _) z1 (by omega)
  have pr : ∀ l : List Keyed, l.Pairwise (leK f) -> l.reverse.Pairwise (leK fun x => - f x) := fun l z => by
    rw [List.pairwise_reverse]
    refine z.imp fun {x y} w => ?_
    have w' : f x <= f y := w
    show - f y <= - f x
    omega
  rw [mHi_low]
  refine wpS_bind (wpS_lift (wpAny_rule ⟨rfl, ?_⟩))
  obtain ⟨x0, hx0⟩ := ZB2 (a := a) (i := a.size - 1) (by omega)
  refine wpS_bind (ZAk hx0 ?_)
  have J0 : JH f a b #[x0] (a.size - 1) b.size := by
    have e : JH f a b #[] a.size b.size := ⟨by simp, by simpa using pr _ (ZEC T.ua), by simpa using pr _ (ZEC T.ub)⟩
    exact JH.pushA e hx0 ta (yAA _) (yAA _) fun m m1 => by rw [<- ZA5 (f := f) hx0]; exact T.hi m m1
  by_cases c1 : a.size - 1 = 0
  . rw [if_pos (by simpa using c1)]
    exact wpS_pure (h _ st .refl (J0.dn (by omega) (yAA _) (.inl c1)))
  rw [if_neg (by simpa using c1)]
  by_cases c2 : b.size = 1
  . rw [if_pos (by simpa using c2)]
    exact wpS_pure (h _ st .refl (J0.fb T (by omega) (yAA _) c2))
  rw [if_neg (by simpa using c2)]
  refine wpS_bind (wpS_get ?_)
  refine wpS_bind (wpS_mono (wpS_forRange (I := fun x c st' => Ev st st' /\ ∃ i j o g, c = (none, i, j, o, g) /\ At f a b (x + 1) i j o) (Q := fun c st' => Ev st st' /\ ∃ r z, c = (some r, z) /\ Fin f a b r) ?_ ?_ ⟨.refl, _, _, _, _, rfl, J0, by omega, by omega, by omega, by omega, by omega⟩) ?_)
  . rintro x c st1 _ hx ⟨e1, i, j, o, g, rfl, W⟩
    unfold hiO
    dsimp only
    refine wpS_bind (wpS_mono (wpS_forRange (I := fun y c st' => Ev st st' /\ ∃ i j o ac bc, c = (none, i, j, o, ac, bc) /\ At f a b (x + 1 + y) i j o)
      (Q := fun c st' => Ev st st' /\ ((∃ r z, c = (some r, z) /\ Fin f a b r) ∨ ∃ i j o ac bc, c = (none, i, j, o, ac, bc) /\ At f a b (x + 2) i j o)) ?_ ?_ ⟨e1, i, j, o, 0, 0, rfl, W⟩) ?_)
    . rintro y c st2 _ hy ⟨e2, i, j, o, ac, bc, rfl, J, i1, i2, j1, j2, hp⟩
      unfold hi1
      dsimp only
      obtain ⟨yb, hyb⟩ := ZB2 (a := b) (i := j - 1) (by omega)
      obtain ⟨xa, hxa⟩ := ZB2 (a := a) (i := i - 1) (by omega)
      refine wpS_bind (ZAk hyb ?_)
      refine wpS_bind (ZAk hxa ?_)
      refine wpS_bind (L.lt yb xa (T.ib.get hyb) (T.ia.get hxa) st2 _ (e2.k.trans hk) ?_)
      by_cases hw : f yb < f xa
      . rw [decide_eq_true hw]
        dsimp only
        rw [if_pos rfl]
        refine wpS_bind (ZAk hxa ?_)
        have J2 := J.pushA hxa i1 i2 j2 fun m m1 => by
          have := ub m (j - 1) (by omega) (by omega)
          rw [ZA5 hyb] at this
          omega
        by_cases c3 : i - 1 = 0
        . rw [if_pos (by simpa using c3)]
          exact wpS_pure ⟨e2, .inl ⟨_, _, rfl, J2.dn (by omega) j2 (.inl c3)⟩⟩
        rw [if_neg (by simpa using c3)]
        split
        . exact wpS_pure ⟨e2, .inr ⟨_, _, _, _, _, rfl, J2, by omega, by omega, j1, j2, by omega⟩⟩
        . exact wpS_pure ⟨e2, _, _, _, _, _, rfl, J2, by omega, by omega, j1, j2, by omega⟩
      . rw [decide_eq_false hw]
        dsimp only
        rw [if_neg (by decide)]
        refine wpS_bind (ZAk hyb ?_)
        have J2 := J.pushB hyb (by omega) i2 j2 fun m m1 => by
          have := ua m (i - 1) (by omega) (by omega)
          rw [ZA5 hxa] at this
          omega
        by_cases c3 : j - 1 = 1
        . rw [if_pos (by simpa using c3)]
          exact wpS_pure ⟨e2, .inl ⟨_, _, rfl, J2.fb T i2 (by omega) c3⟩⟩
        rw [if_neg (by simpa using c3)]
        split
        . exact wpS_pure ⟨e2, .inr ⟨_, _, _, _, _, rfl, J2, i1, i2, by omega, by omega, by omega⟩⟩
        . exact wpS_pure ⟨e2, _, _, _, _, _, rfl, J2, i1, i2, by omega, by omega, by omega⟩
    . rintro c st2 ⟨e2, i, j, o, ac, bc, rfl, J, i1, i2, j1, j2, hp⟩
      exact ⟨e2, .inr ⟨_, _, _, _, _, rfl, J, i1, i2, j1, j2, by omega⟩⟩
    . rintro c st2 ⟨e2, ⟨r, z, rfl, hr⟩ | ⟨i, j, o, ac, bc, rfl, W⟩⟩
      . exact wpS_pure ⟨e2, r, _, rfl, hr⟩
      dsimp only
      refine wpS_bind (wpS_lift (wpAny_rule ⟨rfl, ?_⟩))
      refine wpS_bind (wpS_mono (wpS_forRange (I := fun y c st' => Ev st st' /\ ∃ i j o g ac bc, c = (none, i, j, o, g, ac, bc) /\ At f a b (x + 2) i j o)
        (Q := fun c st' => Ev st st' /\ ((∃ r z, c = (some r, z) /\ Fin f a b r) ∨ ∃ i j o g ac bc, c = (none, i, j, o, g, ac, bc) /\ At f a b (x + 2) i j o)) ?_ ?_ ⟨e2, i, j, o, _, ac, bc, rfl, W⟩) ?_)
      . rintro y c st3 _ hy ⟨e3, i, j, o, g, ac, bc, rfl, J, i1, i2, j1, j2, hp⟩
        have four : ∀ (g ac bc : Nat) (o : Array Keyed) (i j : Nat) (st4 : SortSt) (xa : Keyed), Ev st st4 -> At f a b (x + 2) i j o -> a[i - 1]? = some xa -> (∀ n, n < j -> kn f b n <= f xa) -> wpS M A E s (hi4 a b g ac bc o i j) (R7h f a b st (x + 2)) st4 := by
          rintro g ac bc o i j st4 xa e4 ⟨J, i1, i2, j1, j2, hp⟩ hxa hle
          unfold hi4
          refine wpS_bind (ZAk hxa ?_)
          have J2 := J.pushA hxa i1 i2 j2 hle
          by_cases c3 : i - 1 = 0
          . rw [if_pos (by simpa using c3)]
            exact wpS_pure ⟨e4, .inl ⟨_, _, rfl, J2.dn (by omega) j2 (.inl c3)⟩⟩
          rw [if_neg (by simpa using c3)]
          split
          . exact wpS_pure ⟨e4, .inr ⟨_, _, _, _, _, _, rfl, J2, by omega, by omega, j1, j2, by omega⟩⟩
          . exact wpS_pure ⟨e4, _, _, _, _, _, _, rfl, J2, by omega, by omega, j1, j2, by omega⟩
        have three : ∀ (g ac bc : Nat) (o : Array Keyed) (i j : Nat) (st4 : SortSt) (yb : Keyed), Ev st st4 -> At f a b (x + 2) i j o -> b[j - 1]? = some yb -> (∀ n, n < i -> kn f a n <= f yb) -> wpS M A E s (hi3 a b g ac bc o i j) (R7h f a b st (x + 2)) st4 := by
          rintro g ac bc o i j st4 yb e4 ⟨J, i1, i2, j1, j2, hp⟩ hyb hle
          unfold hi3
          refine wpS_bind (ZAk hyb ?_)
          have J2 := J.pushB hyb (by omega) i2 j2 hle
          by_cases c3 : j - 1 = 1
          . rw [if_pos (by simpa using c3)]
            exact wpS_pure ⟨e4, .inl ⟨_, _, rfl, J2.fb T i2 (by omega) c3⟩⟩
          rw [if_neg (by simpa using c3)]
          obtain ⟨xa, hxa⟩ := ZB2 (a := a) (i := i - 1) (by omega)
          refine wpS_bind (ZAk hxa ?_)
          refine wpS_bind (ZDU L (e4.k.trans hk) T.ib (T.ia.get hxa) (by omega) (by omega) (T.ub.sub (by omega)) fun t k1 k2 k3 => ?_)
          dsimp only
          have rest : ∀ n, n < t -> kn f b n <= f xa := fun n n1 => by
            have := k2 n n1
            rw [yBP] at this
            omega
          by_cases hk0 : j - 1 - t > 0
          . rw [if_pos hk0]
            have J3 := J2.chunkB k1 i2 (by omega) fun n m n1 n2 m1 => by
              have z := k3 n n1 n2
              rw [yBP] at z
              have z2 := ua m (i - 1) (by omega) (by omega)
              rw [ZA5 hxa] at z2
              omega
            by_cases c4 : t = 1
            . rw [if_pos (by simpa using c4)]
              exact wpS_pure ⟨e4, .inl ⟨_, _, rfl, J3.fb T i2 (by omega) c4⟩⟩
            rw [if_neg (by simpa using c4)]
            by_cases c5 : t = 0
            . rw [if_pos (by simpa using c5)]
              exact wpS_pure ⟨e4, .inl ⟨_, _, rfl, J3.dn i2 (by omega) (.inr c5)⟩⟩
            rw [if_neg (by simpa using c5)]
            exact four _ _ _ _ _ _ _ xa e4 ⟨J3, i1, i2, by omega, by omega, by omega⟩ hxa rest
          . rw [if_neg hk0]
            have : t = j - 1 := by omega
            subst this
            exact four _ _ _ _ _ _ _ xa e4 ⟨J2, i1, i2, by omega, by omega, by omega⟩ hxa rest
        have two : ∀ (g ac bc : Nat), wpS M A E s (hi2 a b g ac bc o i j) (R7h f a b st (x + 2)) st3 := by
          intro g ac bc
          unfold hi2
          obtain ⟨yb, hyb⟩ := ZB2 (a := b) (i := j - 1) (by omega)
          refine wpS_bind (wpS_modify ?_)
          have e4 := e3.setG g
          refine wpS_bind (ZAk hyb ?_)
          refine wpS_bind (ZD7 L (e4.k.trans hk) T.ia (T.ib.get hyb) (by omega) (by omega) (T.ua.sub (by omega)) fun t k1 k2 k3 => ?_)
          dsimp only
          have rest : ∀ n, n < t -> kn f a n <= f yb := fun n n1 => by
            have := k2 n n1
            rw [yBP] at this
            exact this
          by_cases hk0 : i - t > 0
          . rw [if_pos hk0]
            have J3 := J.chunkA k1 i2 j2 fun n m n1 n2 m1 => by
              have z := k3 n n1 n2
              rw [yBP] at z
              have z2 := ub m (j - 1) (by omega) (by omega)
              rw [ZA5 hyb] at z2
              omega
            by_cases c4 : t = 0
            . rw [if_pos (by simpa using c4)]
              exact wpS_pure ⟨e4, .inl ⟨_, _, rfl, J3.dn (by omega) j2 (.inl c4)⟩⟩
            rw [if_neg (by simpa using c4)]
            exact three _ _ _ _ _ _ _ yb e4 ⟨J3, by omega, by omega, j1, j2, by omega⟩ hyb rest
          . rw [if_neg hk0]
            have : t = i := by omega
            subst this
            exact three _ _ _ _ _ _ _ yb e4 ⟨J, i1, i2, j1, j2, hp⟩ hyb rest
        unfold hiB
        dsimp only
        split
        . exact wpS_mono (two _ _ _) fun r st' z => by cases r <;> exact z
        . exact wpS_mono (two _ _ _) fun r st' z => by cases r <;> exact z
      . rintro c st3 ⟨e3, i, j, o, g, ac, bc, rfl, W⟩
        exact ⟨e3, .inr ⟨_, _, _, _, _, _, rfl, W⟩⟩
      . rintro c st3 ⟨e3, ⟨r, z, rfl, hr⟩ | ⟨i, j, o, g, ac, bc, rfl, W⟩⟩
        . exact wpS_pure ⟨e3, r, _, rfl, hr⟩
        . dsimp only
          exact wpS_bind (wpS_modify (wpS_pure ⟨e3.setG _, _, _, _, _, rfl, W⟩))
  . rintro c st1 ⟨e1, i, j, o, g, rfl, J, i1, i2, j1, j2, hp⟩
    omega
  . rintro c st1 ⟨e1, r, z, rfl, hr⟩
    exact wpS_pure (h r st1 e1 hr)
end
end L2S
namespace L2S
open PySem PyProof.Rows
abbrev PT := Nat × Nat × Nat
def ZCj (xs m : Array Keyed) (lo : Nat) : Array Keyed := m.toList.zipIdx.foldl (fun a (p, j) => a.setIfInBounds (lo + j) p) xs
theorem mAt_eq (i : Nat) : mergeAt' i = (do
  let z <- get
  let (some (s1, n1, w1), some (s2, n2, _)) := ((pendingOf z)[i]?, (pendingOf z)[i + 1]?) | unsupported "internal:list.sort.pending"
  set (setPending z (((pendingOf z).setIfInBounds i (s1, n1 + n2, w1)).eraseIdxIfInBounds (i + 1)))
  let some k <- gal false (<- elem' (arrOf z) s2) (arrOf z) s1 n1 0 | return false
  let (s1, n1) := (s1 + k, n1 - k)
  if n1 == 0 then return true
  let some n2 <- gal true (<- elem' (arrOf z) (s1 + n1 - 1)) (arrOf z) s2 n2 (n2 - 1) | return false
  if n2 == 0 then return true
  let x := (arrOf z).extract s1 s2
  let y := (arrOf z).extract s2 (s2 + n2)
  let m <- if n1 <= n2 then mLo x y else mHi x y
  modify fun z => setArr z (ZCj (arrOf z) m s1)
  return (failedOf (<- get)).isNone) := rfl
theorem wpS_set {M : Model} {A : Around} {E : Value -> Shared -> Prop} {s : Shared} {σ : Type} {x : σ} {Q : PUnit -> σ -> Prop} {st : σ} (h : Q ⟨⟩ x) : wpS M A E s (set x : StateT σ Sem PUnit) Q st := by
  unfold wpS; rw [StateT.run_set]; exact wpAny_pure ⟨rfl, h⟩
theorem lay_go (lo : Nat) : ∀ (l : List Keyed) (k : Nat) (xs : Array Keyed), lo + k + l.length <= xs.size ->
    (((l.zipIdx k).foldl (fun a (p : Keyed × Nat) => a.setIfInBounds (lo + p.2) p.1) xs).size = xs.size) /\ ∀ n, ((l.zipIdx k).foldl (fun a (p : Keyed × Nat) => a.setIfInBounds (lo + p.2) p.1) xs)[n]? = if lo + k <= n /\ n < lo + k + l.length then l[n - (lo + k)]? else xs[n]?
  | [], k, xs, _ => by
    refine ⟨rfl, fun n => ?_⟩
    rw [if_neg (fun z => by rw [yBW] at z; omega)]
    rfl
  | x :: r, k, xs, h => by
    rw [yAF] at h
    rw [List.zipIdx_cons, List.foldl_cons]
    obtain ⟨i1, i2⟩ := lay_go lo r (k + 1) (xs.setIfInBounds (lo + k) x) (by rw [Array.size_setIfInBounds]; omega)
    refine ⟨by rw [i1, Array.size_setIfInBounds], fun n => ?_⟩
    rw [i2, yAF]
    by_cases c1 : lo + (k + 1) <= n /\ n < lo + (k + 1) + r.length
    . rw [if_pos c1, if_pos (by omega), show n - (lo + k) = (n - (lo + (k + 1))) + 1 by omega, List.getElem?_cons_succ]
    . rw [if_neg c1, Array.getElem?_setIfInBounds]
      by_cases c2 : lo + k = n
      . rw [if_pos c2, if_pos (by omega), if_pos (by omega), show n - (lo + k) = 0 by omega]
        rfl
      . rw [if_neg c2, if_neg (by omega)]
theorem ZDR {xs m : Array Keyed} {lo : Nat} (h : lo + m.size <= xs.size) (n : Nat) : (ZCj xs m lo)[n]? = if lo <= n /\ n < lo + m.size then m[n - lo]? else xs[n]? := by
  have := (lay_go lo m.toList 0 xs (by rw [yAL]; omega)).2 n
  rw [yAL, Nat.add_zero, yBD] at this
  exact this
theorem lay_list {xs m : Array Keyed} {lo : Nat} (h : lo + m.size <= xs.size) : (ZCj xs m lo).toList = xs.toList.take lo ++ m.toList ++ xs.toList.drop (lo + m.size) := by
  refine List.ext_getElem? fun n => ?_
  rw [yBD, ZDR h]
  by_cases c1 : n < lo
  . rw [if_neg (by omega), yAI, yBH (by rw [yAP, yAL]; omega), List.getElem?_take_of_lt c1, yBD]
  . by_cases c2 : n < lo + m.size
    . rw [if_pos (by omega), yAI, yBG (by rw [yAP, yAL]; omega), yAP, yAL, yCD (by omega), yBH (by rw [yAL]; omega), yBD]
    . rw [if_neg (by omega), yBG (by rw [yAC, yAP, yAL, yAL]; omega), yAC, yAP, yAL, yAL, yCD (by omega), List.getElem?_drop, yBD]
      congr 1
      omega
section
variable {M : Model} {A : Around} {E : Value -> Shared -> Prop} {s : Shared} {κ : SortKind} {a₀ : Array Keyed} {f : Keyed -> Int}
theorem SB.inA {st : SortSt} (h : SB κ a₀ st) : InA a₀ (arrOf st) := fun x hx => (Array.perm_iff_toList_perm.mp h.perm).mem_iff.mp hx
theorem ext_get {xs : Array Keyed} {i j n : Nat} (h : j <= xs.size) (hn : n < j - i) : (xs.extract i j)[n]? = xs[i + n]? := by
  rw [Array.getElem?_extract]
  rw [if_pos (by omega)]
theorem merge_at {st : SortSt} {i sa na w nb v : Nat} {Q : Bool -> SortSt -> Prop} (L : Asks M A E s κ a₀ f) (hB : SB κ a₀ st) (p1 : (pendingOf st)[i]? = some (sa, na, w)) (p2 : (pendingOf st)[i + 1]? = some (sa + na, nb, v)) (na1 : 1 <= na) (nb1 : 1 <= nb) (hz : sa + na + nb <= a₀.size)
    (ua : Up f (arrOf st) sa na) (ub : Up f (arrOf st) (sa + na) nb)
    (h : ∀ st', SB κ a₀ st' -> pendingOf st' = ((pendingOf st).setIfInBounds i (sa, na + nb, w)).eraseIdxIfInBounds (i + 1) -> Up f (arrOf st') sa (na + nb) -> (∀ k, k < sa ∨ sa + na + nb <= k -> (arrOf st')[k]? = (arrOf st)[k]?) -> Q true st') : wpS M A E s (mergeAt' i) Q st := by
  have hsz := hB.size
  rw [mAt_eq]
  refine wpS_bind (wpS_get ?_)
  rw [p1, p2]
  dsimp only
  refine wpS_bind (wpS_set ?_)
  have hB1 : SB κ a₀ (setPending st (((pendingOf st).setIfInBounds i (sa, na + nb, w)).eraseIdxIfInBounds (i + 1))) := ⟨hB.perm, hB.kind, hB.fail⟩
  obtain ⟨b0, hb0⟩ := ZB2 (a := arrOf st) (i := sa + na) (by omega)
  refine wpS_bind (ZAk hb0 ?_)
  refine wpS_bind (ZD7 L hB1.kind hB.inA (hB.inA.get hb0) (by omega) (by omega) ua fun k k1 k2 k3 => ?_)
  dsimp only
  have lowA : ∀ n, sa <= n -> n < sa + k -> kn f (arrOf st) n <= f b0 := fun n n1 n2 => by
    have := k2 (n - sa) (by omega)
    rw [show sa + (n - sa) = n by omega] at this
    exact this
  have fromB : ∀ n, sa + na <= n -> n < sa + na + nb -> f b0 <= kn f (arrOf st) n := fun n n1 n2 => by
    have := ub (sa + na) n (yAA _) n1 n2
    rw [ZA5 hb0] at this
    exact this
  by_cases c1 : na - k = 0
  . rw [if_pos (by simpa using c1)]
    refine wpS_pure (h _ hB1 rfl (fun n m n1 n2 n3 => ?_) fun _ _ => rfl)
    by_cases d1 : m < sa + na
    . exact ua n m n1 n2 d1
    . by_cases d2 : n < sa + na
      . have z1 := lowA n n1 (by omega)
        have z2 := fromB m (by omega) (by omega)
        show kn f (arrOf st) n <= kn f (arrOf st) m
        omega
      . exact ub n m (by omega) n2 (by omega)
  rw [if_neg (by simpa using c1)]
  rw [show sa + k + (na - k) - 1 = sa + na - 1 by omega]
  obtain ⟨aN, haN⟩ := ZB2 (a := arrOf st) (i := sa + na - 1) (by omega)
  refine wpS_bind (ZAk haN ?_)
  refine wpS_bind (ZDU L hB1.kind hB.inA (hB.inA.get haN) (by omega) (by omega) ub fun t t1 t2 t3 => ?_)
  dsimp only
  have highB : ∀ n, sa + na + t <= n -> n < sa + na + nb -> f aN <= kn f (arrOf st) n := fun n n1 n2 => by
    have := t3 (n - (sa + na)) (by omega) (by omega)
    rw [show sa + na + (n - (sa + na)) = n by omega] at this
    exact this
  have toA : ∀ n, sa <= n -> n < sa + na -> kn f (arrOf st) n <= f aN := fun n n1 n2 => by
    have := ua n (sa + na - 1) n1 (by omega) (by omega)
    rw [ZA5 haN] at this
    exact this
  by_cases c2 : t = 0
  . rw [if_pos (by simpa using c2)]
    refine wpS_pure (h _ hB1 rfl (fun n m n1 n2 n3 => ?_) fun _ _ => rfl)
    by_cases d1 : m < sa + na
    . exact ua n m n1 n2 d1
    . by_cases d2 : n < sa + na
      . have z1 := toA n n1 d2
        have z2 := highB m (by omega) (by omega)
        show kn f (arrOf st) n <= kn f (arrOf st) m
        omega
      . exact ub n m (by omega) n2 (by omega)
  rw [if_neg (by simpa using c2)]
  have x1 : ((arrOf st).extract (sa + k) (sa + na)).size = na - k := by rw [Array.size_extract]; omega
  have y1 : ((arrOf st).extract (sa + na) (sa + na + t)).size = t := by rw [Array.size_extract]; omega
  have xg : ∀ n, n < na - k -> kn f ((arrOf st).extract (sa + k) (sa + na)) n = kn f (arrOf st) (sa + k + n) := fun n hn => ZAx (ext_get (by omega) (by omega))
  have yg : ∀ n, n < t -> kn f ((arrOf st).extract (sa + na) (sa + na + t)) n = kn f (arrOf st) (sa + na + n) := fun n hn => ZAx (ext_get (by omega) (by omega))
  have hiA : ∀ n, sa + k <= n -> n < sa + na -> f b0 < kn f (arrOf st) n := fun n n1 n2 => by
    have := k3 (n - sa) (by omega) (by omega)
    rw [show sa + (n - sa) = n by omega] at this
    exact this
  have inx : ∀ (lo hi : Nat), InA a₀ ((arrOf st).extract lo hi) := fun lo hi x hx => by
    rw [yBY, yBZ] at hx
    exact hB.inA x (List.mem_of_mem_drop (List.mem_of_mem_take hx))
  have T : Two a₀ f ((arrOf st).extract (sa + k) (sa + na)) ((arrOf st).extract (sa + na) (sa + na + t)) := {
    ia := inx _ _
    ib := inx _ _
    ua := fun n m _ n2 n3 => by
      rw [xg n (by omega), xg m (by omega)]
      exact ua _ _ (by omega) (by omega) (by omega)
    ub := fun n m _ n2 n3 => by
      rw [yg n (by omega), yg m (by omega)]
      exact ub _ _ (by omega) (by omega) (by omega)
    na := by omega
    nb := by omega
    lo := fun n hn => by
      rw [xg n (by omega), yg 0 (by omega), Nat.add_zero, ZA5 hb0]
      exact Int.le_of_lt (hiA _ (by omega) (by omega))
    hi := fun n hn => by
      rw [x1, xg _ (by omega), yg n (by omega), show sa + k + (na - k - 1) = sa + na - 1 by omega, ZA5 haN]
      exact Int.le_of_lt (t2 n (by omega)) }
  have fin : ∀ m st', Ev (setPending st (((pendingOf st).setIfInBounds i (sa, na + nb, w)).eraseIdxIfInBounds (i + 1))) st' -> Fin f ((arrOf st).extract (sa + k) (sa + na)) ((arrOf st).extract (sa + na) (sa + na + t)) m ->
      wpS M A E s (modify (fun z => setArr z (ZCj (arrOf z) m (sa + k))) >>= fun _ => get >>= fun z => pure (failedOf z).isNone) Q st' := by
    intro m st' ev g
    have ea : arrOf st' = arrOf st := ev.a
    have hm : m.size = na - k + t := by
      have := g.1.length_eq
      rw [yAL, yAC, yAL, yAL, x1, y1] at this
      exact this
    refine wpS_bind (wpS_modify (wpS_bind (wpS_get (wpS_pure ?_))))
    have hf : failedOf st' = none := ev.f.trans hB.fail
    show Q (failedOf st').isNone _
    rw [hf]
    have hl : sa + k + m.size <= (arrOf st).size := by omega
    have mel : ∀ n, n < m.size -> ∃ p, sa + k <= p /\ p < sa + na + t /\ kn f m n = kn f (arrOf st) p := fun n hn => by
      obtain ⟨x, hx⟩ := ZB2 (a := m) hn
      have hxm : x ∈ m.toList := by
        rw [yBM] at hx
        obtain ⟨_, rfl⟩ := hx
        simp
      have := g.1.mem_iff.mp hxm
      rw [ZA5 hx]
      rcases yAU.mp this with z | z
      . obtain ⟨q, q1⟩ := yBV z
        rw [yBD] at q1
        have q2 := (yBM.mp q1).1
        refine ⟨sa + k + q, by omega, by omega, ?_⟩
        rw [<- xg q (by omega), ZA5 q1]
      . obtain ⟨q, q1⟩ := yBV z
        rw [yBD] at q1
        have q2 := (yBM.mp q1).1
        refine ⟨sa + na + q, by omega, by omega, ?_⟩
        rw [<- yg q (by omega), ZA5 q1]
    have ms : ∀ n q, n <= q -> q < m.size -> kn f m n <= kn f m q := fun n q n1 n2 => by
      by_cases e : n = q
      . rw [e]; exact Int.le_refl _
      . have := List.pairwise_iff_getElem.mp g.2 n q (by rw [yAL]; omega) (by rw [yAL]; omega) (by omega)
        rw [ZA5 (getElem?_pos m n (by omega)), ZA5 (getElem?_pos m q n2)]
        simpa [leK] using this
    have lk : ∀ n, kn f (ZCj (arrOf st') m (sa + k)) n = if sa + k <= n /\ n < sa + na + t then kn f m (n - (sa + k)) else kn f (arrOf st) n := fun n => by
      rw [ea]
      have := ZDR hl n
      by_cases e : sa + k <= n /\ n < sa + na + t
      . rw [if_pos e]
        rw [if_pos (by omega)] at this
        exact ZAx this
      . rw [if_neg e]
        rw [if_neg (by omega)] at this
        exact ZAx this
    refine h (setArr st' (ZCj (arrOf st') m (sa + k))) ⟨?_, ev.k.trans hB.kind, hf⟩ ev.p (fun n q n1 n2 n3 => ?_) fun n hn => ?_
    . show (ZCj (arrOf st') m (sa + k)).Perm a₀
      rw [ea]
      refine Array.Perm.trans ?_ hB.perm
      rw [Array.perm_iff_toList_perm, lay_list hl]
      have e1 : (arrOf st).toList = (arrOf st).toList.take (sa + k) ++ (((arrOf st).extract (sa + k) (sa + na)).toList ++ ((arrOf st).extract (sa + na) (sa + na + t)).toList) ++ (arrOf st).toList.drop (sa + k + m.size) := by
        rw [yBY, yBY, yBZ, yBZ]
        have s1 : ((arrOf st).toList.drop (sa + k)).take (sa + na - (sa + k)) ++ ((arrOf st).toList.drop (sa + na)).take (sa + na + t - (sa + na)) = ((arrOf st).toList.drop (sa + k)).take m.size := by
          rw [show m.size = (sa + na - (sa + k)) + (sa + na + t - (sa + na)) by omega, List.take_add, List.drop_drop, show sa + k + (sa + na - (sa + k)) = sa + na by omega]
        rw [s1, yAI, show (arrOf st).toList.drop (sa + k + m.size) = ((arrOf st).toList.drop (sa + k)).drop m.size by rw [List.drop_drop], yBX, yBX]
      conv => rhs; rw [e1]
      exact List.Perm.append_right _ (List.Perm.append_left _ g.1)
    . show kn f (ZCj (arrOf st') m (sa + k)) n <= kn f (ZCj (arrOf st') m (sa + k)) q
      rw [lk, lk]
      by_cases c3 : sa + k <= n /\ n < sa + na + t
      . rw [if_pos c3]
        by_cases c4 : sa + k <= q /\ q < sa + na + t
        . rw [if_pos c4]
          exact ms _ _ (by omega) (by omega)
        . rw [if_neg c4]
          obtain ⟨p, q1, q2, q3⟩ := mel (n - (sa + k)) (by omega)
          rw [q3]
          by_cases c5 : p < sa + na
          . have z1 := toA p (by omega) c5
            have z2 := highB q (by omega) (by omega)
            omega
          . exact ub p q (by omega) (by omega) (by omega)
      . rw [if_neg c3]
        by_cases c4 : sa + k <= q /\ q < sa + na + t
        . rw [if_pos c4]
          obtain ⟨p, q1, q2, q3⟩ := mel (q - (sa + k)) (by omega)
          rw [q3]
          have z1 := lowA n n1 (by omega)
          by_cases c5 : p < sa + na
          . exact ua n p n1 (by omega) c5
          . have z2 := fromB p (by omega) (by omega)
            omega
        . rw [if_neg c4]
          by_cases c5 : q < sa + na
          . exact ua n q n1 n2 c5
          . by_cases c6 : n < sa + na
            . have z1 := lowA n n1 (by omega)
              have z2 := fromB q (by omega) (by omega)
              omega
            . exact ub n q (by omega) n2 (by omega)
    . show (ZCj (arrOf st') m (sa + k))[n]? = (arrOf st)[n]?
      rw [ea, ZDR hl, if_neg (by omega)]
  by_cases c3 : na - k <= t
  . rw [if_pos c3]
    exact wpS_bind (mLo_ok L hB1.kind T fin)
  . rw [if_neg c3]
    exact wpS_bind (mHi_ok L hB1.kind T fin)
end
end L2S
namespace L2S
open PySem PyProof.Rows
section
variable {M : Model} {A : Around} {E : Value -> Shared -> Prop} {s : Shared} {κ : SortKind} {a₀ : Array Keyed} {f : Keyed -> Int}
def Chn (f : Keyed -> Int) (xs : Array Keyed) : Nat -> List PT -> Nat -> Prop
  | a, [], e => a = e
  | a, (b, n, _) :: r, e => b = a /\ 1 <= n /\ Up f xs a n /\ Chn f xs (a + n) r e
theorem Chn.le {xs : Array Keyed} : ∀ {l : List PT} {a e : Nat}, Chn f xs a l e -> a + l.length <= e
  | [], a, e, h => by have : a = e := h; rw [yBW]; omega
  | (b, n, w) :: r, a, e, h => by
    obtain ⟨_, h1, _, h2⟩ := h
    have := h2.le
    rw [yAF]
    omega
theorem Chn.keep {xs ys : Array Keyed} : ∀ {l : List PT} {a e : Nat}, Chn f xs a l e -> (∀ k, a <= k -> k < e -> ys[k]? = xs[k]?) -> Chn f ys a l e
  | [], a, e, h, _ => h
  | (b, n, w) :: r, a, e, ⟨h0, h1, h2, h3⟩, k => by
    have hl := h3.le
    refine ⟨h0, h1, fun i j z1 z2 z3 => ?_, h3.keep fun m m1 m2 => k m (by omega) m2⟩
    rw [ZAx (k i z1 (by omega)), ZAx (k j (by omega) (by omega))]
    exact h2 i j z1 z2 z3
theorem Chn.app {xs : Array Keyed} : ∀ {l m : List PT} {a e : Nat}, Chn f xs a (l ++ m) e ↔ ∃ c, Chn f xs a l c /\ Chn f xs c m e
  | [], m, a, e => ⟨fun h => ⟨a, rfl, h⟩, fun ⟨c, h1, h2⟩ => by have : a = c := h1; rw [this]; exact h2⟩
  | (b, n, w) :: r, m, a, e => by
    constructor
    . rintro ⟨h0, h1, h2, h3⟩
      obtain ⟨c, h4, h5⟩ := Chn.app.mp h3
      exact ⟨c, ⟨h0, h1, h2, h4⟩, h5⟩
    . rintro ⟨c, ⟨h0, h1, h2, h4⟩, h5⟩
      exact ⟨h0, h1, h2, Chn.app.mpr ⟨c, h4, h5⟩⟩
theorem two_of {l : List PT} {i : Nat} (h : i + 1 < l.length) : ∃ l1 x y l2, l = l1 ++ x :: y :: l2 /\ l1.length = i := by
  refine ⟨l.take i, l[i], l[i + 1], l.drop (i + 2), ?_, by rw [yAP]; omega⟩
  rw [<- List.drop_eq_getElem_cons (by omega), <- List.drop_eq_getElem_cons (by omega), yBX]
theorem join_of {l1 l2 : List PT} {x y v : PT} {i : Nat} (h : l1.length = i) : ((l1 ++ x :: y :: l2).set i v).eraseIdx (i + 1) = l1 ++ v :: l2 := by
  subst h
  rw [List.set_append_right _ _ (yAA _), yBQ, List.set_cons_zero, List.eraseIdx_append_of_length_le (by omega), show l1.length + 1 - l1.length = 1 by omega]
  rfl
theorem join_at {st : SortSt} {i lo : Nat} {Q : Bool -> SortSt -> Prop} (L : Asks M A E s κ a₀ f) (hB : SB κ a₀ st) (hc : Chn f (arrOf st) 0 (pendingOf st).toList lo) (hlo : lo <= a₀.size) (hi : i + 1 < (pendingOf st).size)
    (h : ∀ st', SB κ a₀ st' -> Chn f (arrOf st') 0 (pendingOf st').toList lo -> (pendingOf st').size + 1 = (pendingOf st).size -> (∀ k, lo <= k -> (arrOf st')[k]? = (arrOf st)[k]?) -> Q true st') : wpS M A E s (mergeAt' i) Q st := by
  obtain ⟨l1, ⟨b1, n1, w1⟩, ⟨b2, n2, w2⟩, l2, el, hl⟩ := two_of (l := (pendingOf st).toList) (i := i) (by rw [yAL]; exact hi)
  have hc' := hc
  rw [el] at hc'
  obtain ⟨c, c1, rfl, c2, c3, rfl, c4, c5, c6⟩ := Chn.app.mp hc'
  have le := c6.le
  have p1 : (pendingOf st)[i]? = some (b1, n1, w1) := by
    rw [<- yBD, el, yBG (by omega), hl, yBQ]
    rfl
  have p2 : (pendingOf st)[i + 1]? = some (b1 + n1, n2, w2) := by
    rw [<- yBD, el, yBG (by omega), show i + 1 - l1.length = 1 by omega]
    rfl
  refine merge_at L hB p1 p2 c2 c4 (by omega) c3 c5 fun st' hB' hp hu hk => ?_
  have e2 : (pendingOf st').toList = l1 ++ (b1, n1 + n2, w1) :: l2 := by
    rw [hp, Array.toList_eraseIdxIfInBounds, Array.toList_setIfInBounds, el]
    exact join_of hl
  refine h st' hB' ?_ ?_ fun k hk2 => hk k (.inr (by omega))
  . rw [e2]
    have le1 := c1.le
    refine Chn.app.mpr ⟨b1, c1.keep fun k k1 k2 => hk k (.inl k2), rfl, by omega, hu, ?_⟩
    rw [show b1 + (n1 + n2) = b1 + n1 + n2 by omega]
    exact c6.keep fun k k1 k2 => hk k (.inr k1)
  . have z1 := congrArg List.length e2
    have z2 := congrArg List.length el
    rw [yAL, yAC, yAF] at z1 z2
    rw [yAF] at z2
    omega
theorem Chn.pow {xs : Array Keyed} {l : List PT} {b n w v a e : Nat} (h : Chn f xs a (l ++ [(b, n, w)]) e) : Chn f xs a (l ++ [(b, n, v)]) e := by
  obtain ⟨c, c1, c2, c3, c4, c5⟩ := Chn.app.mp h
  exact Chn.app.mpr ⟨c, c1, c2, c3, c4, c5⟩
def more (sz pw : Nat) : SM (Option Unit × Unit) := forIn [0:sz] ((none, ()) : Option Unit × Unit) fun _ _ => do
  let z <- get
  match if (pendingOf z).size > 1 then (pendingOf z)[(pendingOf z).size - 2]? else none with
  | some (_, _, old) =>
    if old <= pw then pure (ForInStep.done (none, ()))
    else do
      let b <- mergeAt' ((pendingOf z).size - 2)
      if (!b) = true then pure (ForInStep.done (some (), ())) else pure (ForInStep.yield (none, ()))
  | _ => pure (ForInStep.done (none, ()))
def pile (sz lo n : Nat) : SM (ForInStep (Option Unit × Nat)) := do
  let z <- get
  match (pendingOf z).back? with
  | some (s1, n1, _) => do
    let c <- more sz (power' sz (2 * s1 + n1) (2 * s1 + n1 + n1 + n) sz)
    match c.fst with
    | some r => pure (ForInStep.done (some r, lo))
    | none => do
      modify fun z => setPending z ((pendingOf z).modify ((pendingOf z).size - 1) fun x => (x.fst, x.2.fst, power' sz (2 * s1 + n1) (2 * s1 + n1 + n1 + n) sz))
      modify fun z => setPending z ((pendingOf z).push (lo, n, 0))
      pure (ForInStep.yield (none, lo + n))
  | _ => do
    modify fun z => setPending z ((pendingOf z).push (lo, n, 0))
    pure (ForInStep.yield (none, lo + n))
abbrev PQ (κ : SortKind) (a₀ : Array Keyed) (f : Keyed -> Int) (lo n : Nat) (st : SortSt) : Prop := SB κ a₀ st /\ Chn f (arrOf st) 0 (pendingOf st).toList lo /\ Up f (arrOf st) lo n
theorem more_ok {sz pw lo n : Nat} {st : SortSt} {Q : Option Unit × Unit -> SortSt -> Prop} (L : Asks M A E s κ a₀ f) (hlo : lo <= a₀.size) (hq : PQ κ a₀ f lo n st) (h : ∀ st', PQ κ a₀ f lo n st' -> Q (none, ()) st') : wpS M A E s (more sz pw) Q st := by
  unfold more
  refine wpS_forRange (I := fun x c st' => c = (none, ()) /\ PQ κ a₀ f lo n st') ?_ ?_ ⟨rfl, hq⟩
  . rintro x c st1 _ _ ⟨rfl, hB, hc, hu⟩
    refine wpS_bind (wpS_get ?_)
    by_cases h1 : (pendingOf st1).size > 1
    . rw [if_pos h1, getElem?_pos (pendingOf st1) ((pendingOf st1).size - 2) (by omega)]
      dsimp only
      split
      . exact wpS_pure (h _ ⟨hB, hc, hu⟩)
      . refine wpS_bind (join_at L hB hc hlo (by omega) fun st2 hB2 hc2 _ hk2 => ?_)
        exact wpS_pure ⟨rfl, hB2, hc2, fun i j z1 z2 z3 => by rw [ZAx (hk2 i z1), ZAx (hk2 j (by omega))]; exact hu i j z1 z2 z3⟩
    . rw [if_neg h1]
      exact wpS_pure (h _ ⟨hB, hc, hu⟩)
  . rintro c st1 ⟨rfl, hq⟩
    exact h _ hq
theorem modify_last {p : Array PT} {w : Nat} {l : List PT} {b n v : Nat} (h : p.toList = l ++ [(b, n, v)]) : (p.modify (p.size - 1) fun x => (x.fst, x.2.fst, w)).toList = l ++ [(b, n, w)] := by
  have hs : p.size = l.length + 1 := by rw [<- yAL, h, yAC]; rfl
  refine List.ext_getElem? fun i => ?_
  rw [yBD, Array.getElem?_modify]
  rw [<- yBD, h]
  by_cases c : p.size - 1 = i
  . rw [if_pos c, yBG (by omega), yBG (by omega), show i - l.length = 0 by omega]
    rfl
  . rw [if_neg c]
    by_cases c2 : i < l.length
    . rw [yBH c2, yBH c2]
    . rw [yBU (by rw [yAC, yAV]; omega), yBU (by rw [yAC, yAV]; omega)]
theorem pile_ok {lo n : Nat} {st : SortSt} {Q : ForInStep (Option Unit × Nat) -> SortSt -> Prop} (L : Asks M A E s κ a₀ f) (hn : 1 <= n) (hln : lo + n <= a₀.size) (hq : PQ κ a₀ f lo n st)
    (h : ∀ st', SB κ a₀ st' -> Chn f (arrOf st') 0 (pendingOf st').toList (lo + n) -> Q (.yield (none, lo + n)) st') : wpS M A E s (pile a₀.size lo n) Q st := by
  have fin : ∀ st3 : SortSt, PQ κ a₀ f lo n st3 -> wpS M A E s (modify (fun z => setPending z ((pendingOf z).push (lo, n, 0))) >>= fun _ => pure (ForInStep.yield ((none, lo + n) : Option Unit × Nat))) Q st3 := by
    rintro st3 ⟨hB3, hc3, hu3⟩
    refine wpS_bind (wpS_modify (wpS_pure (h _ ⟨hB3.perm, hB3.kind, hB3.fail⟩ ?_)))
    show Chn f (arrOf st3) 0 ((pendingOf st3).push (lo, n, 0)).toList (lo + n)
    rw [Array.toList_push]
    exact Chn.app.mpr ⟨lo, hc3, rfl, hn, hu3, rfl⟩
  unfold pile
  refine wpS_bind (wpS_get ?_)
  cases hb : (pendingOf st).back? with
  | none => exact fin st hq
  | some t =>
    obtain ⟨s1, n1, w1⟩ := t
    dsimp only
    refine wpS_bind (more_ok L (by omega) hq fun st2 hq2 => ?_)
    dsimp only
    refine wpS_bind (wpS_modify (fin _ ?_))
    obtain ⟨hB2, hc2, hu2⟩ := hq2
    refine ⟨⟨hB2.perm, hB2.kind, hB2.fail⟩, ?_, hu2⟩
    show Chn f (arrOf st2) 0 ((pendingOf st2).modify _ _).toList lo
    rcases List.eq_nil_or_concat (pendingOf st2).toList with e | ⟨l, ⟨b, k, v⟩, e⟩
    . have : pendingOf st2 = #[] := by rw [<- Array.toList_inj, e]
      rw [this] at hc2 ⊢
      exact hc2
    . rw [List.concat_eq_append] at e
      rw [modify_last e]
      rw [e] at hc2
      exact hc2.pow
theorem ite_less (c : Prop) [Decidable c] (n : Nat) : (if c then n - 1 else n) <= n := by split <;> omega
theorem wpS_cast {α : Type} {m m' : SM α} {Q Q' : α -> SortSt -> Prop} {st : SortSt} (e : m = m') (h : wpS M A E s m' Q' st) (q : ∀ a st', Q' a st' -> Q a st') : wpS M A E s m Q st := by rw [e]; exact wpS_mono h q
theorem sort_runs {st : SortSt} {Q : Unit -> SortSt -> Prop} (L : Asks M A E s κ a₀ f) (hB : SB κ a₀ st) (hp : pendingOf st = #[]) (h2 : 2 <= a₀.size)
    (h : ∀ st', SB κ a₀ st' -> Up f (arrOf st') 0 a₀.size -> Q () st') : wpS M A E s sortRuns' Q st := by
  rw [sortRuns'_eq]
  refine wpS_bind (wpS_get ?_)
  dsimp only
  rw [hB.size]
  generalize minRun' a₀.size a₀.size 0 = mr
  refine wpS_bind (wpS_mono (wpS_forRange (I := fun x c st' => ∃ lo, c = (none, lo) /\ SB κ a₀ st' /\ Chn f (arrOf st') 0 (pendingOf st').toList lo /\ lo <= a₀.size /\ min x a₀.size <= lo)
    (Q := fun c st' => c = (none, a₀.size) /\ SB κ a₀ st' /\ Chn f (arrOf st') 0 (pendingOf st').toList a₀.size) ?_ ?_ ⟨0, rfl, hB, by rw [hp]; rfl, by omega, by omega⟩) ?_)
  . rintro x c st1 _ hx ⟨lo, rfl, hB1, hc1, hlo, hxl⟩
    dsimp only
    by_cases hge : lo ≥ a₀.size
    . rw [if_pos hge]
      have : lo = a₀.size := by omega
      subst this
      exact wpS_pure ⟨rfl, hB1, hc1⟩
    rw [if_neg hge]
    refine wpS_bind (count_run L (by omega) (by omega) hB1 fun m st2 hB2 hm1 hm2 hu2 hk2 hp2 => ?_)
    dsimp only
    have hc2 : Chn f (arrOf st2) 0 (pendingOf st2).toList lo := by
      rw [hp2]
      exact hc1.keep fun k _ k2 => hk2 k k2
    have done : ∀ (n : Nat) (st3 : SortSt), 1 <= n -> lo + n <= a₀.size -> PQ κ a₀ f lo n st3 -> wpS M A E s (pile a₀.size lo n)
        (fun r st' => match r with | .done c' => c' = (none, a₀.size) /\ SB κ a₀ st' /\ Chn f (arrOf st') 0 (pendingOf st').toList a₀.size | .yield c' => ∃ lo, c' = (none, lo) /\ SB κ a₀ st' /\ Chn f (arrOf st') 0 (pendingOf st').toList lo /\ lo <= a₀.size /\ min (x + 1) a₀.size <= lo) st3 :=
      fun n st3 hn hln hq => pile_ok L hn hln hq fun st' hB' hc' => ⟨lo + n, rfl, hB', hc', hln, by omega⟩
    by_cases hlt : m < mr
    . rw [if_pos hlt]
      refine wpS_bind (wpS_lift (wpAny_rule ⟨rfl, ?_⟩))
      refine wpS_bind (bin_sort L (by omega) (by omega) hB2 hu2 fun st3 hB3 hu3 hk3 hp3 => ?_)
      rw [if_neg (by decide)]
      refine wpS_cast (by
        refine bnd _ fun z => ?_
        cases (pendingOf z).back? with
        | none => rfl
        | some t =>
          obtain ⟨s1, n1, w1⟩ := t
          refine bnd2 (for2 fun _ c => bnd _ fun z2 => ?_) fun c => ?_
          . generalize (if (pendingOf z2).size > 1 then (pendingOf z2)[(pendingOf z2).size - 2]? else none) = t2
            cases t2 with
            | none => rfl
            | some t2 => rfl
          . obtain ⟨r, u⟩ := c
            cases r with
            | none => rfl
            | some r => rfl) (done _ st3 (by omega) (by omega) ⟨hB3, by rw [hp3]; exact hc2.keep fun k _ k2 => hk3 k k2, hu3⟩) fun r st' z => by cases r <;> exact z
    . rw [if_neg hlt]
      refine wpS_cast (by
        refine bnd _ fun z => ?_
        cases (pendingOf z).back? with
        | none => rfl
        | some t =>
          obtain ⟨s1, n1, w1⟩ := t
          refine bnd2 (for2 fun _ c => bnd _ fun z2 => ?_) fun c => ?_
          . generalize (if (pendingOf z2).size > 1 then (pendingOf z2)[(pendingOf z2).size - 2]? else none) = t2
            cases t2 with
            | none => rfl
            | some t2 => rfl
          . obtain ⟨r, u⟩ := c
            cases r with
            | none => rfl
            | some r => rfl) (done m st2 hm1 (by omega) ⟨hB2, hc2, hu2⟩) fun r st' z => by cases r <;> exact z
  . rintro c st1 ⟨lo, rfl, hB1, hc1, hlo, hxl⟩
    have : lo = a₀.size := by omega
    subst this
    exact ⟨rfl, hB1, hc1⟩
  . rintro c st1 ⟨rfl, hB1, hc1⟩
    dsimp only
    refine wpS_bind (wpS_mono (wpS_forRange (I := fun x c st' => c = (none, ()) /\ SB κ a₀ st' /\ Chn f (arrOf st') 0 (pendingOf st').toList a₀.size /\ ((pendingOf st').size + x <= a₀.size ∨ (pendingOf st').size <= 1))
      (Q := fun c st' => c = (none, ()) /\ SB κ a₀ st' /\ Chn f (arrOf st') 0 (pendingOf st').toList a₀.size /\ (pendingOf st').size <= 1) ?_ ?_ ?_) ?_)
    . rintro x c st2 _ hx ⟨rfl, hB2, hc2, hz2⟩
      refine wpS_bind (wpS_get ?_)
      by_cases h1 : (pendingOf st2).size <= 1
      . rw [if_pos h1]
        exact wpS_pure ⟨rfl, hB2, hc2, h1⟩
      rw [if_neg h1]
      have go : ∀ i, i + 1 < (pendingOf st2).size -> wpS M A E s (mergeAt' i >>= fun b => if (!b) = true then pure (ForInStep.done (some (), ())) else pure (ForInStep.yield ((none, ()) : Option Unit × Unit)))
          (fun r st' => match r with | .done c' => c' = (none, ()) /\ SB κ a₀ st' /\ Chn f (arrOf st') 0 (pendingOf st').toList a₀.size /\ (pendingOf st').size <= 1 | .yield c' => c' = (none, ()) /\ SB κ a₀ st' /\ Chn f (arrOf st') 0 (pendingOf st').toList a₀.size /\ ((pendingOf st').size + (x + 1) <= a₀.size ∨ (pendingOf st').size <= 1)) st2 := fun i hi => by
        refine wpS_bind (join_at L hB2 hc2 (yAA _) hi fun st3 hB3 hc3 hz3 _ => ?_)
        exact wpS_pure ⟨rfl, hB3, hc3, by omega⟩
      refine wpS_mono (go _ ?_) fun r st' z => by cases r <;> exact z
      exact Nat.lt_of_le_of_lt (Nat.add_le_add_right (ite_less _ _) 1) (by omega)
    . rintro c st2 ⟨rfl, hB2, hc2, hz2⟩
      exact ⟨rfl, hB2, hc2, by omega⟩
    . refine ⟨rfl, hB1, hc1, .inl ?_⟩
      have := hc1.le
      rw [yAL] at this
      omega
    . rintro c st2 ⟨rfl, hB2, hc2, hz2⟩
      refine wpS_pure (h st2 hB2 ?_)
      cases e : (pendingOf st2).toList with
      | nil =>
        rw [e] at hc2
        have : 0 = a₀.size := hc2
        omega
      | cons t r =>
        have hl := congrArg List.length e
        rw [yAL, yAF] at hl
        have hr : r = [] := List.length_eq_zero_iff.mp (by omega)
        subst hr
        obtain ⟨b, n, w⟩ := t
        rw [e] at hc2
        obtain ⟨_, _, hu, hn⟩ := hc2
        have : 0 + n = a₀.size := hn
        rw [yBP] at this
        rw [<- this]
        exact hu
end
end L2S
namespace L2S
open PySem PyProof.Rows
abbrev ZBW (h : Heap) (a : Addr) (vs : List Value) : Heap := ((h.update a (Obj.mapSeq fun _ => #[])).push (seqObj "tuple" vs.toArray 0)).push (seqObj "list" #[] 0)
section
variable {prog : Program} {w : World} {A : Around} {E : Value -> Shared -> Prop} {s : Shared}
theorem mid_old {h : Heap} {a b : Addr} {vs : List Value} {o : Obj} (hb : b ≠ a) (e : h.get? b = some o) : (ZBW h a vs).get? b = some o := by
  refine Heap.get?_push_of_some _ (Heap.get?_push_of_some _ ?_)
  exact (Heap.get?_update_other _ _ (Ne.symm hb)).trans e
theorem sort_any {a : Addr} {vs : List Value} {n : Nat} {κ : SortKind} {f : Keyed -> Int} {P : PySem.Fin -> Shared -> Prop} (ho : s.heap.get? a = some (seqObj "list" vs.toArray n)) (hz : vs.length <= 1000)
    (hkind : 2 <= vs.length -> ∀ Q' : SortKind -> Shared -> Prop, Q' κ { s with heap := ZBW s.heap a vs } -> wpAny (model prog w) A (keyKind' vs.toArray) Q' E { s with heap := ZBW s.heap a vs })
    (hask : 2 <= vs.length -> Asks (model prog w) A E { s with heap := ZBW s.heap a vs } κ (pairsOf vs) f)
    (h : ∀ out : Array Keyed, out.Perm (pairsOf vs) -> Up f out 0 vs.length -> P (.done (.ret .none)) { s with heap := sortedHeap s.heap a vs (out.map (·.2)) }) : wpAny (model prog w) A (Builtin.«list.sort» ⟨[.ref a], []⟩) P E s := by
  rw [list_sort_plain]
  have ha : a < s.heap.objs.size := Heap.lt_size ho
  refine wpAny_bind (listItems_at ho rfl ?_)
  refine wpAny_bind (listUpdate_at ho rfl ?_)
  obtain ⟨e1, ho1⟩ : ∃ e1, (s.heap.update a (Obj.mapSeq fun _ => #[])).get? a = some (seqObj "list" #[] e1) := ⟨_, get?_update_seq ho (fun _ => #[])⟩
  refine wpAny_bind (seqEpoch_at ho1 rfl ?_)
  refine wpAny_bind (wpAny_newTuple (wpAny_bind (wpAny_newList (wpAny_holding ?_))))
  have ho6 : (ZBW s.heap a vs).get? a = some (seqObj "list" #[] e1) := Heap.get?_push_of_some _ (Heap.get?_push_of_some _ ho1)
  show wpAny (model prog w) A _ P E { s with heap := ZBW s.heap a vs }
  dsimp only
  have hsz : vs.toArray.size = vs.length := yAS ..
  have hl : vs.length <= sizeLine := yAK hz (by decide)
  rw [hsz]
  by_cases h2 : vs.length < 2
  . rw [if_pos h2, if_pos h2]
    refine wpAny_bind (wpAny_pure ?_)
    rw [StateT.run_pure]
    refine wpAny_bind (wpAny_pure ?_)
    dsimp only
    refine wpAny_bind (seqEpoch_at ho6 rfl ?_)
    refine wpAny_bind (listUpdate_at ho6 rfl ?_ (hsz2 := by rw [Array.size_map]; show (pairsOf vs).size <= _; rw [pairsOf_size]; omega))
    rw [if_neg (by simp)]
    exact wpAny_pure (h (pairsOf vs) (Array.Perm.refl _) fun i j _ z2 z3 => by rw [show i = j by omega]; exact Int.le_refl _)
  . rw [if_neg h2, if_neg h2]
    refine wpAny_bind (hkind (by omega) _ ?_)
    refine wpAny_bind (wpAny_mono (sort_runs (st := SortSt.mk' κ (vs.toArray.zip vs.toArray) #[] 7 none) (Q := fun _ st' => SB κ (pairsOf vs) st' /\ Up f (arrOf st') 0 (pairsOf vs).size) (hask (by omega)) ⟨Array.Perm.refl _, rfl, rfl⟩ rfl (by rw [pairsOf_size]; omega) fun st' a1 a2 => ⟨a1, a2⟩) ?_ fun _ _ e => e)
    rintro ⟨⟨⟩, st'⟩ s' ⟨rfl, hB, hu⟩
    dsimp only
    refine wpAny_bind (seqEpoch_at ho6 rfl ?_)
    have hs : (arrOf st').size = (pairsOf vs).size := hB.size
    rw [pairsOf_size] at hs hu
    refine wpAny_bind (listUpdate_at ho6 rfl ?_ (hsz2 := by rw [Array.size_map]; omega))
    rw [hB.fail, if_neg (by simp)]
    exact wpAny_pure (h _ hB.perm hu)
theorem sorted_any {l : Addr} {vs : List Value} {κ : SortKind} {f : Keyed -> Int} {Q : Value -> Shared -> Prop} (hl : s.heap.IsList l vs.toArray) (hz : vs.length <= 1000)
    (hkind : ∀ h' : Heap, (∀ b o, s.heap.get? b = some o -> h'.get? b = some o) -> 2 <= vs.length -> ∀ (A' : Around) (E' : Value -> Shared -> Prop) (Q' : SortKind -> Shared -> Prop), A'.units <= A.units + 8 -> Q' κ { s with heap := h' } -> wpAny (model prog w) A' (keyKind' vs.toArray) Q' E' { s with heap := h' })
    (hask : ∀ h' : Heap, (∀ b o, s.heap.get? b = some o -> h'.get? b = some o) -> 2 <= vs.length -> ∀ (A' : Around) (E' : Value -> Shared -> Prop), A'.units <= A.units + 8 -> Asks (model prog w) A' E' { s with heap := h' } κ (pairsOf vs) f)
    (h : ∀ out : Array Keyed, out.Perm (pairsOf vs) -> Up f out 0 vs.length -> Q (.ref (s.heap.objs.size + 1)) { s with heap := sortedAll s.heap vs (out.map (·.2)) }) : wpAny (model prog w) A (call (.builtin "sorted") [.ref l]) Q E s := by
  refine Calls.call_function_entry kind_sorted plain_sorted entry_sorted (args_sorted1 _) ?_
  unfold Builtin.«sorted»
  refine wpAny_bind (m := checkCount "sorted" 1 1 _) (wpAny_pure ?_)
  refine wpAny_bind (collect_list hl ?_ (yAK hz (by decide)))
  refine wpAny_bind (wpAny_newList ?_)
  have z1 : ((s.heap.push (seqObj "list" #[] 0)).update s.heap.objs.size (Obj.mapSeq (· ++ vs.toArray))).objs.size = s.heap.objs.size + 1 := (Heap.size_update ..).trans (size_push' ..)
  have g1 : (((s.heap.push (seqObj "list" #[] 0)).update s.heap.objs.size (Obj.mapSeq (· ++ vs.toArray))).push (seqObj "list" vs.toArray 0)).get? (s.heap.objs.size + 1) = some (seqObj "list" vs.toArray 0) := by
    rw [<- z1]; exact Heap.get?_push_size _ rfl
  have old : ∀ b o, s.heap.get? b = some o -> (ZBW (((s.heap.push (seqObj "list" #[] 0)).update s.heap.objs.size (Obj.mapSeq (· ++ vs.toArray))).push (seqObj "list" vs.toArray 0)) (s.heap.objs.size + 1) vs).get? b = some o := fun b o e => by
    have lt := Heap.lt_size e
    refine mid_old (yAN (Nat.lt_succ_of_lt lt)) (Heap.get?_push_of_some _ ?_)
    exact (Heap.get?_update_other _ _ (Nat.ne_of_gt lt)).trans (Heap.get?_push_of_some _ e)
  show wpAny _ _ _ _ _ { s with heap := ((s.heap.push (seqObj "list" #[] 0)).update s.heap.objs.size (Obj.mapSeq (· ++ vs.toArray))).push (seqObj "list" vs.toArray 0) }
  rw [z1]
  refine wpAny_bind (wpAny_holding (wpAny_call_entry slot_list_sort ⟨_, g1, rfl⟩ entry_list_sort (sort_any g1 hz (fun h2 Q' q => hkind _ old h2 _ _ Q' ?_ q) (fun h2 => hask _ old h2 _ _ ?_) fun out a1 a2 => ⟨_, rfl, ?_⟩) (args_list_sort _)))
  . show A.units + 1 + 1 <= A.units + 8; omega
  . show A.units + 1 + 1 <= A.units + 8; omega
  . exact wpAny_pure ⟨_, rfl, h out a1 a2⟩
end
end L2S
namespace L2
open PySem PySem.Spec PyProof.Rows L2S
theorem kn_K {xs : Array Keyed} {i : Nat} : kn (fun p => numOf p.1) xs i = PyProof.Rows.K xs i := by
  unfold kn PyProof.Rows.K
  cases xs[i]? <;> rfl
section
variable {prog : Program} {w : World} {A : Around} {E : Value -> Shared -> Prop} {s : Shared}
theorem asks_ints {a₀ : Array Keyed} (h0 : IntKeys a₀) : Asks (model prog w) A E s oneType' a₀ fun p => numOf p.1 where
  lt := fun x y hx hy st Q hk q => by
    obtain ⟨n, t, e1⟩ := h0 x hx
    obtain ⟨m, u, e2⟩ := h0 y hy
    rw [lt'_eq]
    refine wpS_bind (wpS_get ?_)
    rw [hk, keyLt'_oneType]
    rw [e1, e2] at q ⊢
    exact wpS_bind (wpS_lift (wpAny_attempt (oneLt_int ⟨rfl, wpS_pure q⟩)))
theorem kind_of_ints {vs : List Value} {ns : List Int} (hI : IntsAre vs ns) (h2 : 2 <= vs.length) : keyKind' vs.toArray = pure oneType' := by
  cases vs with
  | nil => exact absurd h2 (by simp)
  | cons v₁ r =>
    cases r with
    | nil => exact absurd h2 (by simp)
    | cons v₂ r => exact keyKind_ints hI
theorem sorted_intsB {l : Addr} {vs : List Value} {ns : List Int} {Q : Value -> Shared -> Prop} (hl : s.heap.IsList l vs.toArray) (hI : IntsAre vs ns) (hz : vs.length <= 1000)
    (h : ∀ (out : Array Value) (ns' : List Int), IntsAre out.toList ns' -> ns'.Perm ns -> ns'.Pairwise (· <= ·) -> Q (.ref (s.heap.objs.size + 1)) { s with heap := sortedAll s.heap vs out }) : wpAny (model prog w) A (call (.builtin "sorted") [.ref l]) Q E s := by
  refine sorted_any (κ := oneType') (f := fun p => numOf p.1) hl hz (fun h' _ h2 A' E' Q' _ q => ?_) (fun h' _ h2 A' E' _ => asks_ints hI.intKeys) fun out hp hu => ?_
  . rw [kind_of_ints hI h2]
    exact wpAny_pure q
  . obtain ⟨ns', a1, a2, a3⟩ := sorted_out hI hp (fun i j z1 z2 => by
      rw [pairsOf_size] at z2
      have := hu i j (yAH _) z1 (by omega)
      rw [kn_K, kn_K] at this
      exact this)
    exact h _ ns' a1 a2 a3
end
section
variable {X : Cx}
theorem call_sortedB : ZCg X (.builtin "sorted") (fun xs H Q => ∃ (p : Addr) (ns : List Int), xs = [.ref p] /\ SqL X.K H p (ns.map V.int) /\ ns.length <= 1000 /\ ∀ (l : Addr) (ms : List Int), H l = none -> ms.Perm ns -> ms.Pairwise (· <= ·) -> Q (.ref l) (upd H l (.lst (ms.map V.int)))) := by
  intro pins s σ H xs us Q I r h
  obtain ⟨p, ns, rfl, hq, hn, q⟩ := h
  obtain ⟨u, rfl, rx⟩ := ZDH r
  cases rx
  obtain ⟨its, r', pl, hz⟩ := I.list hq
  have hlen := r'.length
  rw [yAB] at hlen
  refine sorted_intsB pl.isList (intsAre_of r') (by omega) fun out ns' a1 a2 a3 => ?_
  obtain ⟨e, he⟩ := sortedAll_at s.heap its out
  have hl' : ns'.length = ns.length := a2.length_eq
  refine ⟨.ref (s.heap.objs.size + 1), _, I.laid (t' := s.toks) (fun b o e => sortedAll_old e) (yAY _) (o := .lst (ns'.map V.int)) ⟨?_, out.toList, e, ZB3 a1, by simpa using he⟩, rfl, q _ ns' (I.hok.fresh (yAY _)) a2 a3⟩
  rw [yAB]
  exact ZAX (by omega)
end
open PySem PySem.Spec PyProof.Rows L2S
def lxP (x y : Int × Int) : Prop := x.1 < y.1 ∨ (x.1 = y.1 /\ x.2 < y.2)
instance (x y : Int × Int) : Decidable (lxP x y) := by unfold lxP; exact inferInstance
abbrev PrA := Addr × Int × Int
def ZCh (zs : List PrA) (v : Int × Int) : Nat := zs.countP fun z => decide (lxP z.2 v)
theorem rank_lt {zs : List PrA} {x : PrA} {v : Int × Int} (hx : x ∈ zs) : ZCh zs x.2 < ZCh zs v ↔ lxP x.2 v := by
  have mono : ∀ (l : List PrA) (a b : Int × Int), (∀ z : Int × Int, lxP z a -> lxP z b) -> l.countP (fun z => decide (lxP z.2 a)) <= l.countP (fun z => decide (lxP z.2 b)) := fun l a b h =>
    List.countP_mono_left fun z _ e => decide_eq_true (h _ (of_decide_eq_true e))
  constructor
  . intro h
    by_cases e : lxP x.2 v
    . exact e
    . have := mono zs v x.2 fun z hz => by unfold lxP at *; omega
      unfold ZCh at h
      omega
  . intro h
    obtain ⟨s, t, rfl⟩ := List.append_of_mem hx
    unfold ZCh
    rw [List.countP_append, List.countP_append, List.countP_cons, List.countP_cons]
    have m : ∀ z : Int × Int, lxP z x.2 -> lxP z v := fun z hz => by unfold lxP at *; omega
    have h1 := mono s x.2 v m
    have h2 := mono t x.2 v m
    have h3 : decide (lxP x.2 x.2) = false := decide_eq_false (by unfold lxP; omega)
    rw [h3, decide_eq_true h]
    simp only [Bool.false_eq_true, if_false, if_true]
    omega
section
variable {prog : Program} {w : World} {A : Around} {E : Value -> Shared -> Prop} {s : Shared}
def PairAt (h : Heap) (z : PrA) : Prop := ∃ o t u n, h.get? z.1 = some o /\ o.cls = .type "tuple" /\ o.data = .seq #[.int z.2.1 t, .int z.2.2 u] n
theorem PairAt.keep {h h' : Heap} {z : PrA} (p : PairAt h z) (k : ∀ b o, h.get? b = some o -> h'.get? b = some o) : PairAt h' z := let ⟨o, t, u, n, a, b, c⟩ := p; ⟨o, t, u, n, k _ _ a, b, c⟩
def ZEB (zs : List PrA) : Value -> Int × Int
  | .ref a => ((zs.find? fun z => decide (z.1 = a)).map (·.2)).getD (0, 0)
  | _ => (0, 0)
theorem ZDn {h : Heap} {zs : List PrA} (hp : ∀ z ∈ zs, PairAt h z) {z : PrA} (hz : z ∈ zs) : ZEB zs (.ref z.1) = z.2 := by
  show ((zs.find? fun y => decide (y.1 = z.1)).map (·.2)).getD (0, 0) = z.2
  cases e : zs.find? fun y => decide (y.1 = z.1) with
  | none => exact absurd (List.find?_eq_none.mp e z hz) (by simp)
  | some y =>
    have h1 : y.1 = z.1 := by simpa using List.find?_some e
    have h2 := List.mem_of_find?_eq_some e
    obtain ⟨o, t, u, n, a1, _, a3⟩ := hp y h2
    obtain ⟨o', t', u', n', b1, _, b3⟩ := hp z hz
    rw [h1, b1] at a1
    cases a1
    rw [b3] at a3
    have e1 : y.2 = z.2 := by
      injection a3 with a4 a5
      have a6 := congrArg Array.toList a4
      simp at a6
      exact Prod.ext a6.1.1.symm a6.2.1.symm
    exact e1
theorem kat_ints {a b a' b' : Int} {t u t' u' : Tok} {Q : Bool -> Shared -> Prop} (h : Q (decide (lxP (a, b) (a', b'))) s) : PySem.W.KatLex prog w A true false Q [(.int a t, .int a' t'), (.int b u, .int b' u')] 0 s := by
  refine PySem.W.kat_cons (wpAny_eqBool_int ?_)
  by_cases e : a = a'
  . rw [show (a == a') = true by simpa using e]
    refine PySem.W.kat_yes (PySem.W.kat_cons (wpAny_eqBool_int ?_))
    by_cases e2 : b = b'
    . rw [show (b == b') = true by simpa using e2]
      refine PySem.W.kat_yes (PySem.W.kat_nil ?_)
      rw [decide_eq_false (by unfold lxP; dsimp only; omega)] at h
      exact h
    . rw [show (b == b') = false by simpa using e2]
      refine PySem.W.kat_no (PySem.W.kat_one _ _ (lt_int ?_))
      have e3 : decide (lxP (a, b) (a', b')) = decide (b < b') := by
        by_cases z : b < b'
        . rw [decide_eq_true z]; exact decide_eq_true (by unfold lxP; dsimp only; omega)
        . rw [decide_eq_false z]; exact decide_eq_false (by unfold lxP; dsimp only; omega)
      rw [e3] at h
      exact h
  . rw [show (a == a') = false by simpa using e]
    refine PySem.W.kat_no ?_
    have e3 : decide (lxP (a, b) (a', b')) = decide (a < a') := by
      by_cases z : a < a'
      . rw [decide_eq_true z]; exact decide_eq_true (by unfold lxP; dsimp only; omega)
      . rw [decide_eq_false z]; exact decide_eq_false (by unfold lxP; dsimp only; omega)
    rw [e3] at h
    exact oneLt_int h
theorem asks_pairs {zs : List PrA} (hp : ∀ z ∈ zs, PairAt s.heap z) : Asks (model prog w) A E s (tuples' true) (pairsOf (zs.map fun z => Value.ref z.1)) fun p => (ZCh zs (ZEB zs p.1) : Int) where
  lt := fun x y hx hy st Q hk q => by
    have of : ∀ p : Keyed, p ∈ (pairsOf (zs.map fun z => Value.ref z.1)).toList -> ∃ z ∈ zs, p.1 = .ref z.1 := fun p hpm => by
      rw [pairsOf_toList] at hpm
      obtain ⟨z, hz, e⟩ := yBB.mp (mem_zip_self hpm).2
      exact ⟨z, hz, e.symm⟩
    obtain ⟨z, hz, ez⟩ := of x hx
    obtain ⟨y', hy', ey⟩ := of y hy
    rw [ez, ey, ZDn hp hz, ZDn hp hy'] at q
    have er : decide ((ZCh zs z.2 : Int) < (ZCh zs y'.2 : Int)) = decide (lxP z.2 y'.2) := by
      have := rank_lt (v := y'.2) hz
      by_cases e : lxP z.2 y'.2
      . rw [decide_eq_true e]; exact decide_eq_true (by have := this.mpr e; omega)
      . rw [decide_eq_false e]; exact decide_eq_false (fun c => e (this.mp (by omega)))
    rw [er] at q
    rw [lt'_eq]
    refine wpS_bind (wpS_get ?_)
    rw [hk, ez, ey]
    obtain ⟨o, t, u, n, a1, a2, a3⟩ := hp z hz
    obtain ⟨o', t', u', n', b1, b2, b3⟩ := hp y' hy'
    exact wpS_bind (wpS_lift (wpAny_attempt (PySem.W.kat_lt a1 a3 b1 b3 (kat_ints ⟨rfl, wpS_pure q⟩))))
theorem tups_of {h : Heap} : ∀ {zs : List PrA}, (∀ z ∈ zs, PairAt h z) -> ∃ fs, PySem.W.KatTups h (zs.map fun z => Value.ref z.1) fs /\ fs.length = zs.length /\ ∀ v ∈ fs, ∃ n t, v = Value.int n t
  | [], _ => ⟨[], trivial, rfl, fun v h => by cases h⟩
  | z :: r, hp => by
    obtain ⟨fs, f1, f2, f3⟩ := tups_of (zs := r) fun y hy => hp y (yAJ _ hy)
    obtain ⟨o, t, u, n, a1, a2, a3⟩ := hp z yAE
    refine ⟨.int z.2.1 t :: fs, PySem.W.KatTups.cons a1 a2 a3 rfl f1, by rw [yAF, yAF, f2], fun v hv => ?_⟩
    rcases yAD.mp hv with e | e
    . exact ⟨_, _, e⟩
    . exact f3 v e
theorem perm_map {α β : Type} (g : α -> β) : ∀ {l : List β} {zs : List α}, l.Perm (zs.map g) -> ∃ ms : List α, ms.Perm zs /\ l = ms.map g
  | [], zs, h => by
    have : zs = [] := by
      have := h.length_eq
      rw [yBW, yAB] at this
      exact List.length_eq_zero_iff.mp this.symm
    subst this
    exact ⟨[], .nil, rfl⟩
  | x :: r, zs, h => by
    obtain ⟨z, hz, e⟩ := yBB.mp (h.mem_iff.mp yAE)
    obtain ⟨a, b, rfl⟩ := List.append_of_mem hz
    have h2 : (x :: r).Perm (x :: (a ++ b).map g) := by
      refine h.trans ?_
      rw [yAW, yAT, e, yAW]
      exact List.perm_middle
    obtain ⟨ms, m1, m2⟩ := perm_map g (List.Perm.cons_inv h2)
    exact ⟨z :: ms, (m1.cons z).trans List.perm_middle.symm, by rw [m2, yAT, e]⟩
theorem sorted_pairs {l : Addr} {zs : List PrA} {Q : Value -> Shared -> Prop} (hl : s.heap.IsList l (zs.map fun z => Value.ref z.1).toArray) (hp : ∀ z ∈ zs, PairAt s.heap z) (hz : zs.length <= 1000)
    (h : ∀ (ms : List PrA), ms.Perm zs -> ms.Pairwise (fun x y => ¬ lxP y.2 x.2) -> Q (.ref (s.heap.objs.size + 1)) { s with heap := sortedAll s.heap (zs.map fun z => Value.ref z.1) (ms.map fun z => Value.ref z.1).toArray }) : wpAny (model prog w) A (call (.builtin "sorted") [.ref l]) Q E s := by
  refine sorted_any (κ := tuples' true) (f := fun p => (ZCh zs (ZEB zs p.1) : Int)) hl (by rw [yAB]; exact hz) (fun h' k h2 A' E' Q' _ q => ?_) (fun h' k h2 A' E' _ => asks_pairs (s := { s with heap := h' }) fun z hz => (hp z hz).keep k) fun out ho hu => ?_
  . obtain ⟨fs, f1, f2, f3⟩ := tups_of (h := h') fun z hz => (hp z hz).keep k
    rw [yAB] at h2
    refine PySem.W.kat_kind (T := .type "int") f1 (by omega) (fun v hv => ?_) rfl q
    obtain ⟨n, t, rfl⟩ := f3 v hv
    exact .now
  . have hl2 : out.toList.Perm (zs.map fun z => ((Value.ref z.1, Value.ref z.1) : Keyed)) := by
      have := Array.perm_iff_toList_perm.mp ho
      rw [pairsOf_toList] at this
      rw [show (zs.map fun z => ((Value.ref z.1, Value.ref z.1) : Keyed)) = (zs.map fun z => Value.ref z.1).zip (zs.map fun z => Value.ref z.1) by rw [List.zip_map']]
      exact this
    obtain ⟨ms, m1, m2⟩ := perm_map _ hl2
    have e : out.map (·.2) = (ms.map fun z => Value.ref z.1).toArray := by
      apply Array.toList_inj.mp
      rw [Array.toList_map, m2, List.map_map]
      rfl
    rw [e]
    refine h ms m1 ?_
    rw [List.pairwise_iff_getElem]
    intro i j hi hj hij hlt
    have hln : ms.length = zs.length := m1.length_eq
    have at' : ∀ k (hk : k < ms.length), kn (fun p => (ZCh zs (ZEB zs p.1) : Int)) out k = ZCh zs ms[k].2 := fun k hk => by
      have : out[k]? = some ((Value.ref ms[k].1, Value.ref ms[k].1) : Keyed) := by
        rw [<- yBD, m2, yAR, yAM hk]
        rfl
      rw [ZA5 this]
      dsimp only
      rw [ZDn hp (m1.mem_iff.mp (List.getElem_mem hk))]
    have z := hu i j (yAH _) (yBI hij) (by rw [yAB]; omega)
    rw [at' i hi, at' j hj] at z
    have := (rank_lt (zs := zs) (v := ms[i].2) (m1.mem_iff.mp (List.getElem_mem hj))).mpr hlt
    omega
end
theorem vals_refs : ∀ {zs : List PrA} {its : List Value}, Vals (zs.map fun z => V.ref z.1) its -> its = zs.map fun z => Value.ref z.1
  | [], _, .nil => rfl
  | z :: r, _, .cons a b => by
    have e := vals_refs b
    cases a
    rw [e]
    rfl
theorem refs_vals : ∀ ms : List PrA, Vals (ms.map fun z => V.ref z.1) (ms.map fun z => Value.ref z.1)
  | [] => .nil
  | _ :: r => .cons rfl (refs_vals r)
section
variable {X : Cx}
theorem call_sortedT : ZCg X (.builtin "sorted") (fun xs H Q => ∃ (p : Addr) (zs : List PrA), xs = [.ref p] /\ SqL X.K H p (zs.map fun z => V.ref z.1) /\ (∀ z ∈ zs, SqT X.K H z.1 [.int z.2.1, .int z.2.2]) /\ zs.length <= 1000 /\ ∀ (l : Addr) (ms : List PrA), H l = none -> ms.Perm zs -> ms.Pairwise (fun x y => ¬ lxP y.2 x.2) -> Q (.ref l) (upd H l (.lst (ms.map fun z => V.ref z.1)))) := by
  intro pins s σ H xs us Q I r h
  obtain ⟨p, zs, rfl, hq, hz, hn, q⟩ := h
  obtain ⟨u, rfl, rx⟩ := ZDH r
  cases rx
  obtain ⟨its, r', pl, hzl⟩ := I.list hq
  obtain rfl := vals_refs r'
  have hpa : ∀ z ∈ zs, PairAt s.heap z := fun z hzm => by
    obtain ⟨it, rt, pt, _⟩ := I.tuple (hz z hzm)
    obtain ⟨a, b, rfl, ⟨t, rfl⟩, ⟨t', rfl⟩⟩ := ZEA rt
    obtain ⟨o, ho, hc, n, hd⟩ := pt
    exact ⟨o, t, t', n, ho, hc, hd⟩
  refine sorted_pairs pl.isList hpa hn fun ms m1 m2 => ?_
  obtain ⟨e, he⟩ := sortedAll_at s.heap (zs.map fun z => Value.ref z.1) (ms.map fun z => Value.ref z.1).toArray
  have hln : ms.length = zs.length := m1.length_eq
  refine ⟨.ref (s.heap.objs.size + 1), _, I.laid (t' := s.toks) (fun b o e => sortedAll_old e) (yAY _) (o := .lst (ms.map fun z => V.ref z.1)) ⟨?_, (ms.map fun z => Value.ref z.1), e, refs_vals ms, he⟩, rfl, q _ ms (I.hok.fresh (yAY _)) m1 m2⟩
  rw [yAB]
  exact ZAX (by omega)
end
end L2
namespace L2S
open PySem PyProof.Rows L2
section
variable {prog : Program} {w : World} {A : Around} {E : Value -> Shared -> Prop} {s : Shared}
theorem sort_intsR {a : Addr} {vs : List Value} {ns : List Int} {n : Nat} {P : PySem.Fin -> Shared -> Prop} (ho : s.heap.get? a = some (seqObj "list" vs.toArray n)) (hI : IntsAre vs ns) (hz : vs.length <= 1000)
    (h : ∀ (out : Array Value) (ns' : List Int), IntsAre out.toList ns' -> ns'.Perm ns -> Ordered true ns' -> P (.done (.ret .none)) { s with heap := sortedHeap s.heap a vs out }) : wpAny (model prog w) A (Builtin.«list.sort» ⟨[.ref a], [(Str.ofString "reverse", .bool true)]⟩) P E s := by
  rw [list_sort_rev]
  have ha : a < s.heap.objs.size := Heap.lt_size ho
  refine wpAny_bind (listItems_at ho rfl ?_)
  refine wpAny_bind (listUpdate_at ho rfl ?_)
  obtain ⟨e1, ho1⟩ : ∃ e1, (s.heap.update a (Obj.mapSeq fun _ => #[])).get? a = some (seqObj "list" #[] e1) := ⟨_, get?_update_seq ho (fun _ => #[])⟩
  refine wpAny_bind (seqEpoch_at ho1 rfl ?_)
  refine wpAny_bind (wpAny_newTuple (wpAny_bind (wpAny_newList (wpAny_holding ?_))))
  have ho6 : (ZBW s.heap a vs).get? a = some (seqObj "list" #[] e1) := Heap.get?_push_of_some _ (Heap.get?_push_of_some _ ho1)
  show wpAny (model prog w) A _ P E { s with heap := ZBW s.heap a vs }
  dsimp only
  rw [if_pos rfl]
  refine wpAny_bind (wpAny_rule ?_)
  have hsz : vs.toArray.size = vs.length := yAS ..
  have hl : vs.length <= sizeLine := yAK hz (by decide)
  rw [hsz]
  have hst : (if true = true then (vs.toArray.zip vs.toArray).reverse else vs.toArray.zip vs.toArray).Perm (pairsOf vs) := Array.perm_iff_toList_perm.mpr (by rw [if_pos rfl, yCC]; exact List.reverse_perm _)
  have fin : ∀ xs : Array Keyed, xs.Perm (pairsOf vs) -> Up (fun p => numOf p.1) xs 0 vs.length -> P (.done (.ret .none)) { s with heap := sortedHeap s.heap a vs (xs.map (·.2)).reverse } := by
    intro xs hp hu
    obtain ⟨ns', h1, h2, h3⟩ := sorted_out_rev hI hp (fun i j z1 z2 => by
      rw [pairsOf_size] at z2
      have := hu i j (yAH _) z1 (by omega)
      rw [kn_K, kn_K] at this
      exact this) true
    exact h _ ns' h1 h2 h3
  by_cases h2 : vs.length < 2
  . rw [if_pos h2, if_pos h2]
    refine wpAny_bind (wpAny_pure ?_)
    rw [StateT.run_pure]
    refine wpAny_bind (wpAny_pure ?_)
    dsimp only
    refine wpAny_bind (seqEpoch_at ho6 rfl ?_)
    refine wpAny_bind (listUpdate_at ho6 rfl ?_ (hsz2 := by rw [if_pos rfl, Array.size_reverse, Array.size_map]; have := hst.size_eq; rw [pairsOf_size] at this; show (if true = true then (vs.toArray.zip vs.toArray).reverse else vs.toArray.zip vs.toArray).size <= _; omega))
    rw [if_neg (by simp)]
    exact wpAny_pure (fin _ hst fun i j _ z2 z3 => by rw [show i = j by omega]; exact Int.le_refl _)
  . rw [if_neg h2, if_neg h2, kind_of_ints hI (by omega)]
    refine wpAny_bind (wpAny_pure ?_)
    refine wpAny_bind (wpAny_mono (sort_runs (st := SortSt.mk' oneType' (if true = true then (vs.toArray.zip vs.toArray).reverse else vs.toArray.zip vs.toArray) #[] 7 none) (f := fun p => numOf p.1) (Q := fun _ st' => SB oneType' (pairsOf vs) st' /\ Up (fun p => numOf p.1) (arrOf st') 0 (pairsOf vs).size) (asks_ints hI.intKeys) ⟨hst, rfl, rfl⟩ rfl (by rw [pairsOf_size]; omega) fun st' a1 a2 => ⟨a1, a2⟩) ?_ fun _ _ e => e)
    rintro ⟨⟨⟩, st'⟩ s' ⟨rfl, hB, hu⟩
    dsimp only
    refine wpAny_bind (seqEpoch_at ho6 rfl ?_)
    have hs : (arrOf st').size = (pairsOf vs).size := hB.size
    rw [pairsOf_size] at hs hu
    refine wpAny_bind (listUpdate_at ho6 rfl ?_ (hsz2 := by rw [if_pos rfl, Array.size_reverse, Array.size_map]; omega))
    rw [hB.fail, if_neg (by simp)]
    exact wpAny_pure (fin _ hB.perm hu)
theorem sorted_intsR {l : Addr} {vs : List Value} {ns : List Int} {Q : Value -> Shared -> Prop} (hl : s.heap.IsList l vs.toArray) (hI : IntsAre vs ns) (hz : vs.length <= 1000)
    (h : ∀ (out : Array Value) (ns' : List Int), IntsAre out.toList ns' -> ns'.Perm ns -> Ordered true ns' -> Q (.ref (s.heap.objs.size + 1)) { s with heap := sortedAll s.heap vs out }) :
    wpAny (model prog w) A (call (.builtin "sorted") [.ref l] [(Str.ofString "reverse", .bool true)]) Q E s := by
  refine call_function_entry_kw kind_sorted plain_sorted entry_sorted (args_sorted_rev _ _) ?_
  unfold Builtin.«sorted»
  refine wpAny_bind (m := checkCount "sorted" 1 1 _) (wpAny_pure ?_)
  refine wpAny_bind (collect_list hl ?_ (yAK hz (by decide)))
  refine wpAny_bind (wpAny_newList ?_)
  have hsz : ((s.heap.push (seqObj "list" #[] 0)).update s.heap.objs.size (Obj.mapSeq (· ++ vs.toArray))).objs.size = s.heap.objs.size + 1 := by
    rw [Heap.size_update, size_push']
  have hoL : (((s.heap.push (seqObj "list" #[] 0)).update s.heap.objs.size (Obj.mapSeq (· ++ vs.toArray))).push (seqObj "list" vs.toArray 0)).get? (s.heap.objs.size + 1) = some (seqObj "list" vs.toArray 0) := by
    rw [<- hsz]; exact Heap.get?_push_size _ rfl
  show wpAny _ _ _ _ _ { s with heap := ((s.heap.push (seqObj "list" #[] 0)).update s.heap.objs.size (Obj.mapSeq (· ++ vs.toArray))).push (seqObj "list" vs.toArray 0) }
  rw [hsz]
  refine wpAny_bind (wpAny_holding (wpAny_call_entry_kw slot_list_sort ⟨_, hoL, rfl⟩ entry_list_sort (sort_intsR hoL hI hz fun out ns' a1 a2 a3 => ⟨_, rfl, ?_⟩) (args_list_sort_rev _ _)))
  exact wpAny_pure ⟨_, rfl, h out ns' a1 a2 a3⟩
end
end L2S
namespace L2
open PySem PySem.Spec PyProof.Rows L2S
section
variable {X : Cx} {e d : Expr} {te td : TE} {p pos : Pos} {kpos : Pos}
def ZDo (K : W.Frag) (te td : TE) : TE := fun σ H Q => te σ H fun x H1 => td σ H1 fun y H2 => ∃ a ns, x = .ref a /\ y = .bl true /\ SqL K H2 a (ns.map V.int) /\ ns.length <= 1000 /\ ∀ (l : Addr) (ms : List Int), H2 l = none -> ms.Perm ns -> ms.Pairwise (· ≥ ·) -> Q (.ref l) (upd H2 l (.lst (ms.map V.int)))
theorem pe_sortR (he : PE X e te) (hd : PE X d td) (hg : Gl X "sorted") (hm : X.mg "sorted" = none)
    (h1 : starEach [e] X.env = (false, eval e X.env) :: starEach [] X.env := by rfl) (h2 : backTo pos (starEach [e] X.env) = (false, eval e X.env) :: backTo pos (starEach [] X.env) := by rfl)
    (h3 : (backTo pos (starEach [e] X.env)).any (·.1) = false := by rfl) (h4 : (backToKw pos (keywordEach [⟨some "reverse", d, kpos⟩] X.env)).all (·.1.isSome) = true := by rfl)
    (h5 : (backToKw pos (keywordEach [⟨some "reverse", d, kpos⟩] X.env)).any (·.1.isNone) = false := by rfl) :
    PE X (.Call (.Name "sorted" p) [e] [⟨some "reverse", d, kpos⟩] pos) (ZDo X.K te td) := by
  intro pins s σ H Q I h
  refine wpAny_Call_Name_kw (ZCq I hg hm PyProof.Rows.boot_sorted ?_ (by decide) (by decide))
  refine PyProof.Rows.callWith_kw ?_ h2 h3 h4 h5
  rw [h1]
  show wpAny _ _ (spliced ((false, eval e X.env) :: backTo pos (starEach [] X.env))) _ _ s
  refine Calls.spliced_cons (thn (he pins s σ H _ I h) fun u s1 ⟨x, H1, I1, r1, q1⟩ => ?_)
  refine Calls.spliced_nil ?_
  have q1' : ZBu td tNil σ H1 (fun zs H2 => match zs with | [y] => ∃ a ns, x = .ref a /\ y = .bl true /\ SqL X.K H2 a (ns.map V.int) /\ ns.length <= 1000 /\ ∀ (l : Addr) (ms : List Int), H2 l = none -> ms.Perm ns -> ms.Pairwise (· ≥ ·) -> Q (.ref l) (upd H2 l (.lst (ms.map V.int))) | _ => False) := q1
  refine thn (pk_cons (nm := some "reverse") (kpos := kpos) hd (pk_nil (X := X)) pos pins s1 σ H1 _ I1 q1') fun kvs s2 ⟨zs, H2, I2, r2, q2⟩ => ?_
  match zs, r2, q2 with
  | [y], .cons ry .nil, ⟨a, ns, ex, ey, hS, hn, q⟩ =>
    subst ex ey
    cases r1
    cases ry
    obtain ⟨its, rv, pl, _⟩ := I2.list hS
    have hlen := rv.length
    rw [yAB] at hlen
    refine sorted_intsR pl.isList (intsAre_of rv) (by omega) fun out ns' a1 a2 a3 => ?_
    obtain ⟨e, he⟩ := sortedAll_at s2.heap its out
    have hl' : ns'.length = ns.length := a2.length_eq
    refine ⟨.ref (s2.heap.objs.size + 1), _, I2.laid (t' := s2.toks) (fun b o e => sortedAll_old e) (yAY _) (o := .lst (ns'.map V.int)) ⟨?_, out.toList, e, ZB3 a1, by simpa using he⟩, rfl, q _ ns' (I2.hok.fresh (yAY _)) a2 a3⟩
    rw [yAB]
    exact ZAX (by omega)
end
open PySem
theorem tVar_1 {v : V} {a0 : Option V} {σ : St} {H : Hp} {Q : VK} : tVar 1 (a0 :: some v :: σ) H Q = Q v H := by
  simp only [ZAc, ZAa]
theorem tVar_2 {v : V} {a0 a1 : Option V} {σ : St} {H : Hp} {Q : VK} : tVar 2 (a0 :: a1 :: some v :: σ) H Q = Q v H := by
  simp only [ZAc, ZAa]
theorem tVar_3 {v : V} {a0 a1 a2 : Option V} {σ : St} {H : Hp} {Q : VK} : tVar 3 (a0 :: a1 :: a2 :: some v :: σ) H Q = Q v H := by
  simp only [ZAc, ZAa]
theorem tVar_4 {v : V} {a0 a1 a2 a3 : Option V} {σ : St} {H : Hp} {Q : VK} : tVar 4 (a0 :: a1 :: a2 :: a3 :: some v :: σ) H Q = Q v H := by
  simp only [ZAc, ZAa]
theorem tVar_5 {v : V} {a0 a1 a2 a3 a4 : Option V} {σ : St} {H : Hp} {Q : VK} : tVar 5 (a0 :: a1 :: a2 :: a3 :: a4 :: some v :: σ) H Q = Q v H := by
  simp only [ZAc, ZAa]
theorem tVar_6 {v : V} {a0 a1 a2 a3 a4 a5 : Option V} {σ : St} {H : Hp} {Q : VK} : tVar 6 (a0 :: a1 :: a2 :: a3 :: a4 :: a5 :: some v :: σ) H Q = Q v H := by
  simp only [ZAc, ZAa]
theorem tVar_7 {v : V} {a0 a1 a2 a3 a4 a5 a6 : Option V} {σ : St} {H : Hp} {Q : VK} : tVar 7 (a0 :: a1 :: a2 :: a3 :: a4 :: a5 :: a6 :: some v :: σ) H Q = Q v H := by
  simp only [ZAc, ZAa]
theorem tVar_8 {v : V} {a0 a1 a2 a3 a4 a5 a6 a7 : Option V} {σ : St} {H : Hp} {Q : VK} : tVar 8 (a0 :: a1 :: a2 :: a3 :: a4 :: a5 :: a6 :: a7 :: some v :: σ) H Q = Q v H := by
  simp only [ZAc, ZAa]
theorem tVar_9 {v : V} {a0 a1 a2 a3 a4 a5 a6 a7 a8 : Option V} {σ : St} {H : Hp} {Q : VK} : tVar 9 (a0 :: a1 :: a2 :: a3 :: a4 :: a5 :: a6 :: a7 :: a8 :: some v :: σ) H Q = Q v H := by
  simp only [ZAc, ZAa]
theorem tVar_10 {v : V} {a0 a1 a2 a3 a4 a5 a6 a7 a8 a9 : Option V} {σ : St} {H : Hp} {Q : VK} : tVar 10 (a0 :: a1 :: a2 :: a3 :: a4 :: a5 :: a6 :: a7 :: a8 :: a9 :: some v :: σ) H Q = Q v H := by
  simp only [ZAc, ZAa]
theorem tVar_11 {v : V} {a0 a1 a2 a3 a4 a5 a6 a7 a8 a9 a10 : Option V} {σ : St} {H : Hp} {Q : VK} : tVar 11 (a0 :: a1 :: a2 :: a3 :: a4 :: a5 :: a6 :: a7 :: a8 :: a9 :: a10 :: some v :: σ) H Q = Q v H := by
  simp only [ZAc, ZAa]
theorem tVar_12 {v : V} {a0 a1 a2 a3 a4 a5 a6 a7 a8 a9 a10 a11 : Option V} {σ : St} {H : Hp} {Q : VK} : tVar 12 (a0 :: a1 :: a2 :: a3 :: a4 :: a5 :: a6 :: a7 :: a8 :: a9 :: a10 :: a11 :: some v :: σ) H Q = Q v H := by
  simp only [ZAc, ZAa]
theorem tVar_13 {v : V} {a0 a1 a2 a3 a4 a5 a6 a7 a8 a9 a10 a11 a12 : Option V} {σ : St} {H : Hp} {Q : VK} : tVar 13 (a0 :: a1 :: a2 :: a3 :: a4 :: a5 :: a6 :: a7 :: a8 :: a9 :: a10 :: a11 :: a12 :: some v :: σ) H Q = Q v H := by
  simp only [ZAc, ZAa]
theorem tVar_14 {v : V} {a0 a1 a2 a3 a4 a5 a6 a7 a8 a9 a10 a11 a12 a13 : Option V} {σ : St} {H : Hp} {Q : VK} : tVar 14 (a0 :: a1 :: a2 :: a3 :: a4 :: a5 :: a6 :: a7 :: a8 :: a9 :: a10 :: a11 :: a12 :: a13 :: some v :: σ) H Q = Q v H := by
  simp only [ZAc, ZAa]
theorem tVar_15 {v : V} {a0 a1 a2 a3 a4 a5 a6 a7 a8 a9 a10 a11 a12 a13 a14 : Option V} {σ : St} {H : Hp} {Q : VK} : tVar 15 (a0 :: a1 :: a2 :: a3 :: a4 :: a5 :: a6 :: a7 :: a8 :: a9 :: a10 :: a11 :: a12 :: a13 :: a14 :: some v :: σ) H Q = Q v H := by
  simp only [ZAc, ZAa]
theorem tVar_16 {v : V} {a0 a1 a2 a3 a4 a5 a6 a7 a8 a9 a10 a11 a12 a13 a14 a15 : Option V} {σ : St} {H : Hp} {Q : VK} : tVar 16 (a0 :: a1 :: a2 :: a3 :: a4 :: a5 :: a6 :: a7 :: a8 :: a9 :: a10 :: a11 :: a12 :: a13 :: a14 :: a15 :: some v :: σ) H Q = Q v H := by
  simp only [ZAc, ZAa]
theorem tVar_17 {v : V} {a0 a1 a2 a3 a4 a5 a6 a7 a8 a9 a10 a11 a12 a13 a14 a15 a16 : Option V} {σ : St} {H : Hp} {Q : VK} : tVar 17 (a0 :: a1 :: a2 :: a3 :: a4 :: a5 :: a6 :: a7 :: a8 :: a9 :: a10 :: a11 :: a12 :: a13 :: a14 :: a15 :: a16 :: some v :: σ) H Q = Q v H := by
  simp only [ZAc, ZAa]
theorem tVar_18 {v : V} {a0 a1 a2 a3 a4 a5 a6 a7 a8 a9 a10 a11 a12 a13 a14 a15 a16 a17 : Option V} {σ : St} {H : Hp} {Q : VK} : tVar 18 (a0 :: a1 :: a2 :: a3 :: a4 :: a5 :: a6 :: a7 :: a8 :: a9 :: a10 :: a11 :: a12 :: a13 :: a14 :: a15 :: a16 :: a17 :: some v :: σ) H Q = Q v H := by
  simp only [ZAc, ZAa]
theorem tVar_19 {v : V} {a0 a1 a2 a3 a4 a5 a6 a7 a8 a9 a10 a11 a12 a13 a14 a15 a16 a17 a18 : Option V} {σ : St} {H : Hp} {Q : VK} : tVar 19 (a0 :: a1 :: a2 :: a3 :: a4 :: a5 :: a6 :: a7 :: a8 :: a9 :: a10 :: a11 :: a12 :: a13 :: a14 :: a15 :: a16 :: a17 :: a18 :: some v :: σ) H Q = Q v H := by
  simp only [ZAc, ZAa]
theorem tVar_20 {v : V} {a0 a1 a2 a3 a4 a5 a6 a7 a8 a9 a10 a11 a12 a13 a14 a15 a16 a17 a18 a19 : Option V} {σ : St} {H : Hp} {Q : VK} : tVar 20 (a0 :: a1 :: a2 :: a3 :: a4 :: a5 :: a6 :: a7 :: a8 :: a9 :: a10 :: a11 :: a12 :: a13 :: a14 :: a15 :: a16 :: a17 :: a18 :: a19 :: some v :: σ) H Q = Q v H := by
  simp only [ZAc, ZAa]
theorem tVar_21 {v : V} {a0 a1 a2 a3 a4 a5 a6 a7 a8 a9 a10 a11 a12 a13 a14 a15 a16 a17 a18 a19 a20 : Option V} {σ : St} {H : Hp} {Q : VK} : tVar 21 (a0 :: a1 :: a2 :: a3 :: a4 :: a5 :: a6 :: a7 :: a8 :: a9 :: a10 :: a11 :: a12 :: a13 :: a14 :: a15 :: a16 :: a17 :: a18 :: a19 :: a20 :: some v :: σ) H Q = Q v H := by
  simp only [ZAc, ZAa]
theorem tVar_22 {v : V} {a0 a1 a2 a3 a4 a5 a6 a7 a8 a9 a10 a11 a12 a13 a14 a15 a16 a17 a18 a19 a20 a21 : Option V} {σ : St} {H : Hp} {Q : VK} : tVar 22 (a0 :: a1 :: a2 :: a3 :: a4 :: a5 :: a6 :: a7 :: a8 :: a9 :: a10 :: a11 :: a12 :: a13 :: a14 :: a15 :: a16 :: a17 :: a18 :: a19 :: a20 :: a21 :: some v :: σ) H Q = Q v H := by
  simp only [ZAc, ZAa]
theorem tVar_23 {v : V} {a0 a1 a2 a3 a4 a5 a6 a7 a8 a9 a10 a11 a12 a13 a14 a15 a16 a17 a18 a19 a20 a21 a22 : Option V} {σ : St} {H : Hp} {Q : VK} : tVar 23 (a0 :: a1 :: a2 :: a3 :: a4 :: a5 :: a6 :: a7 :: a8 :: a9 :: a10 :: a11 :: a12 :: a13 :: a14 :: a15 :: a16 :: a17 :: a18 :: a19 :: a20 :: a21 :: a22 :: some v :: σ) H Q = Q v H := by
  simp only [ZAc, ZAa]
theorem tVar_24 {v : V} {a0 a1 a2 a3 a4 a5 a6 a7 a8 a9 a10 a11 a12 a13 a14 a15 a16 a17 a18 a19 a20 a21 a22 a23 : Option V} {σ : St} {H : Hp} {Q : VK} : tVar 24 (a0 :: a1 :: a2 :: a3 :: a4 :: a5 :: a6 :: a7 :: a8 :: a9 :: a10 :: a11 :: a12 :: a13 :: a14 :: a15 :: a16 :: a17 :: a18 :: a19 :: a20 :: a21 :: a22 :: a23 :: some v :: σ) H Q = Q v H := by
  simp only [ZAc, ZAa]
theorem tVar_25 {v : V} {a0 a1 a2 a3 a4 a5 a6 a7 a8 a9 a10 a11 a12 a13 a14 a15 a16 a17 a18 a19 a20 a21 a22 a23 a24 : Option V} {σ : St} {H : Hp} {Q : VK} : tVar 25 (a0 :: a1 :: a2 :: a3 :: a4 :: a5 :: a6 :: a7 :: a8 :: a9 :: a10 :: a11 :: a12 :: a13 :: a14 :: a15 :: a16 :: a17 :: a18 :: a19 :: a20 :: a21 :: a22 :: a23 :: a24 :: some v :: σ) H Q = Q v H := by
  simp only [ZAc, ZAa]
theorem tVar_26 {v : V} {a0 a1 a2 a3 a4 a5 a6 a7 a8 a9 a10 a11 a12 a13 a14 a15 a16 a17 a18 a19 a20 a21 a22 a23 a24 a25 : Option V} {σ : St} {H : Hp} {Q : VK} : tVar 26 (a0 :: a1 :: a2 :: a3 :: a4 :: a5 :: a6 :: a7 :: a8 :: a9 :: a10 :: a11 :: a12 :: a13 :: a14 :: a15 :: a16 :: a17 :: a18 :: a19 :: a20 :: a21 :: a22 :: a23 :: a24 :: a25 :: some v :: σ) H Q = Q v H := by
  simp only [ZAc, ZAa]
theorem tVar_27 {v : V} {a0 a1 a2 a3 a4 a5 a6 a7 a8 a9 a10 a11 a12 a13 a14 a15 a16 a17 a18 a19 a20 a21 a22 a23 a24 a25 a26 : Option V} {σ : St} {H : Hp} {Q : VK} : tVar 27 (a0 :: a1 :: a2 :: a3 :: a4 :: a5 :: a6 :: a7 :: a8 :: a9 :: a10 :: a11 :: a12 :: a13 :: a14 :: a15 :: a16 :: a17 :: a18 :: a19 :: a20 :: a21 :: a22 :: a23 :: a24 :: a25 :: a26 :: some v :: σ) H Q = Q v H := by
  simp only [ZAc, ZAa]
theorem tVar_28 {v : V} {a0 a1 a2 a3 a4 a5 a6 a7 a8 a9 a10 a11 a12 a13 a14 a15 a16 a17 a18 a19 a20 a21 a22 a23 a24 a25 a26 a27 : Option V} {σ : St} {H : Hp} {Q : VK} : tVar 28 (a0 :: a1 :: a2 :: a3 :: a4 :: a5 :: a6 :: a7 :: a8 :: a9 :: a10 :: a11 :: a12 :: a13 :: a14 :: a15 :: a16 :: a17 :: a18 :: a19 :: a20 :: a21 :: a22 :: a23 :: a24 :: a25 :: a26 :: a27 :: some v :: σ) H Q = Q v H := by
  simp only [ZAc, ZAa]
theorem tVar_29 {v : V} {a0 a1 a2 a3 a4 a5 a6 a7 a8 a9 a10 a11 a12 a13 a14 a15 a16 a17 a18 a19 a20 a21 a22 a23 a24 a25 a26 a27 a28 : Option V} {σ : St} {H : Hp} {Q : VK} : tVar 29 (a0 :: a1 :: a2 :: a3 :: a4 :: a5 :: a6 :: a7 :: a8 :: a9 :: a10 :: a11 :: a12 :: a13 :: a14 :: a15 :: a16 :: a17 :: a18 :: a19 :: a20 :: a21 :: a22 :: a23 :: a24 :: a25 :: a26 :: a27 :: a28 :: some v :: σ) H Q = Q v H := by
  simp only [ZAc, ZAa]
theorem tVar_30 {v : V} {a0 a1 a2 a3 a4 a5 a6 a7 a8 a9 a10 a11 a12 a13 a14 a15 a16 a17 a18 a19 a20 a21 a22 a23 a24 a25 a26 a27 a28 a29 : Option V} {σ : St} {H : Hp} {Q : VK} : tVar 30 (a0 :: a1 :: a2 :: a3 :: a4 :: a5 :: a6 :: a7 :: a8 :: a9 :: a10 :: a11 :: a12 :: a13 :: a14 :: a15 :: a16 :: a17 :: a18 :: a19 :: a20 :: a21 :: a22 :: a23 :: a24 :: a25 :: a26 :: a27 :: a28 :: a29 :: some v :: σ) H Q = Q v H := by
  simp only [ZAc, ZAa]
open PySem
def Cut (t : TS) : TS := t
theorem ZAW {X : Cx} {rest : List Stmt} {u : TS} (h : PSs X rest u) : PSs X rest (Cut u) := h
theorem ZAm {u : TS} {D : Ends} {σ : St} {H : Hp} (h : u D σ H) : Cut u D σ H := h
theorem us0 {l : List Value} (h : l.length = 0) : l = [] := List.length_eq_zero_iff.mp h
theorem us1 {l : List Value} (h : l.length = 1) : ∃ a0, l = [a0] := by
  cases l with
  | nil => cases h
  | cons a l =>
    obtain rfl := us0 (l := l) (Nat.succ.inj h)
    exact ⟨a, rfl⟩
theorem us2 {l : List Value} (h : l.length = 2) : ∃ a0 a1, l = [a0, a1] := by
  cases l with
  | nil => cases h
  | cons a l =>
    obtain ⟨b0, rfl⟩ := us1 (l := l) (Nat.succ.inj h)
    exact ⟨a, b0, rfl⟩
theorem us3 {l : List Value} (h : l.length = 3) : ∃ a0 a1 a2, l = [a0, a1, a2] := by
  cases l with
  | nil => cases h
  | cons a l =>
    obtain ⟨b0, b1, rfl⟩ := us2 (l := l) (Nat.succ.inj h)
    exact ⟨a, b0, b1, rfl⟩
theorem us4 {l : List Value} (h : l.length = 4) : ∃ a0 a1 a2 a3, l = [a0, a1, a2, a3] := by
  cases l with
  | nil => cases h
  | cons a l =>
    obtain ⟨b0, b1, b2, rfl⟩ := us3 (l := l) (Nat.succ.inj h)
    exact ⟨a, b0, b1, b2, rfl⟩
open PySem PySem.Spec PyProof.Rows
def tMakeN (C : Addr) : TE := fun σ H Q => ∀ x dx, H x = none -> H dx = none -> dx ≠ x -> Q (.ref x) (upd (upd H dx (.own x)) x (.ins C dx []))
def tEither (t u : TE) : TE := fun σ H Q => t σ H Q ∨ u σ H Q
end L2
namespace Law
open PySem L2
local macro_rules | `(tactic| walk_at "o") => `(tactic| first | exact Or.inl rfl | exact Or.inr rfl)
local macro_rules | `(tactic| walk_at "rd") => `(tactic| ((try dsimp only [cx_K, tChain, tForZ_eq, tRevL, tCompR2_eq, sFldAug_eq, cx_cloK, ZDr, ZB4, tForE_eq, tCompE_eq, tMaxD, tAug_eq, ipI_int, gSub, gCons_eq, gNil_eq, tSeq, tIfS, ZEF, tB, tOr, tAnd, tNot, tOp, tUn, tC, ZAa, ZDo, tEither, tMakeN, tVar_1, tVar_2, tVar_3, tVar_4, tVar_5, tVar_6, tVar_7, tVar_8, tVar_9, tVar_10, tVar_11, tVar_12, tVar_13, tVar_14, tVar_15, tVar_16, tVar_17, tVar_18, tVar_19, tVar_20, tVar_21, tVar_22, tVar_23, tVar_24, tVar_25, tVar_26, tVar_27, tVar_28, tVar_29, tVar_30, rI0_int, rI_int, rU_int, rEq_int, rNe_int, rEq_bl, rNe_bl, rEq_str, rNe_str, ex_bl, ex_int, tAsg, ZEE, tRet, tRetN, ZEJ, ZEI, ZDp, tAndV, tOrV, ZEH, tIf, List.set_cons_zero, List.set_cons_succ, ZED, ZDf, ZBu, tNil, List.cons_append, List.nil_append, yBF, tCB, tFld_eq, sFld_eq, tForL_eq, tForR1_eq, tForR2_eq, tCompL_eq, tCompR1_eq, tYes, tBM, tBM0, tLst, tTup, ZDq, true_and, tSl, ZEG, ZDJ, decide_eq_true_eq, Bool.not_eq_true', decide_eq_false_iff_not, L2.start, yAT, List.map_nil, yAF, yBW, Nat.reduceAdd, Nat.reduceSub, yBP, yBQ, List.replicate_zero, yBJ, if_true, if_false, Bool.false_eq_true, Bool.true_eq_false, Bool.not_true, Bool.not_false]); (try simp only [cx_K, tChain, tForZ_eq, tRevL, tCompR2_eq, sFldAug_eq, cx_cloK, ZDr, ZB4, tForE_eq, tCompE_eq, tMaxD, tAug_eq, ipI_int, gSub, gCons_eq, gNil_eq, tSeq, tIfS, ZEF, tB, tOr, tAnd, tNot, tOp, tUn, tC, ZAa, ZDo, tEither, tMakeN, tVar_1, tVar_2, tVar_3, tVar_4, tVar_5, tVar_6, tVar_7, tVar_8, tVar_9, tVar_10, tVar_11, tVar_12, tVar_13, tVar_14, tVar_15, tVar_16, tVar_17, tVar_18, tVar_19, tVar_20, tVar_21, tVar_22, tVar_23, tVar_24, tVar_25, tVar_26, tVar_27, tVar_28, tVar_29, tVar_30, rI0_int, rI_int, rU_int, rEq_int, rNe_int, rEq_bl, rNe_bl, rEq_str, rNe_str, ex_bl, ex_int, tAsg, ZEE, tRet, tRetN, ZEJ, ZEI, ZDp, tAndV, tOrV, ZEH, tIf, List.set_cons_zero, List.set_cons_succ, ZED, ZDf, ZBu, tNil, List.cons_append, List.nil_append, yBF, tCB, tFld_eq, sFld_eq, tForL_eq, tForR1_eq, tForR2_eq, tCompL_eq, tCompR1_eq, tYes, tBM, tBM0, tLst, tTup, ZDq, true_and, tSl, ZEG, ZDJ, decide_eq_true_eq, Bool.not_eq_true', decide_eq_false_iff_not, L2.start, yAT, List.map_nil, yAF, yBW, Nat.reduceAdd, Nat.reduceSub, yBP, yBQ, List.replicate_zero, yBJ, if_true, if_false, Bool.false_eq_true, Bool.true_eq_false, Bool.not_true, Bool.not_false])))
local macro_rules | `(tactic| walk_at "up") => `(tactic| first | assumption | (refine Same.get (by assumption) ?_; walk_at "up"))
local macro_rules | `(tactic| walk_at "lk") => `(tactic| ((repeat (first | rw [lkc, if_pos rfl] | rw [lkc, if_neg (by decide +kernel)])); first | done | rfl))
def top (i : Nat) : Stmt := PySem.Challenge.pw_sorthall_k44_whole_whatever_is_told.main.body.getD i (.Pass ⟨0, 0, 0, 0⟩)
abbrev ZCn : Stmt := top 2
abbrev ZA7 : Stmt := ZBK (top 7) 0
abbrev ZAl : Stmt := ZBK (top 7) 1
abbrev ZA1 : Stmt := ZBK (top 7) 2
abbrev ZAp : Stmt := ZBK (top 7) 3
abbrev ZAf : Stmt := ZBK (top 7) 4
abbrev ZBH : Stmt := ZBK (top 7) 5
abbrev ZAq : Stmt := ZBK (top 7) 6
abbrev ZBk : Stmt := top 8
abbrev ZA2 : Stmt := ZBK (top 13) 0
abbrev ZAw : Stmt := ZBK (top 13) 2
abbrev ZAg : Stmt := ZBK (top 16) 0
abbrev ZAZ : Stmt := ZBK (top 16) 1
abbrev ZBR : Stmt := top 18
abbrev ZBj : Stmt := top 19
abbrev ZBQ : Stmt := top 20
abbrev ZDh : Stmt := top 21
abbrev ZCE : Stmt := top 22
abbrev ZAt : Stmt := top 23
abbrev ZAj : Stmt := top 24
abbrev ZCl : Stmt := top 25
abbrev ZBl : Stmt := top 26
abbrev ZCm : Stmt := top 27
abbrev ZBS : Stmt := top 28
abbrev ZC1 : Stmt := top 29
theorem sc_leap : FnScope ["asker", "order", "first", "place", "low", "high", "wide", "middle"] ["asker", "order", "first", "place"] (ZAB ZCn) := ⟨rfl, rfl, rfl, by decide +kernel, rfl, by decide +kernel, by decide +kernel⟩
theorem sc_Join_init : FnScope ["self", "asker", "left", "right"] ["self", "asker", "left", "right"] (ZAB ZA7) := ⟨rfl, rfl, rfl, by decide +kernel, rfl, by decide +kernel, by decide +kernel⟩
theorem sc_Join_has_more : FnScope ["self", "side"] ["self", "side"] (ZAB ZAl) := ⟨rfl, rfl, rfl, by decide +kernel, rfl, by decide +kernel, by decide +kernel⟩
theorem sc_Join_front : FnScope ["self", "side"] ["self", "side"] (ZAB ZA1) := ⟨rfl, rfl, rfl, by decide +kernel, rfl, by decide +kernel, by decide +kernel⟩
theorem sc_Join_take_on : FnScope ["self", "side", "more", "start"] ["self", "side", "more"] (ZAB ZAp) := ⟨rfl, rfl, rfl, by decide +kernel, rfl, by decide +kernel, by decide +kernel⟩
theorem sc_Join_take_rest : FnScope ["self", "side"] ["self", "side"] (ZAB ZAf) := ⟨rfl, rfl, rfl, by decide +kernel, rfl, by decide +kernel, by decide +kernel⟩
theorem sc_Join_win : FnScope ["self", "side"] ["self"] (ZAB ZBH) := ⟨rfl, rfl, rfl, by decide +kernel, rfl, by decide +kernel, by decide +kernel⟩
theorem sc_Join_leap_on : FnScope ["self", "side", "other"] ["self", "side"] (ZAB ZAq) := ⟨rfl, rfl, rfl, by decide +kernel, rfl, by decide +kernel, by decide +kernel⟩
theorem sc_joined : FnScope ["asker", "left", "right", "join", "wins", "winner", "side"] ["asker", "left", "right"] (ZAB ZBk) := ⟨rfl, rfl, rfl, by decide +kernel, rfl, by decide +kernel, by decide +kernel⟩
theorem sc_Asker_init : FnScope ["self", "row", "rule", "most"] ["self", "row", "rule", "most"] (ZAB ZA2) := ⟨rfl, rfl, rfl, by decide +kernel, rfl, by decide +kernel, by decide +kernel⟩
theorem sc_Asker_ahead : FnScope ["self", "p", "q", "later", "earlier", "said"] ["self", "p", "q"] (ZAB ZAw) := ⟨rfl, rfl, rfl, by decide +kernel, rfl, by decide +kernel, by decide +kernel⟩
theorem sc_AskedRule_init : FnScope ["self", "teller"] ["self", "teller"] (ZAB ZAg) := ⟨rfl, rfl, rfl, by decide +kernel, rfl, by decide +kernel, by decide +kernel⟩
theorem sc_AskedRule_before : FnScope ["self", "x", "y", "teller"] ["self", "x", "y"] (ZAB ZAZ) := ⟨rfl, rfl, rfl, by decide +kernel, rfl, by decide +kernel, by decide +kernel⟩
theorem sc_cell_at : FnScope ["_law_script", "_law_k"] ["_law_script", "_law_k"] (ZAB ZBR) := ⟨rfl, rfl, rfl, by decide +kernel, rfl, by decide +kernel, by decide +kernel⟩
theorem sc_stream : FnScope ["_law_seed", "_law_many", "_law_found", "_law_number", "_law_k"] ["_law_seed", "_law_many"] (ZAB ZBj) := ⟨rfl, rfl, rfl, by decide +kernel, rfl, by decide +kernel, by decide +kernel⟩
theorem sc_numbers : FnScope ["_law_script"] ["_law_script"] (ZAB ZBQ) := ⟨rfl, rfl, rfl, by decide +kernel, rfl, by decide +kernel, by decide +kernel⟩
theorem sc_row : FnScope ["_law_numbers_here", "_law_kind", "_law_base", "_law_keys"] ["_law_numbers_here", "_law_kind"] (ZAB ZDh) := ⟨rfl, rfl, rfl, by decide +kernel, rfl, by decide +kernel, by decide +kernel⟩
theorem sc_sides : FnScope ["_law_order", "_law_numbers_here", "_law_kind", "_law_deal", "_law_wide", "_law_side", "_law_sides_here", "_law_k", "_law_place", "_law_at", "_law_size"] ["_law_order", "_law_numbers_here", "_law_kind", "_law_deal"] (ZAB ZCE) := ⟨rfl, rfl, rfl, by decide +kernel, rfl, by decide +kernel, by decide +kernel⟩
theorem sc_any_teller : FnScope ["_law_said", "_law_bits", "_law_kind", "_law_tells"] ["_law_said", "_law_bits", "_law_kind"] (ZAB ZAt) := ⟨rfl, rfl, rfl, by decide +kernel, rfl, by decide +kernel, by decide +kernel⟩
theorem sc_digit_teller : FnScope ["_law_said", "_law_digits", "_law_bits", "_law_tells"] ["_law_said", "_law_digits", "_law_bits"] (ZAB ZAj) := ⟨rfl, rfl, rfl, by decide +kernel, rfl, by decide +kernel, by decide +kernel⟩
theorem sc_once : FnScope ["_law_found", "_law_many", "_law_place"] ["_law_found", "_law_many"] (ZAB ZCl) := ⟨rfl, rfl, rfl, by decide +kernel, rfl, by decide +kernel, by decide +kernel⟩
theorem sc_blocks : FnScope ["_law_order", "_law_second", "_law_marks", "_law_place", "_law_sizes", "_law_last"] ["_law_order", "_law_second"] (ZAB ZBl) := ⟨rfl, rfl, rfl, by decide +kernel, rfl, by decide +kernel, by decide +kernel⟩
theorem sc_most : FnScope ["_law_sizes", "_law_most_here", "_law_size"] ["_law_sizes"] (ZAB ZCm) := ⟨rfl, rfl, rfl, by decide +kernel, rfl, by decide +kernel, by decide +kernel⟩
theorem sc_bounded : FnScope ["_law_found", "_law_sides_here", "_law_asks"] ["_law_found", "_law_sides_here", "_law_asks"] (ZAB ZBS) := ⟨rfl, rfl, rfl, by decide +kernel, rfl, by decide +kernel, by decide +kernel⟩
theorem sc_law : FnScope ["_law_script", "_law_numbers_here", "_law_row_here", "_law_kind", "_law_sides_here", "_law_bits", "_law_said", "_law_tells_here", "_law_asker", "_law_handed", "_law_found", "_law_before", "_law_again", "_law_later", "_law_earlier", "_law_first"] ["_law_script"] (ZAB ZC1) := ⟨rfl, rfl, rfl, by decide +kernel, rfl, by decide +kernel, by decide +kernel⟩
abbrev ZAJ : Stmt := inBody ZAt 0
theorem csc_any_teller : CloScope ["_law_x", "_law_y", "_law_k", "_law_first", "_law_said", "_law_kind", "_law_bits"] ["_law_x", "_law_y"] ["_law_said", "_law_kind", "_law_bits"] (ZAB ZAJ) := ⟨rfl, rfl, rfl, by decide +kernel, rfl, rfl, by decide, by decide +kernel, by decide +kernel, by decide +kernel, fun x h => (show ∀ y ∈ (ZAB ZAJ).names, y.2 = .free -> y.1 ∈ (["_law_said", "_law_kind", "_law_bits"] : List Str) by decide +kernel) _ (PySem.mem_of_lookup h) rfl⟩
abbrev ZAH : Stmt := inBody ZAj 0
theorem csc_digit_teller : CloScope ["_law_x", "_law_y", "_law_k", "_law_first", "_law_said", "_law_digits", "_law_bits"] ["_law_x", "_law_y"] ["_law_said", "_law_digits", "_law_bits"] (ZAB ZAH) := ⟨rfl, rfl, rfl, by decide +kernel, rfl, rfl, by decide, by decide +kernel, by decide +kernel, by decide +kernel, fun x h => (show ∀ y ∈ (ZAB ZAH).names, y.2 = .free -> y.1 ∈ (["_law_said", "_law_digits", "_law_bits"] : List Str) by decide +kernel) _ (PySem.mem_of_lookup h) rfl⟩
structure Bt (K : W.Frag) (mg : Str -> Option Value) (C_Join C_Asker C_AskedRule : Addr) : Prop where
  b_len : mg "len" = none
  b_range : mg "range" = none
  b_list : mg "list" = none
  b_isinstance : mg "isinstance" = none
  b_bool : mg "bool" = none
  b_int : mg "int" = none
  b_max : mg "max" = none
  b_min : mg "min" = none
  b_sorted : mg "sorted" = none
  b_enumerate : mg "enumerate" = none
  b_ValueError : mg "ValueError" = none
  c_LEFT : ∃ t, mg "LEFT" = some (.int 0 t)
  c_RIGHT : ∃ t, mg "RIGHT" = some (.int 1 t)
  c_WINS_TO_LEAP : ∃ t, mg "WINS_TO_LEAP" = some (.int 4 t)
  m_Join : mg "Join" = some (.ref C_Join)
  cl_Join : Cls K C_Join
  n_Join_asker : NoAttr K C_Join "asker"
  n_Join_sides : NoAttr K C_Join "sides"
  n_Join_taken : NoAttr K C_Join "taken"
  n_Join_places : NoAttr K C_Join "places"
  m_Asker : mg "Asker" = some (.ref C_Asker)
  cl_Asker : Cls K C_Asker
  n_Asker_row : NoAttr K C_Asker "row"
  n_Asker_rule : NoAttr K C_Asker "rule"
  n_Asker_most : NoAttr K C_Asker "most"
  n_Asker_asked : NoAttr K C_Asker "asked"
  n_Asker_told : NoAttr K C_Asker "told"
  m_AskedRule : mg "AskedRule" = some (.ref C_AskedRule)
  cl_AskedRule : Cls K C_AskedRule
  n_AskedRule_teller : NoAttr K C_AskedRule "teller"
  kit_int_bool : PySem.W.kitOne K (.type "int") (.type "bool") = some false
def cellOf (ns : List Int) (k : Int) : Int := if k < (ns.length : Int) then (ns[k.toNat]?).getD 0 else 0
def ZDX (K : W.Frag) : Sp := fun vs H Q _ => ∃ (a : Addr) (ns : List Int) (k : Int), vs = [.ref a, .int k] /\ SqL K H a (ns.map V.int) /\ 0 <= k /\ Q (.int (cellOf ns k)) H
theorem ZDA {n : Nat} (h : n <= 90000) : n < sizeLine := Nat.lt_of_le_of_lt h (by decide)
abbrev fA (rl ru : Addr) (m : V) (n : Int) (tl : Addr) : List (Str × V) := [("told", .ref tl), ("asked", .int n), ("most", m), ("rule", .ref ru), ("row", .ref rl)]
abbrev fR (g : Addr) : List (Str × V) := [("teller", .ref g)]
def ZBw (CA : Addr) : Sp := fun vs H Q _ => ∃ (x dx r : Addr) (ru : Addr) (m : V) (xs : List V), vs = [.ref x, .ref r, .ref ru, m] /\ H x = some (.ins CA dx []) /\ H r = some (.lst xs) /\
  ∀ rl tl H', (∀ b o, b ≠ x -> H b = some o -> H' b = some o) -> H rl = none -> H tl = none -> rl ≠ tl -> Ins H' x CA (fA rl ru m 0 tl) -> H' rl = some (.lst xs) -> H' tl = some (.lst []) -> Q .non H'
def ZCC (CR : Addr) : Sp := fun vs H Q _ => ∃ (x dx g : Addr), vs = [.ref x, .ref g] /\ H x = some (.ins CR dx []) /\ ∀ H', (∀ b o, b ≠ x -> H b = some o -> H' b = some o) -> Ins H' x CR (fR g) -> Q .non H'
def ZCI (CR : Addr) (r : V -> List V -> Hp -> VK -> Prop) : Sp := fun vs H Q _ => ∃ (ru g : Addr) (x y : V), vs = [.ref ru, x, y] /\ Ins H ru CR (fR g) /\ (∃ o, H g = some (FZ o) /\ ∃ fd, o.data = .func fd) /\ r (.ref g) [x, y] H Q
def ZCW (CA CR : Addr) (r : V -> List V -> Hp -> VK -> Prop) : Sp := fun vs H Q _ => ∃ (a rl ru tl : Addr) (n p q : Int) (xs ts : List V) (x y : V), vs = [.ref a, .int p, .int q] /\ Ins H a CA (fA rl ru .non n tl) /\ H rl = some (.lst xs) /\ p ≠ q /\ 0 <= p /\ 0 <= q /\
  xs[(max p q).toNat]? = some x /\ xs[(min p q).toNat]? = some y /\ ZCI CR r [.ref ru, x, y] H (fun v H1 => ∃ b, v = .bl b /\ Ins H1 a CA (fA rl ru .non n tl) /\ H1 tl = some (.lst ts) /\ ts.length <= 90000 /\
    ∀ t H2, H1 t = none -> Ins H2 a CA (fA rl ru .non (n + 1) tl) -> H2 tl = some (.lst (ts ++ [.ref t])) -> H2 t = some (.tup [.int (max p q), .int (min p q), .bl b]) -> (∀ c, c ≠ a -> c ≠ tl -> c ≠ t -> H2 c = H1 c) -> Q (.bl (if q < p then b else !b)) H2) E0
theorem fA_canon {rl ru tl : Addr} {m : V} {n : Int} : ∀ f, (putF "told" (.ref tl) (putF "asked" (.int n) (putF "most" m (putF "rule" (.ref ru) (putF "row" (.ref rl) []))))).lookup f = (fA rl ru m n tl).lookup f := fun f => by
  simp only [ZAv, lkc]
theorem fA_asked {rl ru tl : Addr} {m : V} {n k : Int} : ∀ f, (putF "asked" (.int k) (fA rl ru m n tl)).lookup f = (fA rl ru m k tl).lookup f := fun f => by
  rw [ZAv]
  by_cases h : f = ("asked" : Str)
  . subst h
    rw [if_pos rfl]
    exact (show List.lookup _ (fA rl ru m k tl) = some (.int k) by walk_at "lk").symm
  . simp only [lkc, h, if_false]
def kat (ks : List Int) (p : Nat) : Int := (ks[p]?).getD 0
structure Told (H : Hp) (ks : List Int) (pr : List (Nat × Nat)) (ts : List V) : Prop where
  len : ts.length = pr.length
  get : ∀ (j p q : Nat), pr[j]? = some (p, q) -> ∃ t, ts[j]? = some (V.ref t) /\ H t = some (.tup [.int p, .int q, .bl (decide (kat ks p < kat ks q))])
theorem ZDb {H H' : Hp} {S : List Addr} {a C : Addr} {fl : List (Str × V)} (e : Fr S H H') (n : a ∉ S) (h : Ins H a C fl) : Ins H' a C fl := let ⟨dx, fs, h1, h2, h3⟩ := h.ex; ⟨dx, fs, e _ _ n h1, h2, h3⟩
theorem CloOk.or {P : Program} {w : World} {K : W.Frag} {mg : Str -> Option Value} {base : Heap} {k : Nat} {r1 r2 : V -> List V -> Hp -> VK -> Prop} (h1 : CloOk P w K mg base k r1) (h2 : CloOk P w K mg base k r2) : CloOk P w K mg base k (fun f vs H Q => r1 f vs H Q ∨ r2 f vs H Q) :=
  ⟨fun A outer s H f vs us Q hr e rv h => h.elim (h1.run A outer s H f vs us Q hr e rv) (h2.run A outer s H f vs us Q hr e rv)⟩
def rTO (iname iq : Str) (ip : Arguments) (ib : List Stmt) (isc : Scope) (fr : List Str) : V -> List V -> Hp -> VK -> Prop := fun f vs H Q => ∃ (g x y lg bl : Addr) (kd k k' : Int) (i j : Nat) (bs : List Int) (ws : List V), f = .ref g /\ vs = [.ref x, .ref y] /\ Clo H g iname iq ip ib isc fr [.ref lg, .int kd, .ref bl] /\ H bl = some (.lst (bs.map V.int)) /\ bs ≠ [] /\ bs.length <= 1000 /\ H x = some (.tup [.int k, .int i]) /\ H y = some (.tup [.int k', .int j]) /\ i <= 1000 /\ j <= 1000 /\ H lg = some (.lst ws) /\ ws.length <= 90000 /\
  ∀ t b, H t = none -> Q (.bl b) (upd (upd H t (.tup [.int i, .int j, .bl b])) lg (.lst (ws ++ [.ref t])))
theorem rTO_mono {iname iq : Str} {ip : Arguments} {ib : List Stmt} {isc : Scope} {fr : List Str} {f : V} {vs : List V} {H : Hp} {Q Q' : VK} (m : ∀ v H, Q v H -> Q' v H) (h : rTO iname iq ip ib isc fr f vs H Q) : rTO iname iq ip ib isc fr f vs H Q' :=
  let ⟨g, x, y, lg, bl, kd, k, k', i, j, bs, ws, e1, e2, h1, h2, h3, h4, h5, h6, h7, h8, h9, h10, q⟩ := h; ⟨g, x, y, lg, bl, kd, k, k', i, j, bs, ws, e1, e2, h1, h2, h3, h4, h5, h6, h7, h8, h9, h10, fun t b ht => m _ _ (q t b ht)⟩
abbrev rAny : V -> List V -> Hp -> VK -> Prop := rTO "_law_tells" "_law_any_teller.<locals>._law_tells" (ZAO ZAJ) (ZAN ZAJ) (ZAB ZAJ) ["_law_said", "_law_kind", "_law_bits"]
abbrev rDig : V -> List V -> Hp -> VK -> Prop := rTO "_law_tells" "_law_digit_teller.<locals>._law_tells" (ZAO ZAH) (ZAN ZAH) (ZAB ZAH) ["_law_said", "_law_digits", "_law_bits"]
def ZBI : V -> List V -> Hp -> VK -> Prop := fun f vs H Q => rAny f vs H Q ∨ rDig f vs H Q
theorem rT_mono {f : V} {vs : List V} {H : Hp} {Q Q' : VK} (m : ∀ v H, Q v H -> Q' v H) (h : ZBI f vs H Q) : ZBI f vs H Q' := h.imp (rTO_mono m) (rTO_mono m)
def TlO (H : Hp) (g lg bl : Addr) : Prop := (∃ kd : Int, Clo H g "_law_tells" "_law_any_teller.<locals>._law_tells" (ZAO ZAJ) (ZAN ZAJ) (ZAB ZAJ) ["_law_said", "_law_kind", "_law_bits"] [.ref lg, .int kd, .ref bl]) ∨ (∃ kd : Int, Clo H g "_law_tells" "_law_digit_teller.<locals>._law_tells" (ZAO ZAH) (ZAN ZAH) (ZAB ZAH) ["_law_said", "_law_digits", "_law_bits"] [.ref lg, .int kd, .ref bl])
theorem TlO.mono {H H' : Hp} {g lg bl : Addr} (e : ZDG H H') (h : TlO H g lg bl) : TlO H' g lg bl := h.imp (fun ⟨kd, c⟩ => ⟨kd, c.mono e⟩) fun ⟨kd, c⟩ => ⟨kd, c.mono e⟩
theorem TlO.fn {H : Hp} {g lg bl : Addr} (h : TlO H g lg bl) : ∃ o, H g = some (FZ o) /\ ∃ fd, o.data = .func fd := by
  rcases h with ⟨kd, cl, C⟩ | ⟨kd, cl, C⟩
  . obtain ⟨d1, d2, d3, d4, ho, _⟩ := C.obj
    exact ⟨_, ho, _, rfl⟩
  . obtain ⟨d1, d2, d3, d4, ho, _⟩ := C.obj
    exact ⟨_, ho, _, rfl⟩
theorem TlO.tells {H : Hp} {g lg bl : Addr} (h : TlO H g lg bl) {Q : VK} {x y : Addr} {k k' : Int} {i j : Nat} {bs : List Int} {ws : List V} (h2 : H bl = some (.lst (bs.map V.int))) (h3 : bs ≠ []) (h4 : bs.length <= 1000) (h5 : H x = some (.tup [.int k, .int i])) (h6 : H y = some (.tup [.int k', .int j])) (h7 : i <= 1000) (h8 : j <= 1000) (h9 : H lg = some (.lst ws)) (h10 : ws.length <= 90000)
    (q : ∀ t b, H t = none -> Q (.bl b) (upd (upd H t (.tup [.int i, .int j, .bl b])) lg (.lst (ws ++ [.ref t])))) : ZBI (.ref g) [.ref x, .ref y] H Q :=
  h.imp (fun ⟨kd, c⟩ => ⟨g, x, y, lg, bl, kd, k, k', i, j, bs, ws, rfl, rfl, c, h2, h3, h4, h5, h6, h7, h8, h9, h10, q⟩) fun ⟨kd, c⟩ => ⟨g, x, y, lg, bl, kd, k, k', i, j, bs, ws, rfl, rfl, c, h2, h3, h4, h5, h6, h7, h8, h9, h10, q⟩
structure ToldP (H : Hp) (pr : List (Nat × Nat)) (ts : List V) : Prop where
  len : ts.length = pr.length
  get : ∀ (j p q : Nat), pr[j]? = some (p, q) -> ∃ t b, ts[j]? = some (V.ref t) /\ H t = some (.tup [.int p, .int q, .bl b])
theorem ToldP.keep {H H' : Hp} {pr : List (Nat × Nat)} {ts : List V} (e : ∀ t x, H t = some (.tup x) -> H' t = some (.tup x)) (h : ToldP H pr ts) : ToldP H' pr ts :=
  ⟨h.len, fun j p q hj => let ⟨t, b, a, c⟩ := h.get j p q hj; ⟨t, b, a, e _ _ c⟩⟩
theorem ToldP.snoc {H : Hp} {pr : List (Nat × Nat)} {ts : List V} {p q : Nat} {b : Bool} {t : Addr} (h : ToldP H pr ts) (ht : H t = some (.tup [.int p, .int q, .bl b])) : ToldP H (pr ++ [(p, q)]) (ts ++ [.ref t]) := by
  refine ⟨by rw [yAC, yAC, h.len]; rfl, fun j p' q' hj => ?_⟩
  by_cases hl : j < pr.length
  . rw [yBH hl] at hj
    obtain ⟨t', b', a, c⟩ := h.get j p' q' hj
    exact ⟨t', b', by rw [yBH (by rw [h.len]; exact hl)]; exact a, c⟩
  . have e := (yAG.mp hj).1
    rw [yAC] at e
    have hj' : j = pr.length := by have : ([(p, q)] : List (Nat × Nat)).length = 1 := rfl; omega
    subst hj'
    rw [yBG (yAA _), yBQ] at hj
    cases hj
    exact ⟨t, b, by rw [<- h.len, yBG (yAA _), yBQ]; rfl, ht⟩
structure SitP (CA CR : Addr) (H : Hp) (ks : List Int) (xs : List V) (a rl ru tl g lg bl : Addr) (pr : List (Nat × Nat)) : Prop where
  ha : Ins H a CA (fA rl ru .non pr.length tl)
  hrl : H rl = some (.lst xs)
  hru : Ins H ru CR (fR g)
  clo : TlO H g lg bl
  hbl : ∃ bs : List Int, H bl = some (.lst (bs.map V.int)) /\ bs ≠ [] /\ bs.length <= 1000
  len : xs.length = ks.length
  row : ∀ (i : Nat) k, ks[i]? = some k -> ∃ r, xs[i]? = some (V.ref r) /\ H r = some (.tup [.int k, .int i])
  hlg : ∃ ws, H lg = some (.lst ws) /\ ToldP H pr ws
  htl : ∃ ts, H tl = some (.lst ts) /\ ToldP H pr ts
  ne : lg ≠ tl /\ rl ∉ [a, lg, tl] /\ ru ≠ a /\ bl ∉ [a, lg, tl]
section
variable {CA CR : Addr} {H H' : Hp} {ks : List Int} {xs : List V} {a rl ru tl g lg bl : Addr} {pr : List (Nat × Nat)}
theorem SitP.tupS (h : SitP CA CR H ks xs a rl ru tl g lg bl pr) {b : Addr} {o : HO} (hb : H b = some o) (n1 : ∀ x, o ≠ .lst x) (n2 : ∀ C d f, o ≠ .ins C d f) : b ∉ [a, lg, tl] := by
  obtain ⟨ws, hlg, _⟩ := h.hlg
  obtain ⟨ts, htl, _⟩ := h.htl
  intro z
  rcases yAD.mp z with z | z
  . exact h.ha.ne hb n2 z
  rcases yAD.mp z with z | z
  . rw [z, hlg] at hb; exact n1 _ (Option.some.inj hb).symm
  . rw [yBA.mp z, htl] at hb; exact n1 _ (Option.some.inj hb).symm
theorem SitP.ruS (h : SitP CA CR H ks xs a rl ru tl g lg bl pr) : ru ∉ [a, lg, tl] := by
  obtain ⟨ws, hlg, _⟩ := h.hlg
  obtain ⟨ts, htl, _⟩ := h.htl
  obtain ⟨d1, f1, e1, _⟩ := h.hru.ex
  intro z
  rcases yAD.mp z with z | z
  . exact h.ne.2.2.1 z
  rcases yAD.mp z with z | z
  . rw [z, hlg] at e1; cases e1
  . rw [yBA.mp z, htl] at e1; cases e1
theorem SitP.keep (h : SitP CA CR H ks xs a rl ru tl g lg bl pr) (e : Fr [a, lg, tl] H H') {pr' : List (Nat × Nat)} {ts' ws' : List V} (h1 : Ins H' a CA (fA rl ru .non pr'.length tl)) (h2 : H' tl = some (.lst ts')) (h3 : ToldP H' pr' ts') (h4 : H' lg = some (.lst ws')) (h5 : ToldP H' pr' ws') : SitP CA CR H' ks xs a rl ru tl g lg bl pr' where
  ha := h1
  hrl := e _ _ h.ne.2.1 h.hrl
  hru := ZDb e h.ruS h.hru
  clo := h.clo.mono fun b o hb => e _ _ (h.tupS hb (fun _ z => by cases z) (fun _ _ _ z => by cases z)) hb
  hbl := let ⟨bs, e1, e2⟩ := h.hbl; ⟨bs, e _ _ h.ne.2.2.2 e1, e2⟩
  len := h.len
  row := fun i k hk => let ⟨r, a1, a2⟩ := h.row i k hk; ⟨r, a1, e _ _ (h.tupS a2 (fun _ z => by cases z) (fun _ _ _ z => by cases z)) a2⟩
  hlg := ⟨_, h4, h5⟩
  htl := ⟨_, h2, h3⟩
  ne := h.ne
theorem SitP.mono (h : SitP CA CR H ks xs a rl ru tl g lg bl pr) (e : Same H H') : SitP CA CR H' ks xs a rl ru tl g lg bl pr :=
  let ⟨_, h2, h3⟩ := h.htl; let ⟨_, h4, h5⟩ := h.hlg; h.keep e.fr (h.ha.mono e) (e _ _ h2) (h3.keep fun _ _ z => e _ _ z) (e _ _ h4) (h5.keep fun _ _ z => e _ _ z)
theorem SitP.ahead (h : SitP CA CR H ks xs a rl ru tl g lg bl pr) {p q : Nat} (hpq : p ≠ q) (hp : p < ks.length) (hq : q < ks.length) (hk : ks.length <= 1000) (hpr : pr.length <= 80000) {Q : VK}
    (fin : ∀ b H', Fr [a, lg, tl] H H' -> SitP CA CR H' ks xs a rl ru tl g lg bl (pr ++ [(max p q, min p q)]) -> Q (.bl (if q < p then b else !b)) H') : ZCW CA CR ZBI [.ref a, .int p, .int q] H Q E0 := by
  obtain ⟨ws, hlg, hws⟩ := h.hlg
  obtain ⟨ts, htl, hts⟩ := h.htl
  have hmx : max p q < ks.length := by omega
  have hmn : min p q < ks.length := by omega
  obtain ⟨x, hx, tx⟩ := h.row (max p q) _ (yAM hmx)
  obtain ⟨y, hy, ty⟩ := h.row (min p q) _ (yAM hmn)
  have emx : (max (p : Int) q).toNat = max p q := by omega
  have emn : (min (p : Int) q).toNat = min p q := by omega
  refine ⟨a, rl, ru, tl, pr.length, p, q, xs, ts, .ref x, .ref y, rfl, h.ha, h.hrl, by omega, by omega, by omega, by rw [emx]; exact hx, by rw [emn]; exact hy, ?_⟩
  obtain ⟨bs, hbs, hbn, hbz⟩ := h.hbl
  refine ⟨ru, g, .ref x, .ref y, rfl, h.hru, h.clo.fn, ?_⟩
  refine h.clo.tells hbs hbn hbz tx ty (by omega) (by omega) hlg (by rw [hws.len]; omega) fun t b ht => ?_
  have nta : t ≠ a := h.ha.neN ht
  have ntg : lg ≠ t := ZAD hlg ht
  have ntl : tl ≠ t := ZAD htl ht
  have nlg : lg ≠ tl := h.ne.1
  have nga : lg ≠ a := h.ha.ne hlg fun _ _ _ z => by cases z
  refine ⟨_, rfl, h.ha.keep (by rw [ZAI (Ne.symm nga), ZAI (Ne.symm nta)]), by rw [ZAI (Ne.symm nlg), ZAI ntl]; exact htl, by rw [hts.len]; omega, fun t2 H2 hn2 ha2 htl2 ht2 k2 => ?_⟩
  have n2l : t2 ≠ lg := fun z => by rw [z, ZAF] at hn2; cases hn2
  have n2t : t2 ≠ t := fun z => by rw [z, ZAI (Ne.symm ntg), ZAF] at hn2; cases hn2
  have fr : Fr [a, lg, tl] H H2 := fun c o n hb => by
    have m1 : c ≠ a := fun z => n (by rw [z]; exact yAE)
    have m2 : c ≠ lg := fun z => n (by rw [z]; exact yAJ _ yAE)
    have m3 : c ≠ tl := fun z => n (by rw [z]; exact yAJ _ (yAJ _ yAE))
    have e1 : (upd (upd H t (.tup [.int ((max p q : Nat) : Int), .int ((min p q : Nat) : Int), .bl (b)])) lg (.lst (ws ++ [.ref t]))) c = some o := by rw [ZAI m2, ZAI (ZAD hb ht)]; exact hb
    rw [k2 c m1 m3 (ZAD e1 hn2)]
    exact e1
  have tk : ∀ b x, H b = some (.tup x) -> H2 b = some (.tup x) := fun b x hb => fr _ _ (h.tupS hb (fun _ z => by cases z) (fun _ _ _ z => by cases z)) hb
  have hlg2 : H2 lg = some (.lst (ws ++ [.ref t])) := by rw [k2 lg nga nlg (Ne.symm n2l), ZAF]
  have ht' : H2 t = some (.tup [.int ((max p q : Nat) : Int), .int ((min p q : Nat) : Int), .bl (b)]) := by rw [k2 t nta (Ne.symm ntl) (Ne.symm n2t), ZAI (Ne.symm ntg), ZAF]
  have ht2' : H2 t2 = some (.tup [.int ((max p q : Nat) : Int), .int ((min p q : Nat) : Int), .bl (b)]) := by
    rw [show (((max p q : Nat) : Int)) = max (p : Int) q by omega, show (((min p q : Nat) : Int)) = min (p : Int) q by omega]
    exact ht2
  have st := h.keep fr (pr' := pr ++ [(max p q, min p q)]) (by rw [yAC]; exact ha2) htl2 ((hts.keep tk).snoc ht2') hlg2 ((hws.keep tk).snoc ht')
  have g' := fin b H2 fr st
  by_cases hlt : q < p
  . rw [if_pos hlt] at g'
    rw [if_pos (by omega)]
    exact g'
  . rw [if_neg hlt] at g'
    rw [if_neg (by omega)]
    exact g'
end
abbrev nL (l : List Nat) : List V := l.map fun (x : Nat) => V.int (x : Int)
theorem ZBD (l : List Nat) : nL l = (l.map fun (x : Nat) => (x : Int)).map V.int := by rw [List.map_map]; rfl
theorem rints_nat {lo hi : Nat} : (ZCX (lo : Int) (hi : Int)).map V.int = nL (List.range' lo (hi - lo)) := by
  refine List.ext_getElem? fun i => ?_
  unfold nL
  rw [yAR, yAR]
  by_cases h : i < hi - lo
  . rw [List.getElem?_range' h, rints_get (by omega)]
    show some (V.int ((lo : Int) + i)) = some (V.int ((lo + 1 * i : Nat) : Int))
    congr 2
    omega
  . rw [yBU (by rw [ZBf]; omega), yBU (by rw [List.length_range']; omega)]
    rfl
def lx (ks : List Int) (x y : Nat) : Prop := kat ks x < kat ks y ∨ (kat ks x = kat ks y /\ x < y)
theorem sqL_fr {K : W.Frag} {H H' : Hp} {S : List Addr} {a : Addr} {xs : List V} (e : Fr S H H') (n : ∀ o, (∀ t, o ≠ .tbl t) -> H a = some o -> a ∉ S) (h : SqL K H a xs) : SqL K H' a xs := by
  rcases h with (h | ⟨o, h⟩) | h
  . exact .inl (.inl (e _ _ (n _ (fun _ z => by cases z) h) h))
  . exact .inl (.inr ⟨o, e _ _ (n _ (fun _ z => by cases z) h) h⟩)
  . exact .inr h
theorem ZD6 {a lg tl b : Addr} (n1 : b ≠ a) (n2 : b ≠ lg) (n3 : b ≠ tl) : b ∉ [a, lg, tl] := fun z => by
  rcases yAD.mp z with z | z
  . exact n1 z
  rcases yAD.mp z with z | z
  . exact n2 z
  . exact n3 (yBA.mp z)
theorem lx_asym {ks : List Int} {x y : Nat} (a : lx ks x y) : ¬ lx ks y x := by unfold lx at *; omega
instance (ks : List Int) (x y : Nat) : Decidable (lx ks x y) := by unfold lx; exact inferInstance
theorem ZDe {os : List Nat} {m o : Nat} (h : os[m]? = some o) : atI (nL os) (m : Int) = some (.int o) := ZAT (by omega) (by rw [Int.toNat_natCast, yAR, h]; rfl)
theorem ZEO {γ : Type} {M : γ -> Prop} (P : γ -> Prop) {G : Prop} (h : (∀ z, P z -> M z) -> G) (t : ∀ z, P z -> M z) : G := h t
theorem once2 {α β : Type} {M : α -> β -> Prop} (P : α -> β -> Prop) {G : Prop} (h : (∀ x y, P x y -> M x y) -> G) (t : ∀ x y, P x y -> M x y) : G := h t
theorem once4 {α β γ δ : Type} {M : α -> β -> γ -> δ -> Prop} (P : α -> β -> γ -> δ -> Prop) {G : Prop} (h : (∀ x y z u, P x y z u -> M x y z u) -> G) (t : ∀ x y z u, P x y z u -> M x y z u) : G := h t
def ZCS : Sp := fun vs H Q _ => ∃ (c : Int) (m : Nat), vs = [.int c, .int m] /\ m <= 500 /\ ∀ l H' (zs : List Int), Same H H' -> H l = none -> H' l = some (.lst (zs.map V.int)) -> zs.length = m -> Q (.ref l) H'
def ZCU (K : W.Frag) : Sp := fun vs H Q _ => ∃ (a : Addr) (ns : List Int), vs = [.ref a] /\ SqL K H a (ns.map V.int) /\ ns.length <= 63 /\ ∀ l H' (zs : List Int), Same H H' -> H l = none -> H' l = some (.lst (zs.map V.int)) -> zs.length <= 250 -> Q (.ref l) H'
def Things (H : Hp) (ks : List Int) (xs : List V) : Prop := xs.length = ks.length /\ ∀ (i : Nat) k, ks[i]? = some k -> ∃ r, xs[i]? = some (V.ref r) /\ H r = some (.tup [.int k, .int i])
def ZEL : Sp := fun vs H Q _ => ∃ (a : Addr) (kd : Int) (zs : List Int), vs = [.ref a, .int kd] /\ H a = some (.lst (zs.map V.int)) /\ zs.length <= 250 /\ ∀ l H' ks xs, Same H H' -> H l = none -> H' l = some (.lst xs) -> ks.length = zs.length -> Things H' ks xs -> Q (.ref l) H'
theorem Things.zz {H : Hp} {ks : List Int} {xs : List V} (h : Things H ks xs) : ∃ zz : List PrA, xs = zz.map (fun z => V.ref z.1) /\ zz.length = ks.length /\ ∀ (i : Nat) z, zz[i]? = some z -> z.2 = (kat ks i, (i : Int)) /\ H z.1 = some (.tup [.int (kat ks i), .int i]) := by
  have key : ∀ n, n <= ks.length -> ∃ zz : List PrA, xs.take n = zz.map (fun z => V.ref z.1) /\ zz.length = n /\ ∀ (i : Nat) z, zz[i]? = some z -> z.2 = (kat ks i, (i : Int)) /\ H z.1 = some (.tup [.int (kat ks i), .int i]) := by
    intro n
    induction n with
    | zero => intro _; exact ⟨[], rfl, rfl, fun i z e => by simp at e⟩
    | succ n ih =>
      intro hn
      obtain ⟨zz, a1, a2, a3⟩ := ih (by omega)
      obtain ⟨r, b1, b2⟩ := h.2 n _ (yAM (show n < ks.length by omega))
      have ek : ks[n] = kat ks n := by unfold kat; rw [yAM (show n < ks.length by omega)]; rfl
      rw [ek] at b2
      refine ⟨zz ++ [(r, kat ks n, (n : Int))], ?_, by rw [yAC, a2]; rfl, fun i z e => ?_⟩
      . rw [yCE, b1, a1, yAW]
        rfl
      . by_cases hi : i < zz.length
        . rw [yBH hi] at e
          exact a3 i z e
        . have h1 := (yAG.mp e).1
          rw [yAC, yAV] at h1
          have : i = n := by omega
          subst this
          rw [yBG (by omega), show i - zz.length = 0 by omega] at e
          cases e
          exact ⟨rfl, b2⟩
  obtain ⟨zz, a1, a2, a3⟩ := key ks.length (yAA _)
  rw [yBC (by rw [h.1]; exact yAA _)] at a1
  exact ⟨zz, a1, a2, a3⟩
inductive Bin (z : Nat) : Nat -> Nat -> List Nat -> Prop
  | done {i : Nat} : Bin z i i []
  | more {lo hi : Nat} {l : List Nat} : lo < hi -> (lo + hi - 1) / 2 < z -> Bin z ((lo + hi - 1) / 2 + 1) hi l -> Bin z lo hi ((lo + hi - 1) / 2 :: l)
  | less {lo hi : Nat} {l : List Nat} : lo < hi -> z <= (lo + hi - 1) / 2 -> Bin z lo ((lo + hi - 1) / 2) l -> Bin z lo hi ((lo + hi - 1) / 2 :: l)
inductive Gal (z n f : Nat) : Nat -> Nat -> List Nat -> Prop
  | out {lo far : Nat} {l : List Nat} : n <= far -> Bin z lo n l -> Gal z n f lo far l
  | stop {lo far : Nat} {l : List Nat} : far < n -> z <= far -> Bin z lo far l -> Gal z n f lo far (far :: l)
  | more {lo far : Nat} {l : List Nat} : far < n -> far < z -> Gal z n f (far + 1) (2 * far - f + 1) l -> Gal z n f lo far (far :: l)
theorem Bin.len {z lo hi : Nat} {l : List Nat} (h : Bin z lo hi l) : l.length <= hi - lo := by
  induction h with
  | done => simp
  | more a b c ih => rw [yAF]; omega
  | less a b c ih => rw [yAF]; omega
theorem Bin.bits {z lo hi : Nat} {l : List Nat} (h : Bin z lo hi l) : ∀ k, hi - lo < 2 ^ k -> l.length <= k := by
  induction h with
  | done => intro k _; simp
  | @more lo hi l a b c ih =>
    intro k hk
    cases k with
    | zero => rw [Nat.pow_zero] at hk; omega
    | succ k =>
      rw [yBL] at hk
      rw [yAF]
      have := ih k (by omega)
      omega
  | @less lo hi l a b c ih =>
    intro k hk
    cases k with
    | zero => rw [Nat.pow_zero] at hk; omega
    | succ k =>
      rw [yBL] at hk
      rw [yAF]
      have := ih k (by omega)
      omega
theorem ZB9 (j : Nat) : 2 ^ (j + 1) / 2 = 2 ^ j := by rw [yBL]; omega
theorem lt_two_pow' (j : Nat) : j + 1 <= 2 ^ j := Nat.lt_two_pow_self
theorem Gal.all {z n f lo far : Nat} {l : List Nat} (h : Gal z n f lo far l) : ∀ j : Nat, lo = f + 2 ^ j / 2 -> far + 1 = f + 2 ^ j -> f <= n -> lo <= n -> z = n -> l.length + j <= n - f := by
  induction h with
  | @out lo far l a c =>
    intro j e1 e2 h1 h2 h3
    have := c.len
    cases j with
    | zero => rw [Nat.pow_zero] at e1; omega
    | succ j =>
      rw [ZB9] at e1
      have := lt_two_pow' j
      omega
  | @stop lo far l a c d => intro j e1 e2 h1 h2 h3; omega
  | @more lo far l a c d ih =>
    intro j e1 e2 h1 h2 h3
    have hp := yCF (n := j)
    have := ih (j + 1) (by rw [ZB9]; omega) (by rw [yBL]; omega) h1 (by omega) h3
    rw [yAF]
    omega
theorem Gal.range {z n f lo far : Nat} {l : List Nat} (h : Gal z n f lo far l) : f <= lo -> lo <= n -> f <= far -> ∀ i ∈ l, f <= i /\ i < n := by
  have hB : ∀ {z lo hi : Nat} {l : List Nat}, Bin z lo hi l -> f <= lo -> hi <= n -> ∀ i ∈ l, f <= i /\ i < n := by
    intro z lo hi l h
    induction h with
    | done => intro _ _ i hi; cases hi
    | more a b c ih =>
      intro h1 h2 i hi
      rcases yAD.mp hi with e | e
      . omega
      . exact ih (by omega) h2 i e
    | less a b c ih =>
      intro h1 h2 i hi
      rcases yAD.mp hi with e | e
      . omega
      . exact ih h1 (by omega) i e
  induction h with
  | out a b => intro h1 h2 h3; exact hB b h1 (yAA _)
  | stop a b c =>
    intro h1 h2 h3 i hi
    rcases yAD.mp hi with e | e
    . omega
    . exact hB c h1 (by omega) i e
  | more a b c ih =>
    intro h1 h2 h3 i hi
    rcases yAD.mp hi with e | e
    . omega
    . exact ih (by omega) (by omega) (by omega) i e
def ask1 (os : List Nat) (pl i : Nat) : Nat × Nat := (max ((os[i]?).getD 0) pl, min ((os[i]?).getD 0) pl)
def ZDs (CA CR : Addr) : Sp := fun vs H Q _ => ∃ (ks : List Int) (xs : List V) (a rl ru tl g lg bl ol : Addr) (pr : List (Nat × Nat)) (os : List Nat) (f pl : Nat), vs = [.ref a, .ref ol, .int f, .int pl] /\ SitP CA CR H ks xs a rl ru tl g lg bl pr /\ H ol = some (.lst (nL os)) /\ ol ∉ [a, lg, tl] /\ os.length <= 500 /\ (∀ x ∈ os, x < ks.length /\ x ≠ pl) /\ pl < ks.length /\ ks.length <= 1000 /\ pr.length <= 70000 /\ f <= os.length /\
  ∀ z H' L, f <= z -> z <= os.length -> Fr [a, lg, tl] H H' -> Gal z os.length f f f L -> SitP CA CR H' ks xs a rl ru tl g lg bl (pr ++ L.map (ask1 os pl)) -> Q (.int (z - f : Nat)) H'
structure LIn1 (CA CR : Addr) (ks : List Int) (xs : List V) (a rl ru tl g lg bl : Addr) (pr : List (Nat × Nat)) (os : List Nat) (f pl : Nat) (H : Hp) (lo far : Nat) (dn : List Nat) (H' : Hp) : Prop where
  h1 : f <= lo
  h2 : lo <= os.length
  h3 : lo <= far
  h4 : dn.length + f <= lo
  fr : Fr [a, lg, tl] H H'
  st : SitP CA CR H' ks xs a rl ru tl g lg bl (pr ++ dn.map (ask1 os pl))
  hg : ∀ z L, lo <= z -> Gal z os.length f lo far L -> Gal z os.length f f f (dn ++ L)
structure LIn2 (CA CR : Addr) (ks : List Int) (xs : List V) (a rl ru tl g lg bl : Addr) (pr : List (Nat × Nat)) (os : List Nat) (f pl : Nat) (H : Hp) (lo hi : Nat) (dn : List Nat) (H' : Hp) : Prop where
  h1 : f <= lo
  h2 : lo <= hi
  h4 : hi <= os.length
  h5 : dn.length + (hi - lo) <= 2 * os.length + 1
  fr : Fr [a, lg, tl] H H'
  st : SitP CA CR H' ks xs a rl ru tl g lg bl (pr ++ dn.map (ask1 os pl))
  hg : ∀ z L, lo <= z -> z <= hi -> Bin z lo hi L -> Gal z os.length f f f (dn ++ L)
def nw (w : Nat) (s : Bool) : Nat := if s then w + 1 else 1
inductive JT (ks : List Int) : List Nat -> List Nat -> Nat -> Nat -> Nat -> Bool -> List Nat -> List (Nat × Nat) -> Prop
  | done {ls rs : List Nat} {i j w : Nat} {s : Bool} : ¬ (i < ls.length /\ j < rs.length) -> JT ks ls rs i j w s (ls.drop i ++ rs.drop j) []
  | step {ls rs ps : List Nat} {i j w x y : Nat} {s : Bool} {L : List (Nat × Nat)} : ls[i]? = some x -> rs[j]? = some y -> True -> nw w s ≠ 4 -> JT ks ls rs (i + 1) j (nw w s) true ps L -> JT ks ls rs i j w s (x :: ps) ((max x y, min x y) :: L)
  | leap {ls rs ps G : List Nat} {i j w x y z : Nat} {s : Bool} {L : List (Nat × Nat)} : ls[i]? = some x -> rs[j]? = some y -> True -> nw w s = 4 -> i + 1 <= z -> z < ls.length -> True -> Gal z ls.length (i + 1) (i + 1) (i + 1) G -> JT ks ls rs z (j + 1) 0 true ps L -> JT ks ls rs i j w s ((ls.drop i).take (z - i) ++ y :: ps) ((max x y, min x y) :: (G.map (ask1 ls y) ++ L))
  | last {ls rs ps G : List Nat} {i j w x y : Nat} {s : Bool} {L : List (Nat × Nat)} : ls[i]? = some x -> rs[j]? = some y -> True -> nw w s = 4 -> True -> Gal ls.length ls.length (i + 1) (i + 1) (i + 1) G -> JT ks ls rs ls.length j 0 true ps L -> JT ks ls rs i j w s (ls.drop i ++ ps) ((max x y, min x y) :: (G.map (ask1 ls y) ++ L))
  | swap {ls rs ps : List Nat} {i j w : Nat} {s : Bool} {L : List (Nat × Nat)} : JT ks rs ls j i w (!s) ps L -> JT ks ls rs i j w s ps L
theorem ZA4 {os : List Nat} {i x : Nat} (h : os[i]? = some x) : os.drop i = x :: os.drop (i + 1) := by
  obtain ⟨h1, e⟩ := yAG.mp h
  rw [List.drop_eq_getElem_cons h1, e]
theorem drop_seg {os : List Nat} {i z : Nat} (h : i <= z) : os.drop i = (os.drop i).take (z - i) ++ os.drop z := by
  have : os.drop z = (os.drop i).drop (z - i) := by rw [List.drop_drop, show i + (z - i) = z by omega]
  rw [this, yBX]
theorem JT.mem {ks : List Int} {ls rs ps : List Nat} {i j w : Nat} {s : Bool} {L : List (Nat × Nat)} (h : JT ks ls rs i j w s ps L) : ∀ u, u ∈ ps ↔ u ∈ ls.drop i ∨ u ∈ rs.drop j := by
  induction h with
  | done _ => intro u; rw [yAU]
  | step a b c d e ih =>
    intro u
    rw [ZA4 a, yAD, yAD, ih]
    exact ⟨fun z => z.elim (fun z => .inl (.inl z)) fun z => z.elim (fun z => .inl (.inr z)) .inr, fun z => z.elim (fun z => z.elim .inl fun z => .inr (.inl z)) fun z => .inr (.inr z)⟩
  | @leap ls rs ps G i j w x y z s L a b c d e f g k l ih =>
    intro u
    rw [drop_seg (os := ls) (show i <= z by omega), ZA4 b, yAU, yAU, yAD, yAD, ih, List.take_append_of_le_length (by rw [yAP, yAZ]; omega), yBC (by rw [yAP]; omega)]
    exact ⟨fun z => z.elim (fun z => .inl (.inl z)) fun z => z.elim (fun z => .inr (.inl z)) fun z => z.elim (fun z => .inl (.inr z)) fun z => .inr (.inr z), fun z => z.elim (fun z => z.elim .inl fun z => .inr (.inr (.inl z))) fun z => z.elim (fun z => .inr (.inl z)) fun z => .inr (.inr (.inr z))⟩
  | @last ls rs ps G i j w x y s L a b c d g k l ih =>
    intro u
    rw [yAU, ih, List.drop_of_length_le (yAA _)]
    exact ⟨fun z => z.elim .inl fun z => z.elim (fun z => by cases z) .inr, fun z => z.elim .inl fun z => .inr (.inr z)⟩
  | swap h ih => intro u; rw [ih]; exact Or.comm
theorem ask1_eq {os : List Nat} {pl i x : Nat} (h : os[i]? = some x) : ask1 os pl i = (max x pl, min x pl) := by unfold ask1; rw [h]; rfl
theorem mm_comm (x y : Nat) : (max x y, min x y) = (max y x, min y x) := by rw [Nat.max_comm, Nat.min_comm]
theorem two_pow_lin (n : Nat) : 2 * (n + 1) <= 2 ^ n + 2 := by
  induction n with
  | zero => decide
  | succ n ih =>
    rw [yBL]
    cases n with
    | zero => decide
    | succ n => rw [yBL] at *; have := yCF (n := n); omega
theorem bits_lin {g b : Nat} (h : ∀ c, g < 2 ^ c -> b <= c) : max 1 (2 * b) <= g + 2 /\ (g < 2 -> max 1 (2 * b) <= g + 1) := by
  cases b with
  | zero => omega
  | succ b =>
    have : 2 ^ b <= g := by
      rcases Nat.lt_or_ge g (2 ^ b) with z | z
      . have := h b z; omega
      . exact z
    have := two_pow_lin b
    refine ⟨by omega, fun z => ?_⟩
    cases b with
    | zero => rw [Nat.pow_zero] at this; omega
    | succ b => rw [yBL] at *; have := yCF (n := b); omega
theorem Gal.most' {z n f lo far : Nat} {l : List Nat} (h : Gal z n f lo far l) : ∀ (j b : Nat), lo = f + 2 ^ j / 2 -> far + 1 = f + 2 ^ j -> f <= z -> z <= n -> z - f < 2 ^ b -> (∀ c, z - f < 2 ^ c -> b <= c) -> j <= b -> l.length + j <= max 1 (2 * b) := by
  induction h with
  | @out lo far l a c =>
    intro j b e1 e2 h1 h2 h3 h4 h5
    have hb := h4 j (by omega)
    have ej : j = b := by omega
    subst ej
    cases j with
    | zero =>
      rw [Nat.pow_zero] at e1 e2
      have := c.len
      omega
    | succ j =>
      rw [ZB9] at e1
      rw [yBL] at e2
      have := c.bits j (by have := yCF (n := j); omega)
      omega
  | @stop lo far l a c d =>
    intro j b e1 e2 h1 h2 h3 h4 h5
    have hb := h4 j (by omega)
    have ej : j = b := by omega
    subst ej
    rw [yAF]
    cases j with
    | zero =>
      rw [Nat.pow_zero] at e1 e2
      have := d.len
      omega
    | succ j =>
      rw [ZB9] at e1
      rw [yBL] at e2
      have := d.bits j (by have := yCF (n := j); omega)
      omega
  | @more lo far l a c d ih =>
    intro j b e1 e2 h1 h2 h3 h4 h5
    have hjb : j + 1 <= b := by
      rcases Nat.lt_or_ge j b with z | z
      . exact z
      . have := Nat.pow_le_pow_right (show 2 > 0 by decide) z
        omega
    have hp := yCF (n := j)
    have := ih (j + 1) b (by rw [ZB9]; omega) (by rw [yBL]; omega) h1 h2 h3 h4 hjb
    rw [yAF]
    omega
def ZBo (g : Nat) : Nat := if g = 0 then 0 else g.log2 + 1
theorem nbits_lt (g : Nat) : g < 2 ^ ZBo g := by
  unfold ZBo
  split
  . omega
  . exact (Nat.log2_lt (by omega)).mp (yBS _)
theorem ZCM {g c : Nat} (h : g < 2 ^ c) : ZBo g <= c := by
  unfold ZBo
  split
  . exact yAH _
  . exact (Nat.log2_lt (by omega)).mpr h
theorem nbits_mono {a b : Nat} (h : a <= b) : ZBo a <= ZBo b := ZCM (Nat.lt_of_le_of_lt h (nbits_lt b))
theorem Gal.looks {z n f : Nat} {l : List Nat} (h : Gal z n f f f l) (h1 : f <= z) (h2 : z <= n) : l.length <= max 1 (2 * ZBo (z - f)) := by
  have := h.most' 0 (ZBo (z - f)) (by simp) (by simp) h1 h2 (nbits_lt _) (fun c => ZCM) (yAH _)
  omega
theorem Gal.lin {z n f : Nat} {l : List Nat} (h : Gal z n f f f l) (h1 : f <= z) (h2 : z <= n) : 7 * l.length <= 8 * (z - f) + 12 := by
  have h3 := h.looks h1 h2
  obtain ⟨g1, g2⟩ := bits_lin (g := z - f) (b := ZBo (z - f)) fun c => ZCM
  clear h
  generalize z - f = g at *
  generalize max 1 (2 * ZBo g) = m at *
  clear h1 h2
  omega
theorem JT.most7 {ks : List Int} {ls rs ps : List Nat} {i j w : Nat} {s : Bool} {L : List (Nat × Nat)} (h : JT ks ls rs i j w s ps L) : w <= 3 -> i <= ls.length -> j <= rs.length -> 1 <= (ls.length - i) + (rs.length - j) -> 7 * (L.length + 1) <= 8 * ((ls.length - i) + (rs.length - j)) + w := by
  induction h with
  | done n => intro h1 h2 h3 h4; rw [yBW]; omega
  | @step ls rs ps i j w x y s L a b c d e ih =>
    intro h1 h2 h3 h4
    have hi := (yAG.mp a).1
    have hj := (yAG.mp b).1
    have hn : nw w s <= w + 1 := by unfold nw; split <;> omega
    have := ih (by omega) (by omega) h3 (by omega)
    rw [yAF]
    omega
  | @leap ls rs ps G i j w x y z s L a b c d e f g k l ih =>
    intro h1 h2 h3 h4
    have hi := (yAG.mp a).1
    have hj := (yAG.mp b).1
    have hw : w = 3 := by unfold nw at d; split at d <;> omega
    have := ih (by omega) (by omega) (by omega) (by omega)
    have hG := k.lin e (yBI f)
    rw [yAF, yAC, yAB]
    omega
  | @last ls rs ps G i j w x y s L a b c d g k l ih =>
    intro h1 h2 h3 h4
    have hi := (yAG.mp a).1
    have hj := (yAG.mp b).1
    have := ih (by omega) (by omega) (by omega) (by omega)
    have hG := k.all 0 (by simp) (by simp) hi hi rfl
    rw [yAF, yAC, yAB]
    omega
  | @swap ls rs ps i j w s L h ih =>
    intro h1 h2 h3 h4
    have := ih h1 h3 h2 (by omega)
    omega
theorem JT.most {ks : List Int} {ls rs ps : List Nat} {i j w : Nat} {s : Bool} {L : List (Nat × Nat)} (h : JT ks ls rs i j w s ps L) (h1 : w <= 3) (h2 : i <= ls.length) (h3 : j <= rs.length) (h4 : 1 <= (ls.length - i) + (rs.length - j)) : L.length + 1 <= (ls.length - i) + (rs.length - j) + ((ls.length - i) + (rs.length - j) + w) / 7 := by
  have := h.most7 h1 h2 h3 h4
  clear h
  omega
theorem JT.len {ks : List Int} {ls rs ps : List Nat} {i j w : Nat} {s : Bool} {L : List (Nat × Nat)} (h : JT ks ls rs i j w s ps L) : w <= 3 -> i <= ls.length -> j <= rs.length -> L.length <= 2 * ((ls.length - i) + (rs.length - j)) := by
  intro h1 h2 h3
  by_cases t : 1 <= (ls.length - i) + (rs.length - j)
  . have := h.most h1 h2 h3 t
    omega
  . have : ∀ {ls rs ps : List Nat} {i j w : Nat} {s : Bool} {L : List (Nat × Nat)}, JT ks ls rs i j w s ps L -> ls.length <= i -> rs.length <= j -> L = [] := by
      intro ls rs ps i j w s L h
      induction h with
      | done n => intro _ _; rfl
      | step a => intro h _; have := (yAG.mp a).1; omega
      | leap a => intro h _; have := (yAG.mp a).1; omega
      | last a => intro h _; have := (yAG.mp a).1; omega
      | swap h ih => intro h1 h2; exact ih h2 h1
    rw [this h (by omega) (by omega)]
    exact yAH _
theorem ZD5 {x y : Nat} (h : x ≠ y) : (max x y, min x y).2 < (max x y, min x y).1 := by show min x y < max x y; omega
theorem JT.ord {ks : List Int} {ls rs ps : List Nat} {i j w : Nat} {s : Bool} {L : List (Nat × Nat)} (h : JT ks ls rs i j w s ps L) : (∀ x ∈ ls, ∀ y ∈ rs, x ≠ y) -> ∀ c ∈ L, c.2 < c.1 := by
  induction h with
  | done _ => intro _ c hc; cases hc
  | step a b c d e ih =>
    intro hd c hc
    rcases yAD.mp hc with z | z
    . rw [z]; exact ZD5 (hd _ (yAO a) _ (yAO b))
    . exact ih hd c z
  | @leap ls rs ps G i j w x y z s L a b c d e f g k l ih =>
    intro hd c hc
    rcases yAD.mp hc with t | t
    . rw [t]; exact ZD5 (hd _ (yAO a) _ (yAO b))
    rcases yAU.mp t with t | t
    . obtain ⟨n, hn, rfl⟩ := yBB.mp t
      have hr := k.range (yAA _) (by omega) (yAA _) n hn
      have he := yAM hr.2
      rw [ask1_eq he]
      exact ZD5 (hd _ (yAO he) _ (yAO b))
    . exact ih hd c t
  | @last ls rs ps G i j w x y s L a b c d g k l ih =>
    intro hd c hc
    rcases yAD.mp hc with t | t
    . rw [t]; exact ZD5 (hd _ (yAO a) _ (yAO b))
    rcases yAU.mp t with t | t
    . obtain ⟨n, hn, rfl⟩ := yBB.mp t
      have hr := k.range (yAA _) (yAG.mp a).1 (yAA _) n hn
      have he := yAM hr.2
      rw [ask1_eq he]
      exact ZD5 (hd _ (yAO he) _ (yAO b))
    . exact ih hd c t
  | swap h ih => intro hd c hc; exact ih (fun x hx y hy e => hd y hy x hx e.symm) c hc
theorem JT.none {ks : List Int} {ls rs ps : List Nat} {i j w : Nat} {s : Bool} {L : List (Nat × Nat)} (h : JT ks ls rs i j w s ps L) : ls.length <= i ∨ rs.length <= j -> L = [] := by
  induction h with
  | done n => intro _; rfl
  | step a b => intro h; have := (yAG.mp a).1; have := (yAG.mp b).1; omega
  | leap a b => intro h; have := (yAG.mp a).1; have := (yAG.mp b).1; omega
  | last a b => intro h; have := (yAG.mp a).1; have := (yAG.mp b).1; omega
  | swap h ih => intro h; exact ih h.symm
abbrev fJ (ak sd tk pc : Addr) : List (Str × V) := [("places", .ref pc), ("taken", .ref tk), ("sides", .ref sd), ("asker", .ref ak)]
def pk {α : Type} (b : Bool) (x y : α) : List α := if b then [x, y] else [y, x]
def sv (b : Bool) : Int := if b then 0 else 1
theorem ZBr {b : Bool} {x y : V} : atI (pk b x y) (sv b) = some x := by cases b <;> exact ZAT (by decide) rfl
theorem pk_swap {α : Type} {b : Bool} {x y : α} : pk (!b) y x = pk b x y := by cases b <;> rfl
theorem pk_len {α : Type} {b : Bool} {x y : α} : (pk b x y).length = 2 := by cases b <;> rfl
theorem pk_set {b : Bool} {x y z : V} : (pk b x y).set (sv b).toNat z = pk b z y := by cases b <;> rfl
structure JS (CJ : Addr) (H : Hp) (b : Bool) (jn ak sd ma ta tk pc : Addr) (ms ts : List Nat) (i j : Nat) (dn : List Nat) : Prop where
  hj : Ins H jn CJ (fJ ak sd tk pc)
  hsd : H sd = some (.tup (pk b (.ref ma) (.ref ta)))
  hma : H ma = some (.lst (nL ms))
  hta : H ta = some (.lst (nL ts))
  htk : H tk = some (.lst (pk b (.int i) (.int j)))
  hpc : H pc = some (.lst (nL dn))
  ne : tk ≠ pc /\ ma ≠ tk /\ ma ≠ pc /\ ta ≠ tk /\ ta ≠ pc
section
variable {CJ : Addr} {H H' : Hp} {b : Bool} {jn ak sd ma ta tk pc : Addr} {ms ts : List Nat} {i j : Nat} {dn : List Nat}
theorem JS.swap (h : JS CJ H b jn ak sd ma ta tk pc ms ts i j dn) : JS CJ H (!b) jn ak sd ta ma tk pc ts ms j i dn :=
  ⟨h.hj, by rw [pk_swap]; exact h.hsd, h.hta, h.hma, by rw [pk_swap]; exact h.htk, h.hpc, h.ne.1, h.ne.2.2.2.1, h.ne.2.2.2.2, h.ne.2.1, h.ne.2.2.1⟩
theorem JS.keep {i' j' : Nat} {dn' : List Nat} (h : JS CJ H b jn ak sd ma ta tk pc ms ts i j dn) (e : Fr [tk, pc] H H') (h1 : H' tk = some (.lst (pk b (.int i') (.int j')))) (h2 : H' pc = some (.lst (nL dn'))) : JS CJ H' b jn ak sd ma ta tk pc ms ts i' j' dn' := by
  have n2 : ∀ {x : Addr}, x ≠ tk -> x ≠ pc -> x ∉ [tk, pc] := fun a b z => (yAD.mp z).elim a fun z => b (yBA.mp z)
  have hj : jn ∉ [tk, pc] := n2 (Ne.symm (h.hj.ne h.htk fun _ _ _ z => by cases z)) (Ne.symm (h.hj.ne h.hpc fun _ _ _ z => by cases z))
  have hs : sd ∉ [tk, pc] := n2 (fun z => by have := h.hsd; rw [z, h.htk] at this; cases this) (fun z => by have := h.hsd; rw [z, h.hpc] at this; cases this)
  exact ⟨ZDb e hj h.hj, e _ _ hs h.hsd, e _ _ (n2 h.ne.2.1 h.ne.2.2.1) h.hma, e _ _ (n2 h.ne.2.2.2.1 h.ne.2.2.2.2) h.hta, h1, h2, h.ne⟩
theorem JS.fr {S : List Addr} (h : JS CJ H b jn ak sd ma ta tk pc ms ts i j dn) (e : Fr S H H') (n : jn ∉ S /\ sd ∉ S /\ ma ∉ S /\ ta ∉ S /\ tk ∉ S /\ pc ∉ S) : JS CJ H' b jn ak sd ma ta tk pc ms ts i j dn :=
  ⟨ZDb e n.1 h.hj, e _ _ n.2.1 h.hsd, e _ _ n.2.2.1 h.hma, e _ _ n.2.2.2.1 h.hta, e _ _ n.2.2.2.2.1 h.htk, e _ _ n.2.2.2.2.2 h.hpc, h.ne⟩
theorem JS.mono (h : JS CJ H b jn ak sd ma ta tk pc ms ts i j dn) (e : Same H H') : JS CJ H' b jn ak sd ma ta tk pc ms ts i j dn :=
  h.fr (S := []) e.fr ⟨yCG, yCG, yCG, yCG, yCG, yCG⟩
end
def ZDK (CJ : Addr) : Sp := fun vs H Q _ => ∃ (x dx ak al ar : Addr) (ls rs : List Nat), vs = [.ref x, .ref ak, .ref al, .ref ar] /\ H x = some (.ins CJ dx []) /\ H al = some (.lst (nL ls)) /\ H ar = some (.lst (nL rs)) /\
  ∀ sd la ra tk pc H', (∀ b o, b ≠ x -> H b = some o -> H' b = some o) -> H sd = none -> H la = none -> H ra = none -> H tk = none -> H pc = none -> JS CJ H' true x ak sd la ra tk pc ls rs 0 0 [] -> Q .non H'
def ZB6 (CJ : Addr) : Sp := fun vs H Q _ => ∃ (b : Bool) (jn ak sd ma ta tk pc : Addr) (ms ts : List Nat) (i j : Nat) (dn : List Nat), vs = [.ref jn, .int (sv b)] /\ JS CJ H b jn ak sd ma ta tk pc ms ts i j dn /\ Q (.bl (decide (i < ms.length))) H
def ZCy (CJ : Addr) : Sp := fun vs H Q _ => ∃ (b : Bool) (jn ak sd ma ta tk pc : Addr) (ms ts : List Nat) (i j : Nat) (dn : List Nat) (x : Nat), vs = [.ref jn, .int (sv b)] /\ JS CJ H b jn ak sd ma ta tk pc ms ts i j dn /\ ms[i]? = some x /\ Q (.int x) H
def ZB5 (CJ : Addr) : Sp := fun vs H Q _ => ∃ (b : Bool) (jn ak sd ma ta tk pc : Addr) (ms ts : List Nat) (i j : Nat) (dn : List Nat) (m : Nat), vs = [.ref jn, .int (sv b), .int m] /\ JS CJ H b jn ak sd ma ta tk pc ms ts i j dn /\ i + m <= ms.length /\ dn.length + ms.length <= 1000 /\
  ∀ H', Fr [tk, pc] H H' -> JS CJ H' b jn ak sd ma ta tk pc ms ts (i + m) j (dn ++ (ms.drop i).take m) -> Q .non H'
def ZCB (CJ : Addr) : Sp := fun vs H Q _ => ∃ (b : Bool) (jn ak sd ma ta tk pc : Addr) (ms ts : List Nat) (i j : Nat) (dn : List Nat), vs = [.ref jn, .int (sv b)] /\ JS CJ H b jn ak sd ma ta tk pc ms ts i j dn /\ i <= ms.length /\ dn.length + ms.length <= 1000 /\
  ∀ H', Fr [tk, pc] H H' -> JS CJ H' b jn ak sd ma ta tk pc ms ts ms.length j (dn ++ ms.drop i) -> Q .non H'
theorem SitP.apart {CA CR : Addr} {H H' : Hp} {ks : List Int} {xs : List V} {a rl ru tl g lg bl : Addr} {pr : List (Nat × Nat)} {S : List Addr} (h : SitP CA CR H ks xs a rl ru tl g lg bl pr) (e : Fr S H H') (hS : ∀ b ∈ S, ∃ l, H b = some (.lst l)) (n : rl ∉ S /\ lg ∉ S /\ tl ∉ S /\ bl ∉ S) : SitP CA CR H' ks xs a rl ru tl g lg bl pr := by
  have k : ∀ {b : Addr} {o : HO}, H b = some o -> (∀ l, o ≠ .lst l) -> H' b = some o := fun {b o} hb z => e _ _ (fun m => by obtain ⟨l, hl⟩ := hS b m; rw [hl] at hb; exact z _ (Option.some.inj hb).symm) hb
  have ki : ∀ {b C : Addr} {fl : List (Str × V)}, Ins H b C fl -> Ins H' b C fl := fun hi => let ⟨dx, fs, h1, h2, h3⟩ := hi.ex; ⟨dx, fs, k h1 (fun _ z => by cases z), h2, h3⟩
  obtain ⟨ws, h4, h5⟩ := h.hlg
  obtain ⟨us, h6, h7⟩ := h.htl
  have hrow : ∀ (i : Nat) kk, ks[i]? = some kk -> ∃ r, xs[i]? = some (V.ref r) /\ H' r = some (.tup [.int kk, .int i]) := fun i kk hk => by
    obtain ⟨r, a1, a2⟩ := h.row i kk hk
    exact ⟨r, a1, k a2 (fun _ z => by cases z)⟩
  have hclo := h.clo.mono (H' := H') (fun b o hb => k hb (fun _ z => by cases z))
  have hl := h5.keep (H' := H') (fun _ _ z => k z (fun _ y => by cases y))
  have ht := h7.keep (H' := H') (fun _ _ z => k z (fun _ y => by cases y))
  exact ⟨ki h.ha, e _ _ n.1 h.hrl, ki h.hru, hclo, (let ⟨bs, z1, z2⟩ := h.hbl; ⟨bs, e _ _ n.2.2.2 z1, z2⟩), h.len, hrow, ⟨ws, e _ _ n.2.1 h4, hl⟩, ⟨us, e _ _ n.2.2.1 h6, ht⟩, h.ne⟩
structure NX (a rl bl lg tl jn sd ma ta tk pc : Addr) : Prop where
  n1 : jn ∉ [a, lg, tl] /\ sd ∉ [a, lg, tl] /\ ma ∉ [a, lg, tl] /\ ta ∉ [a, lg, tl] /\ tk ∉ [a, lg, tl] /\ pc ∉ [a, lg, tl]
  n2 : rl ∉ [tk, pc] /\ lg ∉ [tk, pc] /\ tl ∉ [tk, pc] /\ bl ∉ [tk, pc]
theorem NX.swap {a rl bl lg tl jn sd ma ta tk pc : Addr} (h : NX a rl bl lg tl jn sd ma ta tk pc) : NX a rl bl lg tl jn sd ta ma tk pc := ⟨⟨h.n1.1, h.n1.2.1, h.n1.2.2.2.1, h.n1.2.2.1, h.n1.2.2.2.2⟩, h.n2⟩
theorem fr_sub {S S' : List Addr} {H H' : Hp} (h : Fr S H H') (k : ∀ b ∈ S, b ∈ S') : Fr S' H H' := fun b o n hb => h b o (fun m => n (k b m)) hb
theorem fr5a {a lg tl tk pc : Addr} {H H' : Hp} (h : Fr [a, lg, tl] H H') : Fr [a, lg, tl, tk, pc] H H' := fr_sub h fun b hb => by
  rcases yAD.mp hb with z | z
  . rw [z]; exact yAE
  rcases yAD.mp z with z | z
  . rw [z]; exact yAJ _ yAE
  . rw [yBA.mp z]; exact yAJ _ (yAJ _ yAE)
theorem fr5b {a lg tl tk pc : Addr} {H H' : Hp} (h : Fr [tk, pc] H H') : Fr [a, lg, tl, tk, pc] H H'   := fr_sub h fun b hb => yAJ _ (yAJ _ (yAJ _ hb))
section
variable {CA CR CJ : Addr} {H H' : Hp} {b : Bool} {ks : List Int} {xs : List V} {jn a rl ru tl g lg bl sd ma ta tk pc : Addr} {ms ts : List Nat} {i j : Nat} {dn : List Nat} {pr : List (Nat × Nat)}
theorem JS.lsts (h : JS CJ H b jn a sd ma ta tk pc ms ts i j dn) : ∀ c ∈ [tk, pc], ∃ l, H c = some (.lst l) := fun c hc => by
  rcases yAD.mp hc with z | z
  . rw [z]; exact ⟨_, h.htk⟩
  . rw [yBA.mp z]; exact ⟨_, h.hpc⟩
end
def ZEK (CA CR CJ : Addr) : Sp := fun vs H Q _ => ∃ (ks : List Int) (xs : List V) (a rl ru tl g lg bl jn sd la ra tk pc : Addr) (pr : List (Nat × Nat)) (ls rs dn : List Nat) (i j x y : Nat), vs = [.ref jn] /\ SitP CA CR H ks xs a rl ru tl g lg bl pr /\ JS CJ H true jn a sd la ra tk pc ls rs i j dn /\ NX a rl bl lg tl jn sd la ra tk pc /\ ls[i]? = some x /\ rs[j]? = some y /\ x ≠ y /\ x < ks.length /\ y < ks.length /\ ks.length <= 1000 /\ pr.length <= 70000 /\ dn.length + ls.length <= 1000 /\ dn.length + rs.length <= 1000 /\
  ∀ bw H', Fr [a, lg, tl, tk, pc] H H' -> SitP CA CR H' ks xs a rl ru tl g lg bl (pr ++ [(max x y, min x y)]) -> (bw = true -> JS CJ H' true jn a sd la ra tk pc ls rs (i + 1) j (dn ++ [x])) -> (bw = false -> JS CJ H' true jn a sd la ra tk pc ls rs i (j + 1) (dn ++ [y])) -> Q (.int (sv bw)) H'
def ZCw (CA CR CJ : Addr) : Sp := fun vs H Q _ => ∃ (ks : List Int) (xs : List V) (a rl ru tl g lg bl jn sd ma ta tk pc : Addr) (b : Bool) (pr : List (Nat × Nat)) (ms ts dn : List Nat) (i j y : Nat), vs = [.ref jn, .int (sv b)] /\ SitP CA CR H ks xs a rl ru tl g lg bl pr /\ JS CJ H b jn a sd ma ta tk pc ms ts i j dn /\ NX a rl bl lg tl jn sd ma ta tk pc /\ ts[j]? = some y /\ ms.length <= 500 /\ (∀ x ∈ ms, x < ks.length /\ x ≠ y) /\ y < ks.length /\ ks.length <= 1000 /\ pr.length <= 70000 /\ dn.length + ms.length + ts.length <= 1000 /\ i <= ms.length /\
  ∀ z H' G, i <= z -> z <= ms.length -> Fr [a, lg, tl, tk, pc] H H' -> Gal z ms.length i i i G -> SitP CA CR H' ks xs a rl ru tl g lg bl (pr ++ G.map (ask1 ms y)) -> (z < ms.length -> JS CJ H' b jn a sd ma ta tk pc ms ts z (j + 1) (dn ++ (ms.drop i).take (z - i) ++ [y])) -> (z = ms.length -> JS CJ H' b jn a sd ma ta tk pc ms ts z j (dn ++ (ms.drop i).take (z - i))) -> Q .non H'
def ZCx (CA CR : Addr) : Sp := fun vs H Q _ => ∃ (ks : List Int) (xs : List V) (a rl ru tl g lg bl al ar : Addr) (pr : List (Nat × Nat)) (ls rs : List Nat), vs = [.ref a, .ref al, .ref ar] /\ SitP CA CR H ks xs a rl ru tl g lg bl pr /\ H al = some (.lst (nL ls)) /\ H ar = some (.lst (nL rs)) /\ ls.length <= 250 /\ rs.length <= 250 /\ (∀ x ∈ ls, x < ks.length) /\ (∀ x ∈ rs, x < ks.length) /\ (∀ x ∈ ls, ∀ y ∈ rs, x ≠ y) /\ ks.length <= 1000 /\ pr.length <= 60000 /\
  ∀ l H' ps L, Fr [a, lg, tl] H H' -> H l = none -> H' l = some (.lst (nL ps)) -> JT ks ls rs 0 0 0 true ps L -> SitP CA CR H' ks xs a rl ru tl g lg bl (pr ++ L) -> Q (.ref l) H'
theorem seg_cons {os : List Nat} {i x z : Nat} (h : os[i]? = some x) (hz : i + 1 <= z) : (os.drop i).take (z - i) = x :: (os.drop (i + 1)).take (z - (i + 1)) := by
  rw [ZA4 h, show z - i = z - (i + 1) + 1 by omega, List.take_succ_cons]
theorem ZCt {os : List Nat} {i x : Nat} (h : os[i]? = some x) : (os.drop i).take 1 = [x] := by
  rw [ZA4 h]; rfl
def JInv (C_Asker C_AskedRule C_Join : Addr) (ks : List Int) (xs : List V) (a rl ru tl g lg bl al ar jn sd la ra tk pc : Addr) (pr : List (Nat × Nat)) (ls rs : List Nat) (H2 : Hp) (mm' : Nat) (σ : St) (H' : Hp) : Prop := ∃ (i j w : Nat) (s : Bool) (v6 : Option V) (dn : List Nat) (as : List (Nat × Nat)), mm' = (ls.length - i) + (rs.length - j) /\ σ = [some (.ref a), some (.ref al), some (.ref ar), some (.ref jn), some (.int w), some (.int (sv s)), v6] /\ i <= ls.length /\ j <= rs.length /\ w <= 3 /\ dn.length = i + j /\ as.length <= 20 * (i + j) /\ Fr [a, lg, tl, tk, pc] H2 H' /\ SitP C_Asker C_AskedRule H' ks xs a rl ru tl g lg bl (pr ++ as) /\ JS C_Join H' true jn a sd la ra tk pc ls rs i j dn /\ ∀ ps L, JT ks ls rs i j w s ps L -> JT ks ls rs 0 0 0 true (dn ++ ps) (as ++ L)
theorem JInv.of {C_Asker C_AskedRule C_Join : Addr} {ks : List Int} {xs : List V} {a rl ru tl g lg bl al ar jn sd la ra tk pc : Addr} {pr : List (Nat × Nat)} {ls rs : List Nat} {H2 : Hp} {H' : Hp} {i j w : Nat} {s : Bool} {v6 : Option V} {dn : List Nat} {as : List (Nat × Nat)} (h1 : i <= ls.length) (h2 : j <= rs.length) (h3 : w <= 3) (h4 : dn.length = i + j) (h5 : as.length <= 20 * (i + j)) (h6 : Fr [a, lg, tl, tk, pc] H2 H') (h7 : SitP C_Asker C_AskedRule H' ks xs a rl ru tl g lg bl (pr ++ as)) (h8 : JS C_Join H' true jn a sd la ra tk pc ls rs i j dn) (h9 : ∀ ps L, JT ks ls rs i j w s ps L -> JT ks ls rs 0 0 0 true (dn ++ ps) (as ++ L)) : JInv C_Asker C_AskedRule C_Join ks xs a rl ru tl g lg bl al ar jn sd la ra tk pc pr ls rs H2 ((ls.length - i) + (rs.length - j)) [some (.ref a), some (.ref al), some (.ref ar), some (.ref jn), some (.int w), some (.int (sv s)), v6] H' := ⟨i, j, w, s, v6, dn, as, rfl, rfl, h1, h2, h3, h4, h5, h6, h7, h8, h9⟩
theorem JInv.fin {C_Asker C_AskedRule C_Join : Addr} {ks : List Int} {xs : List V} {a rl ru tl g lg bl al ar jn sd la ra tk pc : Addr} {pr : List (Nat × Nat)} {ls rs : List Nat} {H2 : Hp} {i j : Nat} {b : Bool} {ma ta : Addr} {ms ts : List Nat} {mi tj : Nat} {x6 : Option V} {w' : Nat} {H4 : Hp} {dn' : List Nat} {as' : List (Nat × Nat)} (hb : (b = true /\ ma = la /\ ta = ra /\ ms = ls /\ ts = rs) ∨ (b = false /\ ma = ra /\ ta = la /\ ms = rs /\ ts = ls)) (h1 : mi <= ms.length) (h2 : tj <= ts.length) (h3 : w' <= 3) (h4 : i + j < mi + tj) (h5 : dn'.length = mi + tj) (h6 : as'.length <= 20 * (mi + tj)) (h7 : Fr [a, lg, tl, tk, pc] H2 H4) (h8 : SitP C_Asker C_AskedRule H4 ks xs a rl ru tl g lg bl (pr ++ as')) (h9 : JS C_Join H4 b jn a sd ma ta tk pc ms ts mi tj dn') (h10 : ∀ ps L, JT ks ms ts mi tj w' true ps L -> JT ks ms ts 0 0 0 b (dn' ++ ps) (as' ++ L)) (hi : i <= ls.length) (hj : j <= rs.length) : ∃ m', m' < ls.length - i + (rs.length - j) /\ JInv C_Asker C_AskedRule C_Join ks xs a rl ru tl g lg bl al ar jn sd la ra tk pc pr ls rs H2 m' [some (V.ref a), some (.ref al), some (.ref ar), some (.ref jn), some (.int w'), some (.int (sv b)), x6] H4 := by
  rcases hb with ⟨rfl, rfl, rfl, rfl, rfl⟩ | ⟨rfl, rfl, rfl, rfl, rfl⟩
  . exact ⟨_, by omega, JInv.of h1 h2 h3 h5 h6 h7 h8 h9 h10⟩
  . exact ⟨_, by omega, JInv.of (s := false) h2 h1 h3 (by omega) (by omega) h7 h8 h9.swap fun ps L h => JT.swap (h10 ps L (JT.swap (s := true) h))⟩
theorem cut_var {P : TS} {D : Ends} {x y : Option V} {H : Hp} {o1 o2 : Int} {c : Prop} [Decidable c] (h : ∀ o : Int, (c /\ o = o1) ∨ (¬ c /\ o = o2) -> Cut P D [x, y, some (.int o)] H) : if c then Cut P D [x, y, some (.int o1)] H else Cut P D [x, y, some (.int o2)] H := by
  split
  . rename_i h1; exact h o1 (.inl ⟨h1, rfl⟩)
  . rename_i h1; exact h o2 (.inr ⟨h1, rfl⟩)
theorem onceP (P : Prop) {M G : Prop} (h : (P -> M) -> G) (t : P -> M) : G := h t
def mk71 (n : Nat) (ls : List Nat) : List Nat := (List.range n).map fun i => if i ∈ ls then 1 else 0
theorem ZCN {n : Nat} {ls : List Nat} : (mk71 n ls).length = n := by unfold mk71; rw [yAB, List.length_range]
theorem mk71_nil {n : Nat} : mk71 n [] = List.replicate n 0 := by
  unfold mk71
  rw [List.eq_replicate_iff]
  refine ⟨by rw [yAB, List.length_range], fun b hb => ?_⟩
  obtain ⟨i, _, e⟩ := yBB.mp hb
  rw [<- e]
  rfl
theorem ZC4 {n j : Nat} {ls : List Nat} (h : j < (mk71 n ls).length) : (mk71 n ls)[j] = if j ∈ ls then 1 else 0 := by
  simp [mk71]
theorem mk71_snoc {n x : Nat} {ls : List Nat} (h : x < n) : (mk71 n ls).set x 1 = mk71 n (ls ++ [x]) := by
  apply List.ext_getElem
  . rw [List.length_set, ZCN, ZCN]
  . intro j h1 h2
    rw [List.getElem_set, ZC4, ZC4]
    by_cases e : x = j
    . rw [if_pos e, if_pos (by rw [e]; exact yBE _ yAE)]
    . rw [if_neg e]
      by_cases m : j ∈ ls
      . rw [if_pos m, if_pos (List.mem_append_left _ m)]
      . rw [if_neg m, if_neg]
        intro z
        rcases yAU.mp z with z | z
        . exact m z
        . exact e (yBA.mp z).symm
theorem rep71 (n : Nat) : (List.replicate n [V.int 0]).flatten = nL (List.replicate n 0) := by
  unfold nL
  rw [List.map_replicate]
  induction n with
  | zero => rfl
  | succ n ih => rw [yBJ, List.flatten_cons, ih, yBJ]; rfl
inductive Shuf : List Nat -> List Nat -> List Nat -> Prop
  | nil : Shuf [] [] []
  | fst {o a b : List Nat} {x : Nat} : Shuf o a b -> Shuf (o ++ [x]) (a ++ [x]) b
  | snd {o a b : List Nat} {x : Nat} : Shuf o a b -> Shuf (o ++ [x]) a (b ++ [x])
theorem Shuf.app0 {o a b : List Nat} (h : Shuf o a b) : ∀ xs : List Nat, Shuf (o ++ xs) (a ++ xs) b := by
  intro xs
  induction xs generalizing o a with
  | nil => rw [yBF, yBF]; exact h
  | cons x r ih =>
    have := ih (h.fst (x := x))
    rw [yAI, yAI] at this
    exact this
theorem Shuf.app1 {o a b : List Nat} (h : Shuf o a b) : ∀ xs : List Nat, Shuf (o ++ xs) a (b ++ xs) := by
  intro xs
  induction xs generalizing o b with
  | nil => rw [yBF, yBF]; exact h
  | cons x r ih =>
    have := ih (h.snd (x := x))
    rw [yAI, yAI] at this
    exact this
theorem Shuf.len {o a b : List Nat} (h : Shuf o a b) : o.length = a.length + b.length := by
  induction h with
  | nil => rfl
  | fst h ih => rw [yAC, yAC, ih, yAV]; omega
  | snd h ih => rw [yAC, yAC, ih, yAV]; omega
theorem Shuf.mem {o a b : List Nat} (h : Shuf o a b) : ∀ x, x ∈ o ↔ x ∈ a ∨ x ∈ b := by
  induction h with
  | nil => intro x; simp
  | fst h ih => intro x; rw [yAU, yAU, ih]; exact ⟨fun z => z.elim (fun z => z.elim (fun z => .inl (.inl z)) .inr) fun z => .inl (.inr z), fun z => z.elim (fun z => z.elim (fun z => .inl (.inl z)) .inr) fun z => .inl (.inr z)⟩
  | snd h ih => intro x; rw [yAU, yAU, ih]; exact ⟨fun z => z.elim (fun z => z.elim .inl fun z => .inr (.inl z)) fun z => .inr (.inr z), fun z => z.elim (fun z => .inl (.inl z)) fun z => z.elim (fun z => .inl (.inr z)) .inr⟩
theorem Shuf.dis {R : Nat -> Nat -> Prop} (ir : ∀ x, ¬ R x x) {o a b : List Nat} (h : Shuf o a b) (hp : o.Pairwise R) : ∀ x ∈ a, ∀ y ∈ b, x ≠ y := by
  induction h with
  | nil => intro x hx; cases hx
  | @fst o a b z h ih =>
    obtain ⟨p1, _, p3⟩ := List.pairwise_append.mp hp
    intro x hx y hy e
    rcases yAU.mp hx with k | k
    . exact ih p1 x k y hy e
    . have := p3 y ((h.mem y).mpr (.inr hy)) z yAE
      rw [<- e, yBA.mp k] at this
      exact ir _ this
  | @snd o a b z h ih =>
    obtain ⟨p1, _, p3⟩ := List.pairwise_append.mp hp
    intro x hx y hy e
    rcases yAU.mp hy with k | k
    . exact ih p1 x hx y k e
    . have := p3 x ((h.mem x).mpr (.inl hx)) z yAE
      rw [e, yBA.mp k] at this
      exact ir _ this
theorem Shuf.sub {o a b : List Nat} (h : Shuf o a b) : a.Sublist o /\ b.Sublist o := by
  induction h with
  | nil => exact ⟨.refl _, .refl _⟩
  | fst h ih => exact ⟨ih.1.append (.refl _), ih.2.trans (List.sublist_append_left _ _)⟩
  | snd h ih => exact ⟨ih.1.trans (List.sublist_append_left _ _), ih.2.append (.refl _)⟩
structure SInv (H : Hp) (s0 s1 sd : Addr) (os : List Nat) (i : Nat) (H' : Hp) (l0 l1 : List Nat) : Prop where
  s : Same H H'
  hd : H' sd = some (.lst [.ref s0, .ref s1])
  e0 : H' s0 = some (.lst (nL l0))
  e1 : H' s1 = some (.lst (nL l1))
  sh : Shuf (os.take i) l0 l1
theorem atI_back {xs : List Int} {k : Nat} (h : k < xs.length) : ∃ v, atI (xs.map V.int) (-1 - (k : Int)) = some (.int v) := by
  unfold atI ixN
  rw [yAB, if_neg (by omega), if_pos (by omega)]
  refine ⟨xs[(-1 - (k : Int) + (xs.length : Nat)).toNat]'(by omega), ?_⟩
  simp
def cst (w r : Nat) : Nat := if w + r < 4 then r else (4 - w) + max 1 (2 * ZBo (w + r - 4))
def rl : List Bool -> List (Bool × Nat)
  | [] => []
  | b :: t => match rl t with
    | [] => [(b, 1)]
    | (c, n) :: r => if b = c then (b, n + 1) :: r else (b, 1) :: (c, n) :: r
def cs (w : Nat) (s : Bool) : List (Bool × Nat) -> Nat
  | [] => 0
  | [_] => 0
  | (b, n) :: c :: r => cst (if b = s then w else 0) n + cs 0 s (c :: r)
theorem ZDW (s : Bool) (s' : Bool) : ∀ l, cs 0 s l = cs 0 s' l
  | [] => rfl
  | [_] => rfl
  | (b, n) :: c :: r => by unfold cs; rw [ZDW s s' (c :: r)]; simp
theorem cst_mono {a b : Nat} (h : a <= b) : cst 0 a <= cst 0 b := by
  unfold cst
  have := nbits_mono (show 0 + a - 4 <= 0 + b - 4 by omega)
  split <;> split <;> omega
theorem ZDw {b : Bool} {t : List Bool} : ∃ n r, rl (b :: t) = (b, n) :: r := by
  unfold rl
  split
  . exact ⟨_, _, rfl⟩
  . split
    . exact ⟨_, _, rfl⟩
    . exact ⟨_, _, rfl⟩
theorem rl_all : ∀ {t : List Bool} {c : Bool} {n : Nat}, rl t = [(c, n)] -> ∀ b ∈ t, b = c
  | [], _, _, h, _, hb => by cases hb
  | b :: t, c, n, h, a, ha => by
    unfold rl at h
    split at h
    . rename_i e
      cases h
      cases t with
      | nil => exact yBA.mp ha
      | cons d t => obtain ⟨n, r, e'⟩ := ZDw (b := d) (t := t); rw [e'] at e; cases e
    . rename_i d m r e
      split at h
      . rename_i e2
        cases h
        rcases yAD.mp ha with z | z
        . exact z
        . rw [rl_all e a z]; exact e2.symm
      . cases h
theorem cs_cons (s b : Bool) (t : List Bool) : cs 0 s (rl t) <= cs 0 s (rl (b :: t)) := by
  rw [show rl (b :: t) = match rl t with | [] => [(b, 1)] | (c, n) :: r => if b = c then (b, n + 1) :: r else (b, 1) :: (c, n) :: r by rw [rl]]
  split
  . rename_i e; rw [e]; exact yAH _
  . rename_i c n r e
    rw [e]
    split
    . cases r with
      | nil => exact yAH _
      | cons d r =>
        unfold cs
        have := cst_mono (show n <= n + 1 by omega)
        simp
        omega
    . rw [show cs 0 s ((b, 1) :: (c, n) :: r) = cst (if b = s then 0 else 0) 1 + cs 0 s ((c, n) :: r) by rw [cs]]
      omega
theorem ZDv : ∀ (k : Nat) (b : Bool) (t : List Bool), rl (List.replicate (k + 1) b ++ (!b) :: t) = (b, k + 1) :: rl ((!b) :: t)
  | 0, b, t => by
    obtain ⟨n, r, e⟩ := ZDw (b := !b) (t := t)
    show rl (b :: (!b) :: t) = _
    rw [rl, e]
    cases b <;> rfl
  | k + 1, b, t => by
    rw [yBJ, List.cons_append, rl, ZDv k b t]
    simp
theorem rl_flip : ∀ t : List Bool, rl (t.map not) = (rl t).map fun p => (!p.1, p.2)
  | [] => rfl
  | b :: t => by
    rw [yAT, rl, rl_flip t, rl]
    cases rl t with
    | nil => rfl
    | cons p r =>
      obtain ⟨c, n⟩ := p
      show (if (!b) = !c then _ else _) = List.map _ (if b = c then _ else _)
      by_cases e : b = c
      . rw [if_pos (by rw [e]), if_pos e]; rfl
      . rw [if_neg (by cases b <;> cases c <;> simp_all), if_neg e]; rfl
theorem cs_flip (w : Nat) (s : Bool) : ∀ l : List (Bool × Nat), cs w (!s) (l.map fun p => (!p.1, p.2)) = cs w s l
  | [] => rfl
  | [_] => rfl
  | (b, n) :: c :: r => by
    have := cs_flip 0 s (c :: r)
    rw [yAT, yAT, cs, cs, <- yAT (f := fun p : Bool × Nat => (!p.1, p.2)), this]
    congr 2
    cases b <;> cases s <;> rfl
theorem map_rep {f : Nat -> Bool} {b : Bool} : ∀ {l : List Nat}, (∀ x ∈ l, f x = b) -> l.map f = List.replicate l.length b := fun h => by
  rw [List.eq_replicate_iff]
  refine ⟨by rw [yAB], fun c hc => ?_⟩
  obtain ⟨x, hx, e⟩ := yBB.mp hc
  rw [<- e, h x hx]
theorem cst_step {w n : Nat} (h : w + 1 <= 3) : cst w (n + 1) = 1 + cst (w + 1) n := by
  unfold cst
  rw [show w + 1 + n = w + (n + 1) by omega]
  split <;> omega
theorem JT.cost {ks : List Int} {ls rs ps : List Nat} {i j w : Nat} {s : Bool} {L : List (Nat × Nat)} (h : JT ks ls rs i j w s ps L) : ∀ f : Nat -> Bool, w <= 3 -> (∀ x ∈ ls, f x = true) -> (∀ x ∈ rs, f x = false) -> L.length <= cs w s (rl (ps.map f)) := by
  induction h with
  | done _ => intro f _ _ _; exact yAH _
  | @step ls rs ps i j w x y s L a b c d e ih =>
    intro f hw h1 h2
    have hx : f x = true := h1 x (yAO a)
    have hy : f y = false := h2 y (yAO b)
    have hyp : false ∈ ps.map f := by
      rw [<- hy]
      exact List.mem_map_of_mem ((e.mem y).mpr (.inr (by rw [ZA4 b]; exact yAE)))
    have hn : nw w s <= 3 := by unfold nw at d ⊢; cases s <;> simp at d ⊢; omega
    have i1 := ih f hn h1 h2
    have hnw : nw w s = (if true = s then w else 0) + 1 := by unfold nw; cases s <;> rfl
    rw [yAT, hx, yAF, rl]
    split
    . rename_i e1
      rw [e1] at i1
      cases t : ps.map f with
      | nil => rw [t] at hyp; cases hyp
      | cons d t' => obtain ⟨n, r, e'⟩ := ZDw (b := d) (t := t'); rw [t, e'] at e1; cases e1
    . rename_i c' n r e1
      rw [e1] at i1
      split
      . rename_i e2
        subst e2
        cases r with
        | nil => have := rl_all e1 false hyp; cases this
        | cons q r =>
          rw [cs] at i1 ⊢
          rw [if_pos rfl, hnw] at i1
          rw [ZDW s true, cst_step (by omega)]
          omega
      . rename_i e2
        have ec : c' = false := by cases c' <;> simp_all
        subst ec
        rw [cs]
        have e3 : cs (nw w s) true ((false, n) :: r) = cs 0 true ((false, n) :: r) := by
          cases r with
          | nil => rfl
          | cons q r => rw [cs, cs]; simp
        rw [e3] at i1
        rw [ZDW s true]
        unfold cst
        rw [if_pos (by omega)]
        omega
  | @leap ls rs ps G i j w x y z s L a b c d e f' g k l ih =>
    intro f hw h1 h2
    have hy : f y = false := h2 y (yAO b)
    have i1 := ih f (by omega) h1 h2
    have hsw : s = true /\ w = 3 := by unfold nw at d; cases s <;> simp at d <;> simp; omega
    obtain ⟨rfl, rfl⟩ := hsw
    have hl : ((ls.drop i).take (z - i)).length = z - i - 1 + 1 := by rw [yAP, yAZ]; omega
    rw [yAW, yAT, hy, map_rep (f := f) (b := true) (l := (ls.drop i).take (z - i)) (fun u hu => h1 u (List.mem_of_mem_drop (List.mem_of_mem_take hu))), hl]
    have er := ZDv (z - i - 1) true (ps.map f)
    rw [Bool.not_true] at er
    rw [er]
    obtain ⟨n, r, e'⟩ := ZDw (b := false) (t := ps.map f)
    have i2 := cs_cons true false (ps.map f)
    rw [e'] at i2 ⊢
    rw [cs, if_pos rfl]
    have hG := k.looks e (yBI f')
    rw [yAF, yAC, yAB]
    unfold cst
    rw [if_neg (by omega), show 3 + (z - i - 1 + 1) - 4 = z - (i + 1) by omega]
    omega
  | @last ls rs ps G i j w x y s L a b c d g k l ih =>
    intro f hw h1 h2
    have hi := (yAG.mp a).1
    have i1 := ih f (by omega) h1 h2
    have hsw : s = true /\ w = 3 := by unfold nw at d; cases s <;> simp at d <;> simp; omega
    obtain ⟨rfl, rfl⟩ := hsw
    have hyp : y ∈ ps := (l.mem y).mpr (.inr (by rw [ZA4 b]; exact yAE))
    have hl : (ls.drop i).length = ls.length - i - 1 + 1 := by rw [yAZ]; omega
    rw [yAW, map_rep (f := f) (b := true) (l := ls.drop i) (fun u hu => h1 u (List.mem_of_mem_drop hu)), hl]
    cases ps with
    | nil => cases hyp
    | cons v ps =>
      have hv : f v = false := by
        rcases (l.mem v).mp yAE with t | t
        . rw [List.drop_of_length_le (yAA _)] at t; cases t
        . exact h2 v (List.mem_of_mem_drop t)
      rw [yAT, hv] at i1 ⊢
      have er := ZDv (ls.length - i - 1) true (ps.map f)
      rw [Bool.not_true] at er
      rw [er]
      obtain ⟨n, r, e'⟩ := ZDw (b := false) (t := ps.map f)
      rw [e'] at i1 ⊢
      rw [cs, if_pos rfl]
      have hG := k.looks hi (yAA _)
      rw [yAF, yAC, yAB]
      unfold cst
      rw [if_neg (by omega), show 3 + (ls.length - i - 1 + 1) - 4 = ls.length - (i + 1) by omega]
      omega
  | @swap ls rs ps i j w s L h ih =>
    intro f hw h1 h2
    have := ih (fun x => !f x) hw (fun x hx => by rw [h2 x hx]; rfl) (fun x hx => by rw [h1 x hx]; rfl)
    rw [show ps.map (fun x => !f x) = (ps.map f).map not by rw [List.map_map]; rfl, rl_flip, cs_flip] at this
    exact this
theorem cs_sum (s : Bool) : ∀ l : List (Bool × Nat), cs 0 s l = ((l.map (·.2)).dropLast.map (cst 0)).sum
  | [] => rfl
  | [_] => rfl
  | (b, n) :: c :: r => by
    rw [cs, cs_sum s (c :: r)]
    simp
def ZBe (l : List (Bool × Nat)) (b : Bool) : List (Bool × Nat) := match l.getLast? with
  | some (c, n) => if b = c then l.dropLast ++ [(c, n + 1)] else l ++ [(b, 1)]
  | none => [(b, 1)]
theorem ZBV {p q : Bool × Nat} {r : List (Bool × Nat)} {b : Bool} : ZBe (p :: q :: r) b = p :: ZBe (q :: r) b := by
  unfold ZBe
  rw [List.getLast?_cons_cons]
  cases h : (q :: r).getLast? with
  | none => simp at h
  | some c =>
    obtain ⟨c, n⟩ := c
    dsimp only
    split
    . rw [List.dropLast_cons_of_ne_nil (by simp)]; rfl
    . rfl
theorem ZDL : ∀ (t : List Bool) (b : Bool), rl (t ++ [b]) = ZBe (rl t) b
  | [], b => rfl
  | a :: t, b => by
    rw [List.cons_append, rl, ZDL t b]
    conv => rhs; rw [rl]
    cases h : rl t with
    | nil =>
      unfold ZBe
      by_cases e : a = b
      . subst e; simp
      . simp [e, Ne.symm e]
    | cons p r =>
      obtain ⟨c, n⟩ := p
      cases r with
      | nil =>
        unfold ZBe
        by_cases e : b = c
        . by_cases e2 : a = c
          . subst e; subst e2; simp
          . subst e; simp [e2]
        . by_cases e2 : a = c
          . subst e2; simp [e]
          . simp [e, e2]
      | cons q r =>
        rw [ZBV]
        dsimp only
        split
        . rw [ZBV]
        . rw [ZBV, ZBV]
theorem ZDx : ∀ t : List Bool, (rl t).length <= t.length /\ ∀ p ∈ rl t, p.2 <= t.length
  | [] => ⟨yAA _, fun p hp => by cases hp⟩
  | b :: t => by
    obtain ⟨h1, h2⟩ := ZDx t
    rw [rl]
    split
    . exact ⟨by simp, fun p hp => by rw [yBA.mp hp]; simp⟩
    . rename_i c n r e
      rw [e] at h1 h2
      have hn := h2 (c, n) yAE
      dsimp only at hn
      split
      . refine ⟨by simp only [yAF] at *; omega, fun p hp => ?_⟩
        rcases yAD.mp hp with z | z
        . rw [z, yAF]; dsimp only; omega
        . have := h2 p (yAJ _ z); rw [yAF]; omega
      . refine ⟨by simp only [yAF] at *; omega, fun p hp => ?_⟩
        rcases yAD.mp hp with z | z
        . rw [z, yAF]; dsimp only; omega
        . have := h2 p z; rw [yAF]; omega
def ZDk (l : List (Bool × Nat)) : Int := match l.getLast? with
  | none => -1
  | some (b, _) => if b then 0 else 1
theorem rl_step (l : List (Bool × Nat)) (b : Bool) : (ZDk l = (if b then 0 else 1) -> ∃ zs n, l.map (·.2) = zs ++ [n] /\ (ZBe l b).map (·.2) = zs ++ [n + 1]) /\ (ZDk l ≠ (if b then 0 else 1) -> (ZBe l b).map (·.2) = l.map (·.2) ++ [1]) /\ ZDk (ZBe l b) = (if b then 0 else 1) := by
  unfold ZDk ZBe
  cases h : l.getLast? with
  | none =>
    have : l = [] := List.getLast?_eq_none_iff.mp h
    subst this
    refine ⟨fun z => ?_, fun _ => rfl, ?_⟩
    . exfalso; revert z; cases b <;> simp
    . simp
  | some c =>
    obtain ⟨c, n⟩ := c
    have hl : l = l.dropLast ++ [(c, n)] := by
      obtain ⟨ys, e⟩ := List.getLast?_eq_some_iff.mp h
      rw [e]; simp
    dsimp only
    by_cases e : b = c
    . subst e
      rw [if_pos rfl]
      refine ⟨fun _ => ⟨(l.dropLast).map (·.2), n, ?_, ?_⟩, fun z => absurd rfl z, ?_⟩
      . conv => lhs; rw [hl]
        simp
      . simp
      . simp
    . rw [if_neg e]
      refine ⟨fun z => ?_, fun _ => ?_, ?_⟩
      . exfalso; revert z e; cases b <;> cases c <;> simp
      . simp
      . simp
def ZCT : Sp := fun vs H Q _ => ∃ (od nb : Addr) (os : List Nat) (zs : List Int) (kd dl : Int), vs = [.ref od, .ref nb, .int kd, .int dl] /\ H od = some (.lst (nL os)) /\ H nb = some (.lst (zs.map V.int)) /\ os.length <= 250 /\ os.length <= zs.length /\
  ∀ sd s0 s1 H' l0 l1, Same H H' -> H sd = none -> H s0 = none -> H s1 = none -> s0 ≠ s1 -> H' sd = some (.lst [.ref s0, .ref s1]) -> H' s0 = some (.lst (nL l0)) -> H' s1 = some (.lst (nL l1)) -> Shuf os l0 l1 -> Q (.ref sd) H'
def ZBc (rs : List Nat) (x : Nat) : Bool := !decide (x ∈ rs)
def szs (rs os : List Nat) : List Nat := (rl (os.map (ZBc rs))).map (·.2)
def ZCD : Sp := fun vs H Q _ => ∃ (od sc : Addr) (os rs : List Nat), vs = [.ref od, .ref sc] /\ H od = some (.lst (nL os)) /\ H sc = some (.lst (nL rs)) /\ os.length <= 250 /\ (∀ x ∈ os, x < os.length) /\ (∀ x ∈ rs, x < os.length) /\ ∀ l H', Same H H' -> H l = none -> H' l = some (.lst (nL (szs rs os))) -> Q (.ref l) H'
def ZCv : Sp := fun vs H Q _ => ∃ (sz : Addr) (ns : List Nat), vs = [.ref sz] /\ H sz = some (.lst (nL ns)) /\ ns.length <= 250 /\ (∀ n ∈ ns, n <= 500) /\ ∀ H', Same H H' -> Q (.int ((ns.dropLast.map (cst 0)).sum : Nat)) H'
theorem cutV_but {xs : List V} : cutV xs none (some (-1)) = xs.dropLast := by
  unfold cutV
  rw [HT.sIx_none, Nat.sub_zero, yCA, List.dropLast_eq_take]
  congr 1
  unfold HT.sIx
  simp
  omega
theorem intBits_n (n : Nat) : Builtin.Int.intBits (n : Int) = ZBo n := by
  unfold ZBo
  split
  . rename_i h; rw [h]; rfl
  . rename_i h; exact bits_nat n h
theorem getL_snoc {xs : List V} {x : V} : atI (xs ++ [x]) (-1) = some x := by
  unfold atI ixN
  rw [yAC, yAV, if_neg (by decide), if_pos (by omega)]
  rw [show ((-1 : Int) + ((xs.length + 1 : Nat) : Int)).toNat = xs.length by omega]
  simp
theorem ixL_last {xs : List V} {x : V} : ixN (xs ++ [x]).length (-1) = some xs.length := by
  unfold ixN
  rw [yAC, yAV, if_neg (by decide), if_pos (by omega)]
  rw [show ((-1 : Int) + ((xs.length + 1 : Nat) : Int)).toNat = xs.length by omega]
theorem set_last {xs : List V} {x y : V} : (xs ++ [x]).set xs.length y = xs ++ [y] := by
  rw [List.set_append_right _ _ (yAA _), yBQ]; rfl
theorem asc_eq : ∀ {A B : List Nat}, A.Pairwise (· < ·) -> B.Pairwise (· < ·) -> (∀ x, x ∈ A ↔ x ∈ B) -> A = B
  | [], [], _, _, _ => rfl
  | [], b :: B, _, _, h => by have := (h b).mpr yAE; cases this
  | a :: A, [], _, _, h => by have := (h a).mp yAE; cases this
  | a :: A, b :: B, hA, hB, h => by
    obtain ⟨a1, a2⟩ := List.pairwise_cons.mp hA
    obtain ⟨b1, b2⟩ := List.pairwise_cons.mp hB
    have e : a = b := by
      rcases yAD.mp ((h a).mp yAE) with z | z
      . exact z
      . rcases yAD.mp ((h b).mpr yAE) with y | y
        . exact y.symm
        . have := a1 b y; have := b1 a z; omega
    subst e
    rw [asc_eq a2 b2 fun x => ?_]
    have hx := h x
    constructor
    . intro z
      rcases yAD.mp (hx.mp (yAJ _ z)) with y | y
      . have := a1 x z; omega
      . exact y
    . intro z
      rcases yAD.mp (hx.mpr (yAJ _ z)) with y | y
      . have := b1 x z; omega
      . exact y
theorem asc_of {A : List Nat} (h : A.Pairwise (· <= ·)) (n : A.Nodup) : A.Pairwise (· < ·) := (h.and n).imp fun {a b} z => Nat.lt_of_le_of_ne z.1 z.2
theorem len_le_of_sub : ∀ {A B : List Nat}, A.Nodup -> (∀ x ∈ A, x ∈ B) -> A.length <= B.length
  | [], _, _, _ => yAH _
  | a :: A, B, hn, h => by
    obtain ⟨n1, n2⟩ := yBT.mp hn
    have hm := h a yAE
    have := len_le_of_sub (A := A) (B := B.erase a) n2 fun x hx => (List.mem_erase_of_ne (fun e => n1 (by rw [<- e]; exact hx))).mpr (h x (yAJ _ hx))
    rw [List.length_erase_of_mem hm] at this
    have := List.length_pos_of_mem hm
    rw [yAF]
    omega
def ZCu : Sp := fun vs H Q _ => ∃ (fl : Addr) (ps : List Nat), vs = [.ref fl, .int (ps.length : Int)] /\ H fl = some (.lst (nL ps)) /\ ps.length <= 500 /\ ps.Nodup /\ (∀ x ∈ ps, x < ps.length) /\ ∀ H', Same H H' -> Q (.bl true) H'
def ZBv : Sp := fun vs H Q _ => ∃ (fl sd s0 s1 : Addr) (ps l0 l1 : List Nat) (k : Nat), vs = [.ref fl, .ref sd, .int (k : Int)] /\ H fl = some (.lst (nL ps)) /\ H sd = some (.lst [.ref s0, .ref s1]) /\ H s0 = some (.lst (nL l0)) /\ H s1 = some (.lst (nL l1)) /\ ps.length <= 250 /\ (∀ x ∈ ps, x < ps.length) /\ (∀ x ∈ l1, x < ps.length) /\ (l0 = [] ∨ l1 = [] -> k = 0) /\ (l0 ≠ [] -> l1 ≠ [] -> k <= ps.length - 1 + ps.length / 7 /\ 0 < ps.length) /\ k <= ((szs l1 ps).dropLast.map (cst 0)).sum /\ ∀ H', Same H H' -> Q (.bl true) H'
theorem JT.perm {ks : List Int} {ls rs ps : List Nat} {i j w : Nat} {s : Bool} {L : List (Nat × Nat)} (h : JT ks ls rs i j w s ps L) : ps.Perm (ls.drop i ++ rs.drop j) := by
  induction h with
  | done _ => exact .refl _
  | step a b c d e ih => rw [ZA4 a]; exact ih.cons _
  | @leap ls rs ps G i j w x y z s L a b c d e f g k l ih =>
    rw [drop_seg (os := ls) (show i <= z by omega), yAI, List.take_append_of_le_length (by rw [yAP, yAZ]; omega), yBC (by rw [yAP]; omega)]
    rw [ZA4 b]
    exact List.Perm.append_left _ ((ih.cons _).trans List.perm_middle.symm)
  | @last ls rs ps G i j w x y s L a b c d g k l ih =>
    rw [List.drop_of_length_le (l := ls) (yAA _), List.nil_append] at ih
    exact List.Perm.append_left _ ih
  | swap h ih => exact ih.trans yBO
theorem onceX {α : Type} {P : TS} {D : Ends} (σ : α -> St) (X : α -> Hp) (p : α -> Prop) {G : Prop} (h : (∀ x, p x -> Cut P D (σ x) (X x)) -> G) (t : ∀ x, p x -> Cut P D (σ x) (X x)) : G := h t
theorem JT.bound {ks : List Int} {l0 l1 ps : List Nat} {s : Bool} {L : List (Nat × Nat)} (h : JT ks l0 l1 0 0 0 s ps L) (hdis : ∀ x ∈ l0, ∀ y ∈ l1, x ≠ y) : (l0 = [] ∨ l1 = [] -> L.length = 0) /\ (l0 ≠ [] -> l1 ≠ [] -> L.length <= ps.length - 1 + ps.length / 7 /\ 0 < ps.length) /\ L.length <= ((szs l1 ps).dropLast.map (cst 0)).sum := by
  have hp := h.perm.length_eq
  rw [yCA, yCA, yAC] at hp
  refine ⟨fun z => ?_, fun z0 z1 => ?_, ?_⟩
  . rw [h.none (z.imp (fun e => by rw [e]; exact yAA _) fun e => by rw [e]; exact yAA _)]; rfl
  . have := List.length_pos_iff.mpr z0
    have := h.most (by decide) (yAH _) (yAH _) (by omega)
    omega
  . have hcost := h.cost (ZBc l1) (by decide) (fun x hx => by unfold ZBc; rw [decide_eq_false (fun z => hdis x hx x z rfl)]; rfl) (fun x hx => by unfold ZBc; rw [decide_eq_true hx]; rfl)
    rw [cs_sum] at hcost
    exact hcost
section
variable {P : Program} {w : World} {K : W.Frag} {mg : Str -> Option Value} {base : Heap} {C_Join C_Asker C_AskedRule : Addr} {cc_any_teller Pt_any_teller cc_digit_teller Pt_digit_teller : Addr}
theorem ok_any_teller {f : Addr} {fd : FuncData} (F : Fun K "_law_any_teller" "_law_any_teller" ZAt f fd) (hcd : fd.code = .ref cc_any_teller) (C : PySem.W.CodeHd base cc_any_teller Pt_any_teller) (B : ZC9 mg base) : FnOk P w K mg base CX0 1 f fd ["_law_said", "_law_bits", "_law_kind"] (ZCV Pt_any_teller (ZCf ZAJ) "_law_tells" "_law_any_teller.<locals>._law_tells" (ZAO ZAJ) (ZAN ZAJ) (ZAB ZAJ) ["_law_said", "_law_kind", "_law_bits"] [0, 2, 1] 3) :=
  teller_ok F sc_any_teller hcd C B rfl (fun _ _ => rfl) rfl rfl (fun _ _ => rfl) rfl (by decide) (by decide) (by decide +kernel) (by decide +kernel) (by decide +kernel) (hix_of rfl) rfl
theorem ok_digit_teller {f : Addr} {fd : FuncData} (F : Fun K "_law_digit_teller" "_law_digit_teller" ZAj f fd) (hcd : fd.code = .ref cc_digit_teller) (C : PySem.W.CodeHd base cc_digit_teller Pt_digit_teller) (B : ZC9 mg base) : FnOk P w K mg base CX0 1 f fd ["_law_said", "_law_digits", "_law_bits"] (ZCV Pt_digit_teller (ZCf ZAH) "_law_tells" "_law_digit_teller.<locals>._law_tells" (ZAO ZAH) (ZAN ZAH) (ZAB ZAH) ["_law_said", "_law_digits", "_law_bits"] [0, 1, 2] 3) :=
  teller_ok F sc_digit_teller hcd C B rfl (fun _ _ => rfl) rfl rfl (fun _ _ => rfl) rfl (by decide) (by decide) (by decide +kernel) (by decide +kernel) (by decide +kernel) (hix_of rfl) rfl
theorem clo_any_teller (T : Bt K mg C_Join C_Asker C_AskedRule) : CloOk P w K mg base 1 (rAny) := by
  refine clo_of (k := 0) (iname := "_law_tells") (iq := "_law_any_teller.<locals>._law_tells") (ip := ZAO ZAJ) (ib := ZAN ZAJ) (isc := ZAB ZAJ) csc_any_teller (fun f vs H Q h => ?_) (fun f vs H Q h => ?_) (fun cl doc pm ctv c' us hl => match us, hl with | [_, _], _ => rfl) (fun g cs cl cd A outer s H vs Q hr C h => ?_)
  . obtain ⟨g, x, y, lg, bl, kd, k, k2, i, j, bs, ws, rfl, rfl, hclo, hbl, hbs, hbn, hx, hy, hi, hj, hlg, hws, q⟩ := h
    exact ⟨_, _, rfl, hclo⟩
  . obtain ⟨g, x, y, lg, bl, kd, k, k2, i, j, bs, ws, rfl, rfl, hclo, hbl, hbs, hbn, hx, hy, hi, hj, hlg, hws, q⟩ := h
    rfl
  obtain ⟨g, x, y, lg, bl, kd, k, k2, i, j, bs, ws, eg, rfl, hclo, hbl, hbs, hbn, hx, hy, hi, hj, hlg, hws, q⟩ := h
  cases eg
  obtain ⟨cl2, C2⟩ := hclo
  obtain rfl := C.inj' C2
  refine ⟨_, (ZAC (ZAM (i := 2) csc_any_teller.nd rfl (by walk_at "o") (ZAP ZAL rfl T.b_len PySem.boot_len (ZAA (pv 4) ZAG)))
   (ZAC (ZBF (ZAU ZB8 (ZAQ ZAu (pv 5) ZAE) ZAE (ZAV _))
   (ZAK (ZAM (i := 2) csc_any_teller.nd rfl (by walk_at "o") (ZAQ ZA6 (ZAQ ZCZ ZAE (ZAh ZBa (pv 0) ZAE (fun _ _ => rfl))) (ZAh ZBa (pv 1) ZAE (fun _ _ => rfl))))) ZAe)
   (ZAC (ZAM (i := 3) csc_any_teller.nd rfl (by walk_at "o") (ZBz ZB8 (ZAQ ZD3 (ZAQ ZD2 (ZAh ZAS (pv 6) (ZAQ ZAu (pv 2) (ZAP ZAL rfl T.b_len PySem.boot_len (ZAA (pv 6) ZAG))) (fun _ _ => rfl)) (ZAQ ZAu (ZAQ ZBA (pv 2) (ZAP ZAL rfl T.b_len PySem.boot_len (ZAA (pv 6) ZAG))) ZAE)) ZAE) ZAE (ZAV _)))
   (ZAC (ZA0 (ZDE PySem.F.plainAttrs_list PySem.F.slot_list_append PySem.F.type_list_append ZBU (pv 4) (ZAA (ZDD (ZAA (ZAh ZBa (pv 0) ZAE (fun _ _ => rfl)) (ZAA (ZAh ZBa (pv 1) ZAE (fun _ _ => rfl)) (ZAA (pv 3) ZAG)))) ZAG)))
   (ZAK (ZAd (pv 3))))))), ?_⟩
  walk_at "rd"
  have cells := C.cells
  have hx' : hid cl H x = some (.tup [.int k, .int i]) := ZAz cells hx (by intro ob z; cases z)
  have hy' : hid cl H y = some (.tup [.int k2, .int j]) := ZAz cells hy (by intro ob z; cases z)
  have hlg' : hid cl H lg = some (.lst ws) := ZAz cells hlg (by intro ob z; cases z)
  have hbl' : hid cl H bl = some (.lst (bs.map V.int)) := ZAz cells hbl (by intro ob z; cases z)
  have hb0 : 0 < bs.length := List.length_pos_iff.mpr hbs
  refine ⟨lg, ws, rfl, .inl (SqL.of hlg'), by decide, ?_⟩
  by_cases hkd : kd % 2 = 1
  . rw [if_pos hkd]
    refine ZBE (SqT.of hx') (ZAT (by decide) rfl) ?_
    walk_at "rd"
    refine ⟨.inl ⟨by omega, by omega⟩, ZBE (SqT.of hy') (ZAT (by decide) rfl) ?_⟩
    walk_at "rd"
    generalize hz : 31 * (i : Int) + j = z
    have hz0 : 0 <= z := by omega
    have hz1 : z <= 100000 := by omega
    refine ⟨bl, _, rfl, .inl (SqL.of hbl'), ?_⟩
    rw [yAB]
    have hl0 : (0 : Int) < bs.length := by omega
    have m0 := Int.emod_nonneg z (show (bs.length : Int) ≠ 0 by omega)
    have m1 := Int.emod_lt_of_pos z hl0
    have d0 : 0 <= z / (bs.length : Int) := Int.ediv_nonneg hz0 (by omega)
    have hlt : (z % (bs.length : Int)).toNat < bs.length := by omega
    refine ⟨hl0, ?_⟩
    refine ZAY (SqL.of hbl') (ZAT (v := .int bs[(z % (bs.length : Int)).toNat]) (by omega) (by rw [yAR, yAM hlt]; rfl)) ?_
    walk_at "rd"
    refine ⟨bl, _, rfl, .inl (SqL.of hbl'), ?_⟩
    rw [yAB]
    refine ⟨⟨by omega, by omega⟩, by decide, ?_⟩
    walk_at "rd"
    refine ⟨Int.emod_nonneg _ (by decide), ?_⟩
    walk_at "rd"
    generalize Builtin.bitAnd _ _ = bv
    refine ⟨.inl ⟨rfl, _, SqL.of hlg'⟩, ZBE (SqT.of hx') (ZAT (by decide) rfl) (ZBE (SqT.of hy') (ZAT (by decide) rfl) ⟨ZAX (by decide), fun t ht => ?_⟩)⟩
    have ntl : t ≠ lg := fun z => by rw [z, hlg'] at ht; cases ht
    refine ⟨lg, ws, _, rfl, rfl, ZAR ht _ _ _ hlg', ZDA (by omega), fun hn => ?_⟩
    have nt := hn.ne (b := t) (by rw [ZAI ntl, ZAF])
    have nl := hn.ne (b := lg) ZAF
    rw [ZBO nl, ZBO nt, ZCR]
    exact q t _ (ZCP cells ht nt)
  . rw [if_neg hkd]
    generalize hz : (ws.length : Int) = z
    have hz0 : 0 <= z := by omega
    have hz1 : z <= 100000 := by omega
    refine ⟨bl, _, rfl, .inl (SqL.of hbl'), ?_⟩
    rw [yAB]
    have hl0 : (0 : Int) < bs.length := by omega
    have m0 := Int.emod_nonneg z (show (bs.length : Int) ≠ 0 by omega)
    have m1 := Int.emod_lt_of_pos z hl0
    have d0 : 0 <= z / (bs.length : Int) := Int.ediv_nonneg hz0 (by omega)
    have hlt : (z % (bs.length : Int)).toNat < bs.length := by omega
    refine ⟨hl0, ?_⟩
    refine ZAY (SqL.of hbl') (ZAT (v := .int bs[(z % (bs.length : Int)).toNat]) (by omega) (by rw [yAR, yAM hlt]; rfl)) ?_
    walk_at "rd"
    refine ⟨bl, _, rfl, .inl (SqL.of hbl'), ?_⟩
    rw [yAB]
    refine ⟨⟨by omega, by omega⟩, by decide, ?_⟩
    walk_at "rd"
    refine ⟨Int.emod_nonneg _ (by decide), ?_⟩
    walk_at "rd"
    generalize Builtin.bitAnd _ _ = bv
    refine ⟨.inl ⟨rfl, _, SqL.of hlg'⟩, ZBE (SqT.of hx') (ZAT (by decide) rfl) (ZBE (SqT.of hy') (ZAT (by decide) rfl) ⟨ZAX (by decide), fun t ht => ?_⟩)⟩
    have ntl : t ≠ lg := fun z => by rw [z, hlg'] at ht; cases ht
    refine ⟨lg, ws, _, rfl, rfl, ZAR ht _ _ _ hlg', ZDA (by omega), fun hn => ?_⟩
    have nt := hn.ne (b := t) (by rw [ZAI ntl, ZAF])
    have nl := hn.ne (b := lg) ZAF
    rw [ZBO nl, ZBO nt, ZCR]
    exact q t _ (ZCP cells ht nt)
theorem clo_digit_teller (T : Bt K mg C_Join C_Asker C_AskedRule) : CloOk P w K mg base 1 (rDig) := by
  refine clo_of (k := 0) (iname := "_law_tells") (iq := "_law_digit_teller.<locals>._law_tells") (ip := ZAO ZAH) (ib := ZAN ZAH) (isc := ZAB ZAH) csc_digit_teller (fun f vs H Q h => ?_) (fun f vs H Q h => ?_) (fun cl doc pm ctv c' us hl => match us, hl with | [_, _], _ => rfl) (fun g cs cl cd A outer s H vs Q hr C h => ?_)
  . obtain ⟨g, x, y, lg, bl, kd, k, k2, i, j, bs, ws, rfl, rfl, hclo, hbl, hbs, hbn, hx, hy, hi, hj, hlg, hws, q⟩ := h
    exact ⟨_, _, rfl, hclo⟩
  . obtain ⟨g, x, y, lg, bl, kd, k, k2, i, j, bs, ws, rfl, rfl, hclo, hbl, hbs, hbn, hx, hy, hi, hj, hlg, hws, q⟩ := h
    rfl
  obtain ⟨g, x, y, lg, bl, kd, k, k2, i, j, bs, ws, eg, rfl, hclo, hbl, hbs, hbn, hx, hy, hi, hj, hlg, hws, q⟩ := h
  cases eg
  obtain ⟨cl2, C2⟩ := hclo
  obtain rfl := C.inj' C2
  refine ⟨_, (ZAC (ZAM (i := 2) csc_digit_teller.nd rfl (by walk_at "o") (ZAP ZAL rfl T.b_len PySem.boot_len (ZAA (pv 4) ZAG)))
   (ZAC (ZAM (i := 3) csc_digit_teller.nd rfl (by walk_at "o") (ZBz ZB8 (ZAQ ZD3 (ZAQ ZD2 (pv 5) (pv 2)) ZAE) ZAE (ZAV _)))
   (ZAC (ZBF (ZAU op_ge (pv 2) (pe_bm0 PySem.F.plainAttrs_int PySem.F.slot_int_bit_length PySem.F.type_int_bit_length mt_bitlen (pv 5)) (ZAV _))
   (ZAK (ZAM (i := 3) csc_digit_teller.nd rfl (by walk_at "o") (ZBz ZB8 (ZAQ ZD3 (ZAQ ZD2 (ZAh ZAS (pv 6) (ZAQ ZAu (pv 2) (ZAP ZAL rfl T.b_len PySem.boot_len (ZAA (pv 6) ZAG))) (fun _ _ => rfl)) (ZAQ ZAu (ZAQ ZBA (pv 2) (ZAP ZAL rfl T.b_len PySem.boot_len (ZAA (pv 6) ZAG))) ZAE)) ZAE) ZAE (ZAV _)))) ZAe)
   (ZAC (ZA0 (ZDE PySem.F.plainAttrs_list PySem.F.slot_list_append PySem.F.type_list_append ZBU (pv 4) (ZAA (ZDD (ZAA (ZAh ZBa (pv 0) ZAE (fun _ _ => rfl)) (ZAA (ZAh ZBa (pv 1) ZAE (fun _ _ => rfl)) (ZAA (pv 3) ZAG)))) ZAG)))
   (ZAK (ZAd (pv 3))))))), ?_⟩
  walk_at "rd"
  have cells := C.cells
  have hx' : hid cl H x = some (.tup [.int k, .int i]) := ZAz cells hx (by intro ob z; cases z)
  have hy' : hid cl H y = some (.tup [.int k2, .int j]) := ZAz cells hy (by intro ob z; cases z)
  have hlg' : hid cl H lg = some (.lst ws) := ZAz cells hlg (by intro ob z; cases z)
  have hbl' : hid cl H bl = some (.lst (bs.map V.int)) := ZAz cells hbl (by intro ob z; cases z)
  have hb0 : 0 < bs.length := List.length_pos_iff.mpr hbs
  refine ⟨lg, ws, rfl, .inl (SqL.of hlg'), by omega, rfl, _, rfl, rfl, ?_⟩
  walk_at "rd"
  by_cases hge : ((Builtin.Int.intBits kd : Nat) : Int) <= ws.length
  . rw [if_pos hge]
    generalize hz : (ws.length : Int) = z
    have hz0 : 0 <= z := by omega
    have hz1 : z <= 100000 := by omega
    refine ⟨bl, _, rfl, .inl (SqL.of hbl'), ?_⟩
    rw [yAB]
    have hl0 : (0 : Int) < bs.length := by omega
    have m0 := Int.emod_nonneg z (show (bs.length : Int) ≠ 0 by omega)
    have m1 := Int.emod_lt_of_pos z hl0
    have d0 : 0 <= z / (bs.length : Int) := Int.ediv_nonneg hz0 (by omega)
    have hlt : (z % (bs.length : Int)).toNat < bs.length := by omega
    refine ⟨hl0, ?_⟩
    refine ZAY (SqL.of hbl') (ZAT (v := .int bs[(z % (bs.length : Int)).toNat]) (by omega) (by rw [yAR, yAM hlt]; rfl)) ?_
    walk_at "rd"
    refine ⟨bl, _, rfl, .inl (SqL.of hbl'), ?_⟩
    rw [yAB]
    refine ⟨⟨by omega, by omega⟩, by decide, ?_⟩
    walk_at "rd"
    refine ⟨Int.emod_nonneg _ (by decide), ?_⟩
    walk_at "rd"
    generalize Builtin.bitAnd _ _ = bv
    refine ⟨.inl ⟨rfl, _, SqL.of hlg'⟩, ZBE (SqT.of hx') (ZAT (by decide) rfl) (ZBE (SqT.of hy') (ZAT (by decide) rfl) ⟨ZAX (by decide), fun t ht => ?_⟩)⟩
    have ntl : t ≠ lg := fun z => by rw [z, hlg'] at ht; cases ht
    refine ⟨lg, ws, _, rfl, rfl, ZAR ht _ _ _ hlg', ZDA (by omega), fun hn => ?_⟩
    have nt := hn.ne (b := t) (by rw [ZAI ntl, ZAF])
    have nl := hn.ne (b := lg) ZAF
    rw [ZBO nl, ZBO nt, ZCR]
    exact q t _ (ZCP cells ht nt)
  . rw [if_neg hge]
    generalize Builtin.bitAnd _ _ = bv
    refine ⟨.inl ⟨rfl, _, SqL.of hlg'⟩, ZBE (SqT.of hx') (ZAT (by decide) rfl) (ZBE (SqT.of hy') (ZAT (by decide) rfl) ⟨ZAX (by decide), fun t ht => ?_⟩)⟩
    have ntl : t ≠ lg := fun z => by rw [z, hlg'] at ht; cases ht
    refine ⟨lg, ws, _, rfl, rfl, ZAR ht _ _ _ hlg', ZDA (by omega), fun hn => ?_⟩
    have nt := hn.ne (b := t) (by rw [ZAI ntl, ZAF])
    have nl := hn.ne (b := lg) ZAF
    rw [ZBO nl, ZBO nt, ZCR]
    exact q t _ (ZCP cells ht nt)
theorem ok_Asker_init {f : Addr} {fd : FuncData} {dv : List Value} (F : FunD K "__init__" "Asker.__init__" ZA2 f fd dv) (T : Bt K mg C_Join C_Asker C_AskedRule)
    : FnOk P w K mg base CX0 1 f fd ["self", "row", "rule", "most"] (ZBw C_Asker) := by
  refine F.ok sc_Asker_init (fun vs H Q E h => ?_) (fun cdv A outer s H vs Q E hr h => ?_)
  . obtain ⟨x, dx, r, ru, m, xs, rfl, hx, hr', q⟩ := h
    rfl
  obtain ⟨x, dx, r, ru, m, xs, rfl, hx, hr', q⟩ := h
  refine ⟨_, (ZAC (ZBq (pv 0) (ZBC ZA3 rfl T.b_list PyProof.Rows.boot_list (ZAA (pv 1) ZAG)) rfl)
   (ZAC (ZBq (pv 0) (pv 2) rfl)
   (ZAC (ZBq (pv 0) (pv 3) rfl)
   (ZAC (ZBq (pv 0) ZAE rfl)
   (ZAK (ZBq (pv 0) (ZBB ZAG) rfl)))))), ?_⟩
  walk_at "rd"
  refine ⟨r, xs, rfl, .inl (SqL.of hr'), fun rl hrl => ?_⟩
  have hxr : x ≠ rl := ZAD hx hrl
  obtain ⟨H1, e1, s1, h1⟩ := newH hrl (.lst xs)
  rw [e1]; clear e1
  refine setX (s1 _ _ hx) T.cl_Asker T.n_Asker_row (by decide) fun H2 x2 k2 => ?_
  walk_at "rd"
  refine setX x2 T.cl_Asker T.n_Asker_rule ZEM fun H3 x3 k3 => ?_
  walk_at "rd"
  refine setX x3 T.cl_Asker T.n_Asker_most putL2 fun H4 x4 k4 => ?_
  walk_at "rd"
  refine setX x4 T.cl_Asker T.n_Asker_asked putL3 fun H5 x5 k5 => ?_
  walk_at "rd"
  refine ⟨ZAX (by decide), fun tl htl => ?_⟩
  obtain ⟨H6, e6, s6, h6⟩ := newH htl (.lst [])
  rw [e6]; clear e6
  have hxt : x ≠ tl := ZAD x5 htl
  refine setX (s6 _ _ x5) T.cl_Asker T.n_Asker_told putL4 fun H7 x7 k7 => ?_
  have up : ∀ b o, b ≠ x -> H b = some o -> H5 b = some o := fun b o n e => by rw [k5 b n, k4 b n, k3 b n, k2 b n]; exact s1 b o e
  have h5 : H5 rl = some (.lst xs) := by rw [k5 rl (Ne.symm hxr), k4 rl (Ne.symm hxr), k3 rl (Ne.symm hxr), k2 rl (Ne.symm hxr)]; exact h1
  refine q rl tl H7 (fun b o n e => by rw [k7 b n]; exact s6 _ _ (up b o n e)) hrl ?_ (ZAD h5 htl) ((Ins.of x7 (yAK putL5 (by decide))).congr fA_canon) (by rw [k7 rl (Ne.symm hxr)]; exact s6 _ _ h5) (by rw [k7 tl (Ne.symm hxt)]; exact h6)
  cases e : H tl with
  | none => rfl
  | some o => rw [up tl o (Ne.symm hxt) e] at htl; cases htl
theorem ok_AskedRule_init {f : Addr} {fd : FuncData} (F : Fun K "__init__" "AskedRule.__init__" ZAg f fd) (T : Bt K mg C_Join C_Asker C_AskedRule)
    : FnOk P w K mg base CX0 1 f fd ["self", "teller"] (ZCC C_AskedRule) := by
  refine F.ok sc_AskedRule_init (fun vs H Q E h => ?_) (fun cdv A outer s H vs Q E hr h => ?_)
  . obtain ⟨x, dx, g, rfl, hx, q⟩ := h
    rfl
  obtain ⟨x, dx, g, rfl, hx, q⟩ := h
  refine ⟨_, (ZAK (ZBq (pv 0) (pv 1) rfl)), ?_⟩
  walk_at "rd"
  refine setX hx T.cl_AskedRule T.n_AskedRule_teller (by decide) fun H2 x2 k2 => ?_
  exact q H2 (fun b o n e => by rw [k2 b n]; exact e) ((Ins.of x2 (yAK ZEM (by decide))).congr fun f => by simp only [ZAv, lkc])
theorem ok_AskedRule_before {f : Addr} {fd : FuncData} (F : Fun K "before" "AskedRule.before" ZAZ f fd) (T : Bt K mg C_Join C_Asker C_AskedRule)
    (clo_any_teller : CloOk P w K mg base 1 (rAny))
    (clo_digit_teller : CloOk P w K mg base 1 (rDig))
    : FnOk P w K mg base CX0 2 f fd ["self", "x", "y"] (ZCI C_AskedRule ZBI) := by
  refine F.ok sc_AskedRule_before (fun vs H Q E h => ?_) (fun cdv A outer s H vs Q E hr h => ?_)
  . obtain ⟨ru, g, x, y, rfl, hru, ⟨o, ho, hfd⟩, q⟩ := h
    rfl
  obtain ⟨ru, g, x, y, rfl, hru, ⟨o, ho, hfd⟩, q⟩ := h
  refine ⟨_, (ZAC (ZAM (i := 3) sc_AskedRule_before.nd rfl (by walk_at "o") (ZAr (pv 0) rfl))
   (ZAK (ZAd (pe_callV ((CloOk.or clo_any_teller clo_digit_teller).at (hr.mono (by decide))) (pv 3) (ZAA (pv 1) (ZAA (pv 2) ZAG)))))), ?_⟩
  walk_at "rd"
  refine hru.get T.cl_AskedRule T.n_AskedRule_teller (by walk_at "lk") ⟨⟨g, o, rfl, ho, hfd⟩, ?_⟩
  exact q
theorem ok_Asker_ahead {f : Addr} {fd : FuncData} (F : Fun K "ahead" "Asker.ahead" ZAw f fd) (T : Bt K mg C_Join C_Asker C_AskedRule)
    (t_AskedRule_before : Mt P w K mg base CX0 C_AskedRule "before" 2 ["self", "x", "y"] (ZCI C_AskedRule ZBI))
    : FnOk P w K mg base CX0 3 f fd ["self", "p", "q"] (ZCW C_Asker C_AskedRule ZBI) := by
  refine F.ok sc_Asker_ahead (fun vs H Q E h => ?_) (fun cdv A outer s H vs Q E hr h => ?_)
  . obtain ⟨a, rl, ru, tl, n, p, q, xs, ts, x, y, rfl, ha, hrl, hpq, hp0, hq0, hx, hy, hb⟩ := h
    rfl
  obtain ⟨a, rl, ru, tl, n, p, q, xs, ts, x, y, rfl, ha, hrl, hpq, hp0, hq0, hx, hy, hb⟩ := h
  refine ⟨_, (ZAC (ZBF (PW.pt (ZDy (ZAU op_notN (ZAr (pv 0) rfl) pe_non (ZAV _)) (ZDN (ZAU op_ge (ZAr (pv 0) rfl) (ZAr (pv 0) rfl) (ZAV _)))))
   (ZAK (ps_never)) ZAe)
    (ZAW
   (ZAC (ZAM (i := 3) sc_Asker_ahead.nd rfl (by walk_at "o") (ZAP (call_max2 rfl) rfl T.b_max PyProof.Rows.boot_max (ZAA (pv 1) (ZAA (pv 2) ZAG))))
   (ZAC (ZAM (i := 4) sc_Asker_ahead.nd rfl (by walk_at "o") (ZAP (call_min2 rfl) rfl T.b_min PyProof.Rows.boot_min (ZAA (pv 1) (ZAA (pv 2) ZAG))))
   (ZAC (ZAM (i := 5) sc_Asker_ahead.nd rfl (by walk_at "o") (ZBg t_AskedRule_before (hr.mono (by decide)) ZAi (ZAr (pv 0) rfl) (ZAA (ZAh ZAS (ZAr (pv 0) rfl) (pv 3) (fun _ _ => rfl)) (ZAA (ZAh ZAS (ZAr (pv 0) rfl) (pv 4) (fun _ _ => rfl)) ZAG))))
    (ZAW
   (ZAC (ps_fldaug (pv 0) ZAE in_add)
   (ZAC (ZA0 (ZDE PySem.F.plainAttrs_list PySem.F.slot_list_append PySem.F.type_list_append ZBU (ZAr (pv 0) rfl) (ZAA (ZDD (ZAA (pv 3) (ZAA (pv 4) (ZAA (pv 5) ZAG)))) ZAG)))
   (ZAK (ZAd (ZCL (ZAU ZB8 (pv 1) (pv 3) (ZAV _)) (pv 5) (pe_not (pv 5))))))))))))), ?_⟩
  walk_at "rd"
  obtain ⟨ru', g, x', y', e, hru, ho, hrT⟩ := hb
  cases e
  refine ha.get T.cl_Asker T.n_Asker_most (by walk_at "lk") ?_
  rw [if_neg (by simp)]
  refine ZAm ?_
  walk_at "rd"
  refine ⟨p, q, rfl, p, q, rfl, ha.get T.cl_Asker T.n_Asker_rule (by walk_at "lk") (hru.meth (by walk_at "lk") ?_)⟩
  rw [mx_eq, ZEP]
  refine ha.get T.cl_Asker T.n_Asker_row (by walk_at "lk") (ZAY (SqL.of hrl) (ZAT (by omega) hx) ?_)
  refine ha.get T.cl_Asker T.n_Asker_row (by walk_at "lk") (ZAY (SqL.of hrl) (ZAT (by omega) hy) ?_)
  refine ⟨ru, g, x, y, rfl, hru, ho, rT_mono (fun v H1 h => ?_) hrT⟩
  obtain ⟨b, rfl, ha1, htl1, hts, hq⟩ := h
  have nta : tl ≠ a := ha1.ne htl1 fun _ _ _ z => by cases z
  refine ZAm ?_
  walk_at "rd"
  refine ha1.aug T.cl_Asker T.n_Asker_asked (by walk_at "lk") fun H2 ha2 k2 => ?_
  have ha2' := ha2.congr fA_asked
  have htl2 : H2 tl = some (.lst ts) := by rw [k2 tl nta]; exact htl1
  walk_at "rd"
  refine ha2'.get T.cl_Asker T.n_Asker_told (by walk_at "lk") ?_
  walk_at "rd"
  refine ⟨.inl ⟨rfl, _, SqL.of htl2⟩, ZAX (by decide), fun t ht => ?_⟩
  have ntt : t ≠ tl := fun z => by rw [z, htl2] at ht; cases ht
  have nat' : t ≠ a := ha2'.neN ht
  refine ⟨tl, ts, _, rfl, rfl, ZAR ht _ _ _ htl2, ZDA (by omega), ?_⟩
  have fin := hq t (upd (upd H2 t (.tup [.int (max p q), .int (min p q), .bl b])) tl (.lst (ts ++ [.ref t]))) (by rw [<- k2 t nat']; exact ht) (ha2'.keep (by rw [ZAI (Ne.symm nta), ZAI (Ne.symm nat')])) ZAF (by rw [ZAI ntt, ZAF]) (fun c h1 h2 h3 => by rw [ZAI h2, ZAI h3, k2 c h1])
  by_cases hlt : q < p
  . rw [if_pos hlt] at fin
    show (if _ then _ else _)
    rw [if_pos (by omega)]
    exact fin
  . rw [if_neg hlt] at fin
    show (if _ then _ else _)
    rw [if_neg (by omega)]
    exact fin
theorem ok_cell_at {f : Addr} {fd : FuncData} (F : Fun K "_law_cell_at" "_law_cell_at" ZBR f fd) (T : Bt K mg C_Join C_Asker C_AskedRule)
    : FnOk P w K mg base CX0 1 f fd ["_law_script", "_law_k"] (ZDX K) := by
  refine F.ok sc_cell_at (fun vs H Q E h => ?_) (fun cdv A outer s H vs Q E hr h => ?_)
  . obtain ⟨a, ns, k, rfl, hS, h0, q⟩ := h
    rfl
  obtain ⟨a, ns, k, rfl, hS, h0, q⟩ := h
  refine ⟨_, (ZAC (ZBF (ZAU ZDj (pv 1) (ZAP ZAL rfl T.b_len PySem.boot_len (ZAA (pv 0) ZAG)) (ZAV _))
   (ZAK (ZAd (ZAh ZAS (pv 0) (pv 1) (fun _ _ => rfl)))) ZAe)
   (ZAK (ZAd ZAE))), ?_⟩
  walk_at "rd"
  refine ⟨a, _, rfl, .inl hS, ?_⟩
  walk_at "rd"
  rw [yAB]
  unfold cellOf at q
  split
  . rename_i hk
    rw [if_pos hk] at q
    have hk' : k.toNat < ns.length := by omega
    refine ZAY hS (atI_ints h0 (yAM hk')) ?_
    rw [yAM hk'] at q
    exact q
  . rename_i hk
    rw [if_neg hk] at q
    exact q
theorem ok_stream {f : Addr} {fd : FuncData} (F : Fun K "_law_stream" "_law_stream" ZBj f fd) (T : Bt K mg C_Join C_Asker C_AskedRule)
    : FnOk P w K mg base CX0 1 f fd ["_law_seed", "_law_many"] (ZCS) := by
  refine F.ok sc_stream (fun vs H Q E h => ?_) (fun cdv A outer s H vs Q E hr h => ?_)
  . obtain ⟨c, m, rfl, hm1, q⟩ := h
    rfl
  obtain ⟨c, m, rfl, hm1, q⟩ := h
  refine ⟨_, (ZAC (ZAM (i := 2) sc_stream.nd rfl (by walk_at "o") (ZBB ZAG))
   (ZAC (ZAM (i := 3) sc_stream.nd rfl (by walk_at "o") (ZAQ ZA6 (ZAQ ZAu (pv 0) ZAE) ZAE))
   (ZAC (ZCY PassesOwn.never rfl (pi_range1 rfl T.b_range (ZAA (pv 1) ZAG)) (ZA8 (i := 4) sc_stream.nd rfl (by walk_at "o"))
   (ZAC (ZAM (i := 3) sc_stream.nd rfl (by walk_at "o") (ZAQ ZAu (ZAQ ZA6 (ZAQ ZA6 (ZAQ ZCZ (pv 3) (pv 3)) (ZAQ ZCZ ZAE (pv 4))) ZAE) ZAE))
   (ZAK (ZA0 (ZDE PySem.F.plainAttrs_list PySem.F.slot_list_append PySem.F.type_list_append ZBU (pv 2) (ZAA (pv 3) ZAG))))))
   (ZAK (ZAd (pv 2)))))), ?_⟩
  walk_at "rd"
  refine ⟨yAH _, fun l hl => ⟨by decide, ?_⟩⟩
  have c0 := Int.emod_nonneg c (show (1000003 : Int) ≠ 0 by decide)
  have c1 := Int.emod_lt_of_pos c (show (0 : Int) < 1000003 by decide)
  obtain ⟨z0, ez⟩ : ∃ z0, c % 1000003 + 7 = z0 := ⟨_, rfl⟩
  rw [ez]
  refine forR1_of (by omega) (forR_of (fun i σ H' => ∃ (z : Int) (zs : List Int) (v4 : Option V), σ = [some (.int c), some (.int m), some (.ref l), some (.int z), v4] /\ (0 <= z /\ z < 2000000000) /\ H' = upd H l (.lst (zs.map V.int)) /\ zs.length = i) ⟨z0, [], _, rfl, by omega, rfl, rfl⟩ ?_ ?_)
  . rintro i σ H' hi ⟨z, zs, v4, rfl, z0, rfl, hz⟩
    walk_at "rd"
    have y0 := Int.emod_nonneg (z * z + 90001 * (0 + (i : Int)) + 17) (show (1000000007 : Int) ≠ 0 by decide)
    have y1 := Int.emod_lt_of_pos (z * z + 90001 * (0 + (i : Int)) + 17) (show (0 : Int) < 1000000007 by decide)
    refine ⟨.inl ⟨by omega, by omega⟩, .inl ⟨by decide, by decide⟩, by decide, .inl ⟨rfl, _, SqL.of ZAF⟩, l, zs.map V.int, _, rfl, rfl, ZAF, by rw [yAB]; exact ZBd (by omega), ?_⟩
    exact ⟨_, zs ++ [_], _, rfl, by omega, by rw [upd_upd, yAW]; rfl, by rw [yAC, hz]; rfl⟩
  . rintro σ H' ⟨z, zs, v4, rfl, z0, rfl, hz⟩
    walk_at "rd"
    exact q l _ zs (ZAR hl _) hl ZAF (by omega)
theorem ok_numbers {f : Addr} {fd : FuncData} (F : Fun K "_law_numbers" "_law_numbers" ZBQ f fd) (T : Bt K mg C_Join C_Asker C_AskedRule)
    (f_stream : Fn P w K mg base CX0 "_law_stream" 1 ["_law_seed", "_law_many"] (ZCS))
    (f_cell_at : Fn P w K mg base CX0 "_law_cell_at" 1 ["_law_script", "_law_k"] (ZDX K))
    : FnOk P w K mg base CX0 2 f fd ["_law_script"] (ZCU K) := by
  refine F.ok sc_numbers (fun vs H Q E h => ?_) (fun cdv A outer s H vs Q E hr h => ?_)
  . obtain ⟨a, ns, rfl, hS, h63, q⟩ := h
    rfl
  obtain ⟨a, ns, rfl, hS, h63, q⟩ := h
  refine ⟨_, (ZAC (ZBF (ZAU ZB8 (ZAQ ZAu (ZBJ f_cell_at (hr.mono (by decide)) rfl ZAi (ZAA (pv 0) (ZAA ZAE ZAG))) ZAE) ZAE (ZAV _))
   (ZAK (ZAd (ZBJ f_stream (hr.mono (by decide)) rfl ZAi (ZAA (ZBJ f_cell_at (hr.mono (by decide)) rfl ZAi (ZAA (pv 0) (ZAA ZAE ZAG))) (ZAA (ZAQ ZAu (ZAQ ZBA (ZBJ f_cell_at (hr.mono (by decide)) rfl ZAi (ZAA (pv 0) (ZAA ZAE ZAG))) ZAE) ZAE) ZAG))))) ZAe)
   (ZAK (ZAd (ZCK ZCz (pv 0) (ZBx ZAE) (ZBx ZAE))))), ?_⟩
  walk_at "rd"
  refine ⟨a, ns, 0, rfl, hS, by decide, ?_⟩
  generalize cellOf ns 0 = c0
  walk_at "rd"
  refine ⟨by decide, ?_⟩
  by_cases h3 : c0 % 4 = 3
  . rw [if_pos h3]
    refine ⟨a, ns, 1, rfl, hS, by decide, ?_⟩
    refine ⟨a, ns, 0, rfl, hS, by decide, ?_⟩
    generalize cellOf ns 1 = c1
    generalize cellOf ns 0 = c2
    walk_at "rd"
    have r0 := Int.emod_nonneg (c2 / 4) (show (251 : Int) ≠ 0 by decide)
    have r1 := Int.emod_lt_of_pos (c2 / 4) (show (0 : Int) < 251 by decide)
    obtain ⟨m, em⟩ : ∃ m : Nat, c2 / 4 % 251 = m := ⟨(c2 / 4 % 251).toNat, by omega⟩
    rw [em] at r0 r1 ⊢
    exact ⟨⟨by decide, by decide⟩, by decide, c1, m, rfl, by omega, fun l H' zs s h0 h1 hl => q l H' zs s h0 h1 (by omega)⟩
  . rw [if_neg h3]
    walk_at "rd"
    refine ZDB hS fun l hl => ?_
    rw [cutV_ints]
    refine q l _ _ (ZAR hl _) hl ZAF ?_
    rw [yAP, yAZ]
    omega
theorem ok_row {f : Addr} {fd : FuncData} (F : Fun K "_law_row" "_law_row" ZDh f fd) (T : Bt K mg C_Join C_Asker C_AskedRule)
    : FnOk P w K mg base CX0 1 f fd ["_law_numbers_here", "_law_kind"] (ZEL) := by
  refine F.ok sc_row (fun vs H Q E h => ?_) (fun cdv A outer s H vs Q E hr h => ?_)
  . obtain ⟨a, kd, zs, rfl, ha, hz, q⟩ := h
    rfl
  obtain ⟨a, kd, zs, rfl, ha, hz, q⟩ := h
  refine ⟨_, (ZAC (ZAM (i := 2) sc_row.nd rfl (by walk_at "o") (ZAh ZAS (ZBB (ZAA ZAE (ZAA ZAE (ZAA ZAE (ZAA (ZAQ op_pow ZAE ZAE) ZAG))))) (ZAQ ZAu (pv 1) ZAE) (fun _ _ => rfl)))
    (ZAW
   (ZAC (ZAM (i := 3) sc_row.nd rfl (by walk_at "o") (ZDO rfl (k := 1) (js := [2]) (N' := ["_law_number", "_law_base"]) (by rfl) (ZBy (pv 0)) (fun _ _ _ _ => ZA8 (i := 0) (show (["_law_number", "_law_base"] : List Str).Nodup by decide +kernel) rfl (by walk_at "o")) (fun _ _ _ _ => ZC2) (fun _ _ _ _ => (ZAQ ZBh (ZAQ ZAu (pv 0) (pv 1)) (ZAQ ZBA (pv 1) ZAE)))))
    (ZAW
   (ZAC (ZBF (ZAU ZB8 (ZAQ ZAu (ZAQ ZBA (pv 1) ZAE) ZAE) ZAE (ZAV _))
   (ZAK (ZAM (i := 3) sc_row.nd rfl (by walk_at "o") (ZAP call_sortedB rfl T.b_sorted PyProof.Rows.boot_sorted (ZAA (pv 3) ZAG)))) ZAe)
    (ZAW
   (ZAC (ZBF (ZAU ZB8 (ZAQ ZAu (ZAQ ZBA (pv 1) ZAE) ZAE) ZAE (ZAV _))
   (ZAK (ZAM (i := 3) sc_row.nd rfl (by walk_at "o") (pe_sortR (pv 3) ZC3 rfl T.b_sorted))) ZAe)
    (ZAW
   (ZAK (ZAd (ZDO rfl (k := 1) (js := [3]) (N' := ["_law_k", "_law_keys"]) (by rfl) (pi_range1 rfl T.b_range (ZAA (ZAP ZAL rfl T.b_len PySem.boot_len (ZAA (pv 3) ZAG)) ZAG)) (fun _ _ _ _ => ZA8 (i := 0) (show (["_law_k", "_law_keys"] : List Str).Nodup by decide +kernel) rfl (by walk_at "o")) (fun _ _ _ _ => ZC2) (fun _ _ _ _ => (ZDD (ZAA (ZAh (ix_listK K) (pv 1) (pv 0) (fun _ _ => rfl)) (ZAA (pv 0) ZAG))))))))))))))), ?_⟩
  walk_at "rd"
  refine ⟨⟨by decide, by decide, by decide⟩, ZAX (by decide), fun p hp => ⟨by decide, ?_⟩⟩
  obtain ⟨b, hb0, hb⟩ : ∃ b : Int, 0 < b /\ atI [V.int 2, V.int 7, V.int 300, V.int (10 ^ Int.toNat 60)] (kd % 4) = some (V.int b) := by
    have m0 : kd % 4 = 0 ∨ kd % 4 = 1 ∨ kd % 4 = 2 ∨ kd % 4 = 3 := by omega
    rcases m0 with e | e | e | e <;> rw [e]
    . exact ⟨2, by decide, ZAT (by decide) rfl⟩
    . exact ⟨7, by decide, ZAT (by decide) rfl⟩
    . exact ⟨300, by decide, ZAT (by decide) rfl⟩
    . exact ⟨10 ^ Int.toNat 60, by decide, ZAT (by decide) rfl⟩
  refine ZAY (SqL.of ZAF) hb ?_
  obtain ⟨H1, e1, s1, _⟩ := newH hp (.lst [.int 2, .int 7, .int 300, .int (10 ^ Int.toNat 60)])
  rw [e1]; clear e1
  refine ZAm ?_
  walk_at "rd"
  refine compL_of (SqL.of (s1 _ _ ha)) (by rw [yAB]; omega) (fun i ys σ H' => ∃ v, σ = [v, some (.int b)] /\ H' = H1 /\ ∃ cs : List Int, ys = cs.map V.int /\ cs.length = i) ⟨_, rfl, rfl, [], rfl, rfl⟩ (fun i ys σ H' _ ⟨_, _, e, cs, e2, e3⟩ => ⟨by rw [e]; exact SqL.of (s1 _ _ ha), by rw [e2, yAB]; omega⟩) ?_ ?_
  . rintro i ys x σ H' hi hx ⟨v, rfl, rfl, cs, rfl, hcs⟩
    obtain ⟨n, hn', rfl⟩ := get_ints hx
    walk_at "rd"
    refine ⟨hb0, ⟨by decide, by decide⟩, ?_⟩
    exact Nxt.of hi ⟨_, rfl, rfl, cs ++ [_], by rw [yAW]; rfl, by rw [yAC, hcs]; rfl⟩
  rintro ys σ H2 ⟨v, rfl, rfl, cs, rfl, hcs⟩ k1 hk1
  rw [yAB] at hcs
  obtain ⟨H3, e3, s3, h3⟩ := newH hk1 (.lst (cs.map V.int))
  rw [e3]; clear e3
  have S3 : Same H H3 := s1.trans s3
  refine ZAm ?_
  walk_at "rd"
  refine ⟨⟨by decide, by decide⟩, by decide, ?_⟩
  apply once2 (fun (ky : Addr) (H4 : Hp) => Same H H4 /\ H ky = none /\ ∃ ks : List Int, H4 ky = some (.lst (ks.map V.int)) /\ ks.length = zs.length)
  . intro tailp
    by_cases h1 : kd / 4 % 4 = 1
    . rw [if_pos h1]
      refine ⟨k1, cs, rfl, SqL.of h3, by omega, fun l ms hl hperm _ => ?_⟩
      exact tailp l _ ⟨S3.new hl, S3.free hl, ms, ZAF, by rw [hperm.length_eq, hcs]⟩
    . rw [if_neg h1]
      exact tailp k1 H3 ⟨S3, s1.free hk1, cs, h3, hcs⟩
  rintro ky H4 ⟨S4, hky, ks, h4, hks⟩
  clear hcs S3 h3 s3 hk1
  refine ZAm ?_
  walk_at "rd"
  refine ⟨⟨by decide, by decide⟩, by decide, ?_⟩
  apply once2 (fun (ky : Addr) (H4 : Hp) => Same H H4 /\ H ky = none /\ ∃ ks : List Int, H4 ky = some (.lst (ks.map V.int)) /\ ks.length = zs.length)
  . intro tailp
    by_cases h1 : kd / 4 % 4 = 2
    . rw [if_pos h1]
      refine ⟨ky, ks, rfl, SqL.of h4, by omega, fun l ms hl hperm _ => ?_⟩
      exact tailp l _ ⟨S4.new hl, S4.free hl, ms, ZAF, by rw [hperm.length_eq, hks]⟩
    . rw [if_neg h1]
      exact tailp ky H4 ⟨S4, hky, ks, h4, hks⟩
  rintro ky H4 ⟨S4, hky, ks, h4, hks⟩
  refine ZAm ?_
  walk_at "rd"
  refine ⟨ky, _, rfl, .inl (SqL.of h4), ?_⟩
  rw [yAB]
  refine compR1_of (by omega) (fun i ys σ H' => ∃ v, σ = [v, some (.ref ky)] /\ Same H4 H' /\ ys.length = i /\ ∀ (j : Nat) k, j < i -> ks[j]? = some k -> ∃ r, ys[j]? = some (V.ref r) /\ H' r = some (.tup [.int k, .int j])) ⟨_, rfl, .refl _, rfl, fun _ _ h => by omega⟩ (fun i ys σ H' ⟨_, _, _, l, _⟩ => Nat.le_of_eq l) ?_ ?_
  . rintro i ys σ H' hi ⟨v, rfl, s5, hl, hth⟩
    have hi' : i < ks.length := by omega
    walk_at "rd"
    rw [show (0 + (i : Int)) = i by omega]
    refine ZAY (SqL.of (s5 _ _ h4)) (atI_ints (v := ks[i]) (by omega) (by rw [Int.toNat_natCast]; exact yAM hi')) ⟨ZAX (by decide), fun t ht => ?_⟩
    refine Nxt.of hi ⟨_, rfl, s5.new ht, by rw [yAC, hl]; rfl, fun j k' hj hk' => ?_⟩
    by_cases z : j < i
    . obtain ⟨r, a1, a2⟩ := hth j k' z hk'
      exact ⟨r, by rw [yBH (by omega)]; exact a1, ZAR ht _ _ _ a2⟩
    . have : j = i := by omega
      subst this
      rw [yAM hi'] at hk'; cases hk'
      exact ⟨t, by rw [<- hl, yBG (yAA _), yBQ]; rfl, ZAF⟩
  rintro xs σ H5 ⟨v, rfl, s5, hxl, hth⟩ xl hxl0
  refine q xl _ ks xs (S4.trans (s5.new hxl0)) (S4.free (s5.free hxl0)) ZAF hks ⟨by omega, fun i k hk => ?_⟩
  have hi := (yAG.mp hk).1
  obtain ⟨r, a1, a2⟩ := hth i k (by omega) hk
  exact ⟨r, a1, ZAR hxl0 _ _ _ a2⟩
theorem ok_sides {f : Addr} {fd : FuncData} (F : Fun K "_law_sides" "_law_sides" ZCE f fd) (T : Bt K mg C_Join C_Asker C_AskedRule)
    : FnOk P w K mg base CX0 1 f fd ["_law_order", "_law_numbers_here", "_law_kind", "_law_deal"] (ZCT) := by
  refine F.ok sc_sides (fun vs H Q E h => ?_) (fun cdv A outer s H vs Q E hr h => ?_)
  . obtain ⟨od, nb, os, zs, kd, dl, rfl, hod, hnb, hos, hzs, q⟩ := h
    rfl
  obtain ⟨od, nb, os, zs, kd, dl, rfl, hod, hnb, hos, hzs, q⟩ := h
  refine ⟨_, (ZAC (ZAM (i := 4) sc_sides.nd rfl (by walk_at "o") (ZAh ZAS (ZBB (ZAA ZAE (ZAA ZAE (ZAA ZAE (ZAA ZAE (ZAA ZAE ZAG)))))) (ZAQ ZAu (ZAQ ZBA (pv 2) ZAE) ZAE) (fun _ _ => rfl)))
   (ZAC (ZAM (i := 5) sc_sides.nd rfl (by walk_at "o") (ZAQ ZAu (ZAQ ZBA (pv 2) ZAE) ZAE))
   (ZAC (ZAM (i := 6) sc_sides.nd rfl (by walk_at "o") (ZBB (ZAA (ZBB ZAG) (ZAA (ZBB ZAG) ZAG))))
   (ZAC (ZBF (ZAU ZB8 (ZAQ ZAu (ZAQ ZBA (pv 2) ZAE) ZAE) ZAE (ZAV _))
   (ZAC (ZCY PassesOwn.never rfl (pi_enum rfl T.b_enumerate (ZAA (pv 0) ZAG)) (pg_tup (n := 2) rfl (ZB7 (ZA8 (i := 7) sc_sides.nd rfl (by walk_at "o")) (ZB7 (ZA8 (i := 8) sc_sides.nd rfl (by walk_at "o")) pgs_nil)))
   (ZAC (ZBF (ZAU ZDj (pv 3) ZAE (ZAV _))
   (ZAK (ZAM (i := 3) sc_sides.nd rfl (by walk_at "o") (ZAQ ZA6 ZAE (ZAQ ZAu (ZAQ ZCZ (ZAQ ZAu (ZAh ZAS (pv 1) (ZAQ ZBh (ZDi ZCk ZAE) (pv 7)) (fun _ _ => rfl)) ZAE) ZAE) ZAE)))) ZAe)
   (ZAC (ZA0 (ZDE PySem.F.plainAttrs_list PySem.F.slot_list_append PySem.F.type_list_append ZBU (ZAh ZAS (pv 6) (ZAQ ZAu (pv 3) ZAE) (fun _ _ => rfl)) (ZAA (pv 8) ZAG)))
   (ZAK (ZAM (i := 3) sc_sides.nd rfl (by walk_at "o") (ZAQ ZBA (pv 3) ZAE))))))
   (ZAK (ZAd (pv 6)))) ZAe)
   (ZAC (ZAM (i := 9) sc_sides.nd rfl (by walk_at "o") ZAE)
   (ZAC (ZAM (i := 7) sc_sides.nd rfl (by walk_at "o") ZAE)
   (ZAC (ZCJ PassesOwn.never (ZAU ZDj (pv 9) (ZAP ZAL rfl T.b_len PySem.boot_len (ZAA (pv 0) ZAG)) (ZAV _))
   (ZAC (ZAM (i := 10) sc_sides.nd rfl (by walk_at "o") (ZAQ ZA6 ZAE (ZAQ ZAu (ZAQ ZAu (ZAQ ZCZ (ZAQ ZAu (ZAh ZAS (pv 1) (ZAQ ZBh (ZDi ZCk ZAE) (pv 7)) (fun _ _ => rfl)) ZAE) ZAE) ZAE) (pv 4))))
   (ZAC (ZA0 (ZDE PySem.F.plainAttrs_list PySem.F.slot_list_extend PySem.F.type_list_extend mt_extend (ZAh ZAS (pv 6) (pv 5) (fun _ _ => rfl)) (ZAA (ZCK ZCz (pv 0) (ZBx (pv 9)) (ZBx (ZAQ ZA6 (pv 9) (pv 10)))) ZAG)))
   (ZAC (ZAM (i := 9) sc_sides.nd rfl (by walk_at "o") (ZAQ ZA6 (pv 9) (pv 10)))
   (ZAC (ZAM (i := 5) sc_sides.nd rfl (by walk_at "o") (ZAQ ZBh ZAE (pv 5)))
   (ZAK (ZAM (i := 7) sc_sides.nd rfl (by walk_at "o") (ZAQ ZA6 (pv 7) ZAE))))))))
   (ZAK (ZAd (pv 6)))))))))), ?_⟩
  walk_at "rd"
  refine ⟨ZAX (by decide), fun p hp => ⟨⟨by decide, by decide⟩, by decide, ?_⟩⟩
  obtain ⟨wd, hwd0, hwd⟩ : ∃ b : Int, 0 < b /\ atI [V.int 1, V.int 3, V.int 12, V.int 45, V.int 300] (kd / 16 % 5) = some (V.int b) := by
    have m0 : kd / 16 % 5 = 0 ∨ kd / 16 % 5 = 1 ∨ kd / 16 % 5 = 2 ∨ kd / 16 % 5 = 3 ∨ kd / 16 % 5 = 4 := by omega
    rcases m0 with e | e | e | e | e <;> rw [e]
    . exact ⟨1, by decide, ZAT (by decide) rfl⟩
    . exact ⟨3, by decide, ZAT (by decide) rfl⟩
    . exact ⟨12, by decide, ZAT (by decide) rfl⟩
    . exact ⟨45, by decide, ZAT (by decide) rfl⟩
    . exact ⟨300, by decide, ZAT (by decide) rfl⟩
  refine ZAY (SqL.of ZAF) hwd ⟨⟨by decide, by decide⟩, by decide, yAH _, fun s0 h0 => ⟨yAH _, fun s1 h1 => ⟨ZAX (by decide), fun sd hsd => ?_⟩⟩⟩
  have sA := (Same.refl H).new hp (o := .lst [.int 1, .int 3, .int 12, .int 45, .int 300])
  have g0 : H s0 = none := sA.free h0
  have g1 : H s1 = none := (sA.new h0).free h1
  have gd : H sd = none := ((sA.new h0).new h1).free hsd
  have n01 : s0 ≠ s1 := fun e => by rw [<- e, ZAF] at h1; cases h1
  have n0d : s0 ≠ sd := fun e => by rw [<- e, ZAI n01, ZAF] at hsd; cases hsd
  have n1d : s1 ≠ sd := fun e => by rw [<- e, ZAF] at hsd; cases hsd
  have b0 : kd / 80 % 2 = 0 ∨ kd / 80 % 2 = 1 := by omega
  refine ⟨⟨by decide, by decide⟩, by decide, ?_⟩
  by_cases hm : kd / 160 % 2 = 1
  . rw [if_pos hm]
    refine forE_of (SqL.of (xs := nL os) ((((sA.new h0).new h1).new hsd) _ _ hod)) (fun i σ H' => ∃ (dl : Int) (v7 v8 v9 v10 : Option V) (l0 l1 : List Nat), σ = [some (.ref od), some (.ref nb), some (.int kd), some (.int dl), some (.int wd), some (.int (kd / 80 % 2)), some (.ref sd), v7, v8, v9, v10] /\ SInv H s0 s1 sd os i H' l0 l1) ⟨dl, _, _, _, _, [], [], rfl, ((sA.new h0).new h1).new hsd, ZAF, by rw [ZAI n0d, ZAI n01, ZAF]; rfl, by rw [ZAI n1d, ZAF]; rfl, .nil⟩ (fun i σ H' _ h => by obtain ⟨_, _, _, _, _, _, _, _, s, _⟩ := h; exact SqL.of (s _ _ hod)) ?_ ?_
    . rintro i x σ H' p hx ⟨dl, v7, v8, v9, v10, l0, l1, rfl, s, hd, e0, e1, sh⟩ hp
      rw [yAR] at hx
      obtain ⟨y, hy, rfl⟩ := Option.map_eq_some_iff.mp hx
      have hi := (yAG.mp hy).1
      refine gTup_of (SqT.of ZAF) rfl ?_
      have s' := s.new hp (o := .tup [.int i, .int y])
      have hd' := ZAR hp (.tup [.int i, .int y]) _ _ hd
      have e0' := ZAR hp (.tup [.int i, .int y]) _ _ e0
      have e1' := ZAR hp (.tup [.int i, .int y]) _ _ e1
      generalize upd H' p (.tup [.int i, .int y]) = H2 at s' hd' e0' e1' ⊢
      clear hp s hd e0 e1
      walk_at "rd"
      have hsl := sh.len
      rw [yAP] at hsl
      apply ZEO (fun (_ : Int) => True)
      . intro tailp
        by_cases hdl : dl < 1
        . rw [if_pos hdl]
          obtain ⟨v, hv⟩ := atI_back (xs := zs) (k := i) (by omega)
          refine ZAY (SqL.of (s' _ _ hnb)) hv ?_
          walk_at "rd"
          obtain ⟨dn, hdn⟩ : ∃ dn, 2 + v % 65521 * 48271 % 65519 = dn := ⟨_, rfl⟩
          rw [hdn]
          refine ⟨by decide, .inr ⟨by decide, by decide⟩, by decide, ?_⟩
          exact tailp dn trivial
        . rw [if_neg hdl]
          exact tailp dl trivial
      intro dl _
      refine ⟨by decide, ?_⟩
      have m2 : dl % 2 = 0 ∨ dl % 2 = 1 := by omega
      have et : os.take (i + 1) = os.take i ++ [y] := by rw [yCE, hy]; rfl
      rcases m2 with e | e
      . rw [e]
        refine ZAY (SqL.of hd') (ZAT (by decide) rfl) ⟨.inl ⟨rfl, _, SqL.of e0'⟩, ?_⟩
        refine ⟨s0, _, _, rfl, rfl, e0', ZBd (by rw [yAB]; omega), ⟨by decide, by decide⟩, ?_⟩
        refine ⟨_, _, _, _, _, l0 ++ [y], l1, rfl, s'.upd g0, by rw [ZAI (Ne.symm n0d)]; exact hd', by rw [ZAF]; unfold nL; rw [yAW]; rfl, by rw [ZAI (Ne.symm n01)]; exact e1', by rw [et]; exact sh.fst⟩
      . rw [e]
        refine ZAY (SqL.of hd') (ZAT (by decide) rfl) ⟨.inl ⟨rfl, _, SqL.of e1'⟩, ?_⟩
        refine ⟨s1, _, _, rfl, rfl, e1', ZBd (by rw [yAB]; omega), ⟨by decide, by decide⟩, ?_⟩
        refine ⟨_, _, _, _, _, l0, l1 ++ [y], rfl, s'.upd g1, by rw [ZAI (Ne.symm n1d)]; exact hd', by rw [ZAI n01]; exact e0', by rw [ZAF]; unfold nL; rw [yAW]; rfl, by rw [et]; exact sh.snd⟩
    . rintro σ H' ⟨dl, v7, v8, v9, v10, l0, l1, rfl, s, hd, e0, e1, sh⟩
      rw [yAB, yBC (yAA _)] at sh
      walk_at "rd"
      exact q sd s0 s1 H' l0 l1 s gd g0 g1 n01 hd e0 e1 sh
  rw [if_neg hm]
  walk_at "rd"
  refine ZCF (fun m σ H' => ∃ (i k : Nat) (bt : Int) (v8 : Option V) (l0 l1 : List Nat), m = os.length - i /\ σ = [some (.ref od), some (.ref nb), some (.int kd), some (.int dl), some (.int wd), some (.int bt), some (.ref sd), some (.int k), none, some (.int i), v8] /\ (bt = 0 ∨ bt = 1) /\ k <= i /\ SInv H s0 s1 sd os i H' l0 l1) ⟨_, 0, 0, _, _, [], [], rfl, rfl, b0, yAA _, ((sA.new h0).new h1).new hsd, ZAF, by rw [ZAI n0d, ZAI n01, ZAF]; rfl, by rw [ZAI n1d, ZAF]; rfl, .nil⟩ ?_
  rintro m σ H' ⟨i, k, bt, v8, l0, l1, rfl, rfl, hb, hk, s, hd, e0, e1, sh⟩
  walk_at "rd"
  refine ⟨od, _, rfl, .inl (SqL.of (s _ _ hod)), ?_⟩
  rw [yAB]
  by_cases hlt : i < os.length
  . rw [if_pos (by omega)]
    refine ZCG ?_
    walk_at "rd"
    obtain ⟨v, hv⟩ := atI_back (xs := zs) (k := k) (by omega)
    refine ZAY (SqL.of (s _ _ hnb)) hv ?_
    walk_at "rd"
    have w0 := Int.emod_nonneg (v % 65521 * 48271 % 65519) (show wd ≠ 0 by omega)
    obtain ⟨sz, esz⟩ : ∃ sz : Nat, v % 65521 * 48271 % 65519 % wd = sz := ⟨(v % 65521 * 48271 % 65519 % wd).toNat, by omega⟩
    rw [esz]
    refine ⟨by decide, .inr ⟨by decide, by decide⟩, by decide, hwd0, ?_⟩
    rw [show (i : Int) + (1 + (sz : Int)) = ((i + (1 + sz) : Nat) : Int) by omega]
    have et : os.take (i + (1 + sz)) = os.take i ++ (os.drop i).take (min (i + (1 + sz)) os.length - i) := by
      rw [<- List.take_add]
      by_cases h : os.length <= i + (1 + sz)
      . rw [yBC h, yBC (by omega)]
      . rw [show i + (min (i + (1 + sz)) os.length - i) = i + (1 + sz) by omega]
    have ec : cutV (nL os) (some (i : Int)) (some ((i + (1 + sz) : Nat) : Int)) = nL ((os.drop i).take (min (i + (1 + sz)) os.length - i)) := by
      unfold cutV
      rw [HT.sIx_nat, HT.sIx_nat, yAB, yCD (show i <= os.length by omega)]
      unfold nL
      rw [<- List.map_drop, <- List.map_take]
    have hsl := sh.len
    rw [yAP] at hsl
    rcases hb with rfl | rfl
    . refine ZAY (SqL.of hd) (ZAT (by decide) rfl) ⟨.inl ⟨rfl, _, SqL.of e0⟩, ZDB (SqL.of (s _ _ hod)) fun c hc => ?_⟩
      rw [ec]
      have nc0 : s0 ≠ c := ZAD e0 hc
      have nc1 : s1 ≠ c := ZAD e1 hc
      have ncd : sd ≠ c := ZAD hd hc
      refine ⟨s0, c, _, _, rfl, rfl, by rw [ZAI nc0]; exact e0, ZAF, ZAX (by rw [yAB, yAB, yAP, yAZ]; omega), ?_⟩
      refine ⟨os.length - (i + (1 + sz)), by omega, i + (1 + sz), k + 1, _, _, l0 ++ _, l1, rfl, rfl, by omega, by omega, (s.new hc).upd g0, by rw [ZAI (Ne.symm n0d), ZAI ncd]; exact hd, by rw [ZAF]; unfold nL; rw [yAW], by rw [ZAI (Ne.symm n01), ZAI nc1]; exact e1, by rw [et]; exact sh.app0 _⟩
    . refine ZAY (SqL.of hd) (ZAT (by decide) rfl) ⟨.inl ⟨rfl, _, SqL.of e1⟩, ZDB (SqL.of (s _ _ hod)) fun c hc => ?_⟩
      rw [ec]
      have nc0 : s0 ≠ c := ZAD e0 hc
      have nc1 : s1 ≠ c := ZAD e1 hc
      have ncd : sd ≠ c := ZAD hd hc
      refine ⟨s1, c, _, _, rfl, rfl, by rw [ZAI nc1]; exact e1, ZAF, ZAX (by rw [yAB, yAB, yAP, yAZ]; omega), ?_⟩
      refine ⟨os.length - (i + (1 + sz)), by omega, i + (1 + sz), k + 1, _, _, l0, l1 ++ _, rfl, rfl, by omega, by omega, (s.new hc).upd g1, by rw [ZAI (Ne.symm n1d), ZAI ncd]; exact hd, by rw [ZAI n01, ZAI nc0]; exact e0, by rw [ZAF]; unfold nL; rw [yAW], by rw [et]; exact sh.app1 _⟩
  . rw [if_neg (by omega)]
    walk_at "rd"
    rw [yBC (by omega)] at sh
    exact q sd s0 s1 H' l0 l1 s gd g0 g1 n01 hd e0 e1 sh
theorem ok_blocks {f : Addr} {fd : FuncData} (F : Fun K "_law_blocks" "_law_blocks" ZBl f fd) (T : Bt K mg C_Join C_Asker C_AskedRule)
    : FnOk P w K mg base CX0 1 f fd ["_law_order", "_law_second"] (ZCD) := by
  refine F.ok sc_blocks (fun vs H Q E h => ?_) (fun cdv A outer s H vs Q E hr h => ?_)
  . obtain ⟨od, sc, os, rs, rfl, hod, hsc, hos, hok, hrk, q⟩ := h
    rfl
  obtain ⟨od, sc, os, rs, rfl, hod, hsc, hos, hok, hrk, q⟩ := h
  refine ⟨_, (ZAC (ZAM (i := 2) sc_blocks.nd rfl (by walk_at "o") (ZAQ op_rep (ZBB (ZAA ZAE ZAG)) (ZAP ZAL rfl T.b_len PySem.boot_len (ZAA (pv 0) ZAG))))
   (ZAC (ZCY PassesOwn.never rfl (ZBy (pv 1)) (ZA8 (i := 3) sc_blocks.nd rfl (by walk_at "o"))
   (ZAK (ZDz ZAE (ZD0 (pv 2) (pv 3) ZC0))))
   (ZAC (ZAM (i := 4) sc_blocks.nd rfl (by walk_at "o") (ZBB ZAG))
   (ZAC (ZAM (i := 5) sc_blocks.nd rfl (by walk_at "o") (ZDi ZCk ZAE))
   (ZAC (ZCY PassesOwn.never rfl (ZBy (pv 0)) (ZA8 (i := 3) sc_blocks.nd rfl (by walk_at "o"))
   (ZAC (ZBF (ZAU ZEN (ZAh ZAS (pv 2) (pv 3) (fun _ _ => rfl)) (pv 5) (ZAV _))
   (ZAK (ZA0 (ZDE PySem.F.plainAttrs_list PySem.F.slot_list_append PySem.F.type_list_append ZBU (pv 4) (ZAA ZAE ZAG)))) ZAe)
   (ZAC (ZDz (ZAQ ZA6 (ZAh ZAS (pv 4) (ZDi ZCk ZAE) (fun _ _ => rfl)) ZAE) (ZD0 (pv 4) (ZDi ZCk ZAE) ZC0))
   (ZAK (ZAM (i := 5) sc_blocks.nd rfl (by walk_at "o") (ZAh ZAS (pv 2) (pv 3) (fun _ _ => rfl)))))))
   (ZAK (ZAd (pv 4)))))))), ?_⟩
  walk_at "rd"
  refine ⟨ZAX (by decide), fun p hp => ⟨od, _, rfl, .inl (SqL.of (ZAR hp _ _ _ hod)), ?_⟩⟩
  rw [yAB]
  refine ⟨p, os.length, _, rfl, rfl, ZAF, by omega, by omega, ZAX (by rw [Int.toNat_natCast]; show 1 * os.length <= _; omega), fun l hl => ?_⟩
  rw [Int.toNat_natCast, rep71, <- mk71_nil]
  have hln : H l = none := (ZAR hp _).free hl
  refine ZCe (SqL.of (ZAR hl _ _ _ (ZAR hp _ _ _ hsc))) (fun i σ H' => ∃ v3, σ = [some (.ref od), some (.ref sc), some (.ref l), v3, none, none] /\ Same H H' /\ H' l = some (.lst (nL (mk71 os.length (rs.take i))))) ⟨_, rfl, ((Same.refl _).new hp).new hl, ZAF⟩ (fun i σ H' _ ⟨_, _, h, _⟩ => SqL.of (h _ _ hsc)) ?_ ?_
  . rintro i x σ H' hx ⟨v3, rfl, s, h⟩
    rw [yAR] at hx
    obtain ⟨y, hy, rfl⟩ := Option.map_eq_some_iff.mp hx
    have hyn := hrk y (yAO hy)
    walk_at "rd"
    refine ⟨l, _, _, _, rfl, rfl, h, ixN_of (by omega) (by rw [yAB, ZCN]; omega), ?_⟩
    refine ⟨_, rfl, s.upd hln, ?_⟩
    rw [ZAF, Int.toNat_natCast, yCE, hy]
    show _ = some (HO.lst (nL (mk71 os.length (rs.take i ++ [y]))))
    rw [<- mk71_snoc hyn]
    unfold nL
    rw [List.map_set]
    rfl
  rintro σ H' ⟨v3, rfl, s, h⟩
  rw [yAB, yBC (yAA _)] at h
  walk_at "rd"
  refine ⟨yAH _, fun p2 hp2 => ?_⟩
  have hpn : H p2 = none := s.free hp2
  have nlp : l ≠ p2 := ZAD h hp2
  refine ZCe (SqL.of (ZAR hp2 _ _ _ (s _ _ hod))) (fun i σ H' => ∃ v3, σ = [some (.ref od), some (.ref sc), some (.ref l), v3, some (.ref p2), some (.int (ZDk (rl ((os.take i).map (ZBc rs)))))] /\ Same H H' /\ H' l = some (.lst (nL (mk71 os.length rs))) /\ H' p2 = some (.lst (nL (szs rs (os.take i))))) ⟨_, rfl, s.new hp2, ZAR hp2 _ _ _ h, ZAF⟩ (fun i σ H' _ ⟨_, _, h, _⟩ => SqL.of (h _ _ hod)) ?_ ?_
  . rintro i x σ H' hx ⟨v3, rfl, s, h, h2⟩
    rw [yAR] at hx
    obtain ⟨y, hy, rfl⟩ := Option.map_eq_some_iff.mp hx
    have hyn := hok y (yAO hy)
    have hio := (yAG.mp hy).1
    have hmv : atI (nL (mk71 os.length rs)) (y : Int) = some (.int (if ZBc rs y then 0 else 1)) := by
      rw [ZDe (o := if y ∈ rs then 1 else 0) (by rw [yAM (by rw [ZCN]; exact hyn), ZC4])]
      unfold ZBc
      by_cases e : y ∈ rs <;> simp [e]
    have et : (os.take (i + 1)).map (ZBc rs) = (os.take i).map (ZBc rs) ++ [ZBc rs y] := by rw [yCE, hy, yAW]; rfl
    have hlen : (szs rs (os.take i)).length <= 250 := by
      unfold szs
      have := (ZDx ((os.take i).map (ZBc rs))).1
      rw [yAB, yAP] at this
      rw [yAB]
      omega
    have es : szs rs (os.take (i + 1)) = (ZBe (rl ((os.take i).map (ZBc rs))) (ZBc rs y)).map (·.2) := by unfold szs; rw [et, ZDL]
    obtain ⟨r1, r2, r3⟩ := rl_step (rl ((os.take i).map (ZBc rs))) (ZBc rs y)
    walk_at "rd"
    refine ZAY (SqL.of h) hmv ?_
    walk_at "rd"
    apply ZEO (fun (H3 : Hp) => ∃ zs n, Same H H3 /\ H3 l = some (.lst (nL (mk71 os.length rs))) /\ H3 p2 = some (.lst (nL (zs ++ [n]))) /\ szs rs (os.take (i + 1)) = zs ++ [n + 1])
    . intro tailp
      by_cases hv : ¬ ZDk (rl ((os.take i).map (ZBc rs))) = (if ZBc rs y then 0 else 1)
      . rw [if_pos (fun z => hv z.symm)]
        walk_at "rd"
        refine ⟨.inl ⟨rfl, _, SqL.of h2⟩, p2, _, _, rfl, rfl, h2, ZBd (by rw [yAB]; omega), ?_⟩
        have g1 : Same H (upd H' p2 (.lst (nL (szs rs (os.take i)) ++ [.int 0]))) := s.upd hpn
        have g2 : upd H' p2 (.lst (nL (szs rs (os.take i)) ++ [.int 0])) l = some (.lst (nL (mk71 os.length rs))) := by rw [ZAI nlp]; exact h
        have g3 : upd H' p2 (.lst (nL (szs rs (os.take i)) ++ [.int 0])) p2 = some (.lst (nL (szs rs (os.take i) ++ [0]))) := by rw [ZAF]; unfold nL; rw [yAW]; rfl
        generalize upd H' p2 (.lst (nL (szs rs (os.take i)) ++ [.int 0])) = H3 at g1 g2 g3 ⊢
        exact tailp H3 ⟨_, 0, g1, g2, g3, by rw [es, r2 hv]; rfl⟩
      . have hv := Decidable.not_not.mp hv
        rw [if_neg (fun z => z hv.symm)]
        obtain ⟨zs, n, z1, z2⟩ := r1 hv
        have g3 : H' p2 = some (.lst (nL (zs ++ [n]))) := by rw [h2]; unfold szs; rw [z1]
        have g4 : szs rs (os.take (i + 1)) = zs ++ [n + 1] := by rw [es, z2]
        refine tailp H' ?_
        exact ⟨zs, n, s, h, g3, g4⟩
    rintro H3 ⟨zs, n, g1, g2, g3, g4⟩
    have g3' : H3 p2 = some (.lst (nL zs ++ [.int n])) := by rw [g3]; unfold nL; rw [yAW]; rfl
    walk_at "rd"
    refine ZAY (SqL.of g3') getL_snoc ?_
    walk_at "rd"
    refine ⟨p2, _, _, _, rfl, rfl, g3', ixL_last, ?_⟩
    rw [set_last]
    refine ZAY (SqL.of (by rw [ZAI nlp]; exact g2)) hmv ?_
    refine ⟨some (.int y), ?_, g1.upd hpn, by rw [ZAI nlp]; exact g2, ?_⟩
    . rw [et, ZDL, r3]
    . rw [ZAF, g4]
      unfold nL
      rw [yAW]
      rfl
  rintro σ H' ⟨v3, rfl, s, h, h2⟩
  rw [yAB, yBC (yAA _)] at h2
  walk_at "rd"
  exact q p2 H' s hpn h2
theorem ok_most {f : Addr} {fd : FuncData} (F : Fun K "_law_most" "_law_most" ZCm f fd) (T : Bt K mg C_Join C_Asker C_AskedRule)
    : FnOk P w K mg base CX0 1 f fd ["_law_sizes"] (ZCv) := by
  refine F.ok sc_most (fun vs H Q E h => ?_) (fun cdv A outer s H vs Q E hr h => ?_)
  . obtain ⟨sz, ns, rfl, hsz, hnl, hns, q⟩ := h
    rfl
  obtain ⟨sz, ns, rfl, hsz, hnl, hns, q⟩ := h
  refine ⟨_, (ZAC (ZAM (i := 1) sc_most.nd rfl (by walk_at "o") ZAE)
   (ZAC (ZCY PassesOwn.never rfl (ZBy (ZCK ZCz (pv 0) po_none (ZBx (ZDi ZCk ZAE)))) (ZA8 (i := 2) sc_most.nd rfl (by walk_at "o"))
   (ZAK (ZBF (ZAU ZDj (pv 2) ZAE (ZAV _))
   (ZAK (ZAM (i := 1) sc_most.nd rfl (by walk_at "o") (ZAQ ZA6 (pv 1) (pv 2))))
   (ZAK (ZAM (i := 1) sc_most.nd rfl (by walk_at "o") (ZAQ ZA6 (ZAQ ZA6 (pv 1) ZAE) (ZAP (call_max2 rfl) rfl T.b_max PyProof.Rows.boot_max (ZAA ZAE (ZAA (ZAQ ZCZ ZAE (pe_bm0 PySem.F.plainAttrs_int PySem.F.slot_int_bit_length PySem.F.type_int_bit_length mt_bitlen (ZAQ ZBh (pv 2) ZAE))) ZAG)))))))))
   (ZAK (ZAd (pv 1))))), ?_⟩
  walk_at "rd"
  refine ZDB (SqL.of hsz) fun p hp => ?_
  rw [cutV_but]
  obtain ⟨H1, e1, s1, h1⟩ := newH hp (.lst (nL ns).dropLast)
  rw [e1]; clear e1
  have h1' : H1 p = some (.lst (nL ns.dropLast)) := by rw [h1]; unfold nL; rw [List.map_dropLast]
  refine ZCe (SqL.of h1') (fun i σ H' => ∃ v2, σ = [some (.ref sz), some (.int (((ns.dropLast.take i).map (cst 0)).sum : Nat)), v2] /\ H' = H1) ⟨_, rfl, rfl⟩ (fun i σ H' _ ⟨_, _, e⟩ => by rw [e]; exact SqL.of h1') ?_ ?_
  . rintro i x σ H' hx ⟨v2, rfl, rfl⟩
    rw [yAR] at hx
    obtain ⟨y, hy, rfl⟩ := Option.map_eq_some_iff.mp hx
    have hy5 := hns y ((List.dropLast_sublist ns).subset (yAO hy))
    have es : ((ns.dropLast.take (i + 1)).map (cst 0)).sum = ((ns.dropLast.take i).map (cst 0)).sum + cst 0 y := by
      rw [yCE, hy, yAW, List.sum_append]; simp
    walk_at "rd"
    by_cases hy4 : y < 4
    . rw [if_pos (by omega)]
      refine ⟨some (.int y), ?_, trivial⟩
      rw [es, show cst 0 y = y by unfold cst; rw [if_pos (by omega)]]
      push_cast
      rfl
    . rw [if_neg (by omega)]
      walk_at "rd"
      rw [show (y : Int) - 4 = ((y - 4 : Nat) : Int) by omega]
      refine ⟨rfl, _, rfl, rfl, ?_⟩
      rw [intBits_n]
      walk_at "rd"
      refine ⟨.inl ⟨by decide, by decide⟩, _, _, rfl, ?_⟩
      rw [mx_eq]
      refine ⟨some (.int y), ?_, trivial⟩
      rw [es, show cst 0 y = 4 + max 1 (2 * ZBo (y - 4)) by unfold cst; rw [if_neg (by omega), yBP]]
      rw [show ((((ns.dropLast.take i).map (cst 0)).sum + (4 + max 1 (2 * ZBo (y - 4))) : Nat) : Int) = ((((ns.dropLast.take i).map (cst 0)).sum : Nat) : Int) + 4 + max (1 : Int) (2 * ((ZBo (y - 4) : Nat) : Int)) by omega]
  rintro σ H' ⟨v2, rfl, rfl⟩
  rw [yAB, yBC (yAA _)]
  walk_at "rd"
  exact q _ s1
theorem ok_leap {f : Addr} {fd : FuncData} (F : Fun K "leap" "leap" ZCn f fd) (T : Bt K mg C_Join C_Asker C_AskedRule)
    (t_Asker_ahead : Mt P w K mg base CX0 C_Asker "ahead" 3 ["self", "p", "q"] (ZCW C_Asker C_AskedRule ZBI))
    : FnOk P w K mg base CX0 4 f fd ["asker", "order", "first", "place"] (ZDs C_Asker C_AskedRule) := by
  refine F.ok sc_leap (fun vs H Q E h => ?_) (fun cdv A outer s H vs Q E hr h => ?_)
  . obtain ⟨ks, xs, a, rl, ru, tl, g, lg, bl, ol, pr, os, f, pl, rfl, st, hol, nol, hos, hlt', hpl, hk1000, hpr, hfz, q⟩ := h
    rfl
  obtain ⟨ks, xs, a, rl, ru, tl, g, lg, bl, ol, pr, os, f, pl, rfl, st, hol, nol, hos, hlt', hpl, hk1000, hpr, hfz, q⟩ := h
  refine ⟨_, (ZAC (ZAM (i := 4) sc_leap.nd rfl (by walk_at "o") (ZAQ ZBh (pv 2) ZAE))
   (ZAC (ZAM (i := 5) sc_leap.nd rfl (by walk_at "o") (pv 2))
   (ZAC (ZAM (i := 6) sc_leap.nd rfl (by walk_at "o") ZAE)
   (ZAC (ZCJ PassesOwn.never (PW.pt (ZDy (ZAU ZDj (pv 5) (ZAP ZAL rfl T.b_len PySem.boot_len (ZAA (pv 1) ZAG)) (ZAV _)) (ZDN (ZBT (ZBg t_Asker_ahead (hr.mono (by decide)) ZAi (pv 0) (ZAA (ZAh ZAS (pv 1) (pv 5) (fun _ _ => rfl)) (ZAA (pv 3) ZAG)))))))
   (ZAC (ZAM (i := 4) sc_leap.nd rfl (by walk_at "o") (pv 5))
   (ZAC (ps_aug (i := 5) sc_leap.nd rfl (by walk_at "o") (pv 6) ip_add)
   (ZAK (ZAM (i := 6) sc_leap.nd rfl (by walk_at "o") (ZAQ ZCZ (pv 6) ZAE))))))
   (ZAC (ZAM (i := 5) sc_leap.nd rfl (by walk_at "o") (ZAP (call_min2 rfl) rfl T.b_min PyProof.Rows.boot_min (ZAA (pv 5) (ZAA (ZAP ZAL rfl T.b_len PySem.boot_len (ZAA (pv 1) ZAG)) ZAG))))
    (ZAW
   (ZAC (ZCJ PassesOwn.never (ZAU op_gt (ZAQ ZBh (pv 5) (pv 4)) ZAE (ZAV _))
   (ZAC (ZAM (i := 7) sc_leap.nd rfl (by walk_at "o") (ZAQ ZBA (ZAQ ZA6 (pv 4) (pv 5)) ZAE))
   (ZAK (ZBF (ZBT (ZBg t_Asker_ahead (hr.mono (by decide)) ZAi (pv 0) (ZAA (ZAh ZAS (pv 1) (pv 7) (fun _ _ => rfl)) (ZAA (pv 3) ZAG))))
   (ZAK (ZAM (i := 4) sc_leap.nd rfl (by walk_at "o") (pv 7)))
   (ZAK (ZAM (i := 5) sc_leap.nd rfl (by walk_at "o") (pv 7)))))))
   (ZAK (ZAd (ZAQ ZBh (pv 5) (pv 2))))))))))), ?_⟩
  walk_at "rd"
  apply once4 (fun (lo hi : Nat) (_ : Int) (H' : Hp) => f <= lo /\ lo <= hi /\ hi <= os.length /\ ∃ dn : List Nat, dn.length <= os.length + 1 /\ Fr [a, lg, tl] H H' /\ SitP C_Asker C_AskedRule H' ks xs a rl ru tl g lg bl (pr ++ dn.map (ask1 os pl)) /\ ∀ z L, lo <= z -> z <= hi -> Bin z lo hi L -> Gal z os.length f f f (dn ++ L))
  . intro tailp
    refine ZCF (fun m σ H' => ∃ (lo far : Nat) (dn : List Nat), m = os.length - lo /\ σ = [some (.ref a), some (.ref ol), some (.int f), some (.int pl), some (.int ((lo : Int) - 1)), some (.int far), some (.int ((far : Int) - f + 1)), none] /\ LIn1 C_Asker C_AskedRule ks xs a rl ru tl g lg bl pr os f pl H lo far dn H') ⟨_, f, f, [], rfl, by rw [show (f : Int) - f + 1 = 1 by omega], yAA _, hfz, yAA _, by simp, .refl, by rw [List.map_nil, yBF]; exact st, fun z L _ h => h⟩ ?_
    rintro m σ H' ⟨lo, far, dn, rfl, rfl, h1, h2, h3, h4, fr, s, hg⟩
    walk_at "rd"
    have hol' := fr _ _ nol hol
    refine ⟨ol, _, rfl, .inl (SqL.of hol'), ?_⟩
    rw [yAB]
    by_cases hf : far < os.length
    . rw [if_pos (by omega)]
      obtain ⟨o, ho⟩ : ∃ o, os[far]? = some o := ⟨_, yAM hf⟩
      have hop := hlt' o (yAO ho)
      refine s.ha.meth (by walk_at "lk") ?_
      refine ZAY (SqL.of hol') (ZDe ho) ?_
      refine s.ahead (p := o) (q := pl) hop.2 hop.1 hpl hk1000 (by rw [yAC, yAB]; omega) fun bb H2 f2 s2 => ?_
      generalize (if pl < o then bb else !bb) = bb
      have ea : [(max o pl, min o pl)] = [far].map (ask1 os pl) := by
        show _ = [ask1 os pl far]
        unfold ask1
        rw [ho]
        rfl
      rw [yAI, ea, <- yAW] at s2
      refine ⟨_, rfl, ?_⟩
      cases bb with
      | true =>
        rw [if_pos rfl]
        refine ZCG ?_
        walk_at "rd"
        exact ⟨.inr ⟨by decide, by decide⟩, os.length - (far + 1), by omega, far + 1, 2 * far - f + 1, dn ++ [far], rfl, by rw [show ((far + 1 : Nat) : Int) - 1 = far by omega, show (far : Int) + (far - f + 1) = ((2 * far - f + 1 : Nat) : Int) by omega, show (far : Int) - f + 1 = (far : Int) - f + 1 from rfl, show ((far : Int) - f + 1) * 2 = ((2 * far - f + 1 : Nat) : Int) - f + 1 by omega], by omega, by omega, by omega, by rw [yAC, yAV]; omega, fr.trans f2, s2, fun z L hz h => by rw [yAI]; exact hg z _ (by omega) (.more hf (by omega) h)⟩
      | false =>
        rw [if_neg (by decide)]
        refine ⟨ol, _, rfl, .inl (SqL.of (f2 _ _ nol hol')), _, _, rfl, ?_⟩
        rw [yAB, ZEP, show min (far : Int) os.length = (far : Nat) by omega]
        generalize (far : Int) - f + 1 = wd
        exact tailp lo far wd H2 ⟨h1, h3, by omega, dn ++ [far], by rw [yAC, yAV]; omega, fr.trans f2, s2, fun z L hz hz2 h => by rw [yAI]; exact hg z _ hz (.stop hf hz2 h)⟩
    . rw [if_neg (by omega)]
      refine ⟨ol, _, rfl, .inl (SqL.of hol'), _, _, rfl, ?_⟩
      rw [yAB, ZEP, show min (far : Int) os.length = (os.length : Nat) by omega]
      exact tailp lo os.length _ H' ⟨h1, h2, yAA _, dn, by omega, fr, s, fun z L hz _ h => hg z _ hz (.out (by omega) h)⟩
  rintro lo hi wd H1 ⟨h1, h2, h4, dn, h5, fr1, st1, hg⟩
  refine ZAm ?_
  walk_at "rd"
  refine ZCF (fun m σ H' => ∃ (lo hi : Nat) (v7 : Option V) (dn : List Nat), m = hi - lo /\ σ = [some (.ref a), some (.ref ol), some (.int f), some (.int pl), some (.int ((lo : Int) - 1)), some (.int hi), some (.int wd), v7] /\ LIn2 C_Asker C_AskedRule ks xs a rl ru tl g lg bl pr os f pl H lo hi dn H') ⟨_, lo, hi, _, dn, rfl, rfl, h1, h2, h4, by omega, fr1, st1, hg⟩ ?_
  clear h1 h2 h4 h5 fr1 st1 hg
  rintro m σ H' ⟨lo, hi, v7, dn, rfl, rfl, h1, h2, h4, h5, fr, s, hg⟩
  walk_at "rd"
  by_cases hlt : lo < hi
  . rw [if_pos (by omega)]
    refine ZCG ?_
    walk_at "rd"
    refine ⟨⟨by decide, by decide⟩, ?_⟩
    rw [show ((lo : Int) - 1 + hi) / 2 = ((lo + hi - 1) / 2 : Nat) by omega]
    have hm : (lo + hi - 1) / 2 < os.length := by omega
    obtain ⟨o, ho⟩ : ∃ o, os[(lo + hi - 1) / 2]? = some o := ⟨_, yAM hm⟩
    have hop := hlt' o (yAO ho)
    have hol' := fr _ _ nol hol
    refine s.ha.meth (by walk_at "lk") ?_
    refine ZAY (SqL.of hol') (ZDe ho) ?_
    refine s.ahead (p := o) (q := pl) hop.2 hop.1 hpl hk1000 (by rw [yAC, yAB]; omega) fun bb H2 f2 s2 => ?_
    generalize (if pl < o then bb else !bb) = bb
    have ea : [(max o pl, min o pl)] = [(lo + hi - 1) / 2].map (ask1 os pl) := by
      show _ = [ask1 os pl ((lo + hi - 1) / 2)]
      unfold ask1
      rw [ho]
      rfl
    rw [yAI, ea, <- yAW] at s2
    refine ⟨_, rfl, ?_⟩
    cases bb with
    | true =>
      rw [if_pos rfl]
      exact ⟨hi - ((lo + hi - 1) / 2 + 1), by omega, (lo + hi - 1) / 2 + 1, hi, _, dn ++ [(lo + hi - 1) / 2], rfl, by rw [show (((lo + hi - 1) / 2 + 1 : Nat) : Int) - 1 = ((lo + hi - 1) / 2 : Nat) by omega], by omega, by omega, h4, by rw [yAC, yAV]; omega, fr.trans f2, s2, fun z L hz hz2 h => by rw [yAI]; exact hg z _ (by omega) hz2 (.more hlt (by omega) h)⟩
    | false =>
      rw [if_neg (by decide)]
      exact ⟨(lo + hi - 1) / 2 - lo, by omega, lo, (lo + hi - 1) / 2, _, dn ++ [(lo + hi - 1) / 2], rfl, rfl, h1, by omega, by omega, by rw [yAC, yAV]; omega, fr.trans f2, s2, fun z L hz hz2 h => by rw [yAI]; exact hg z _ hz (by omega) (.less hlt hz2 h)⟩
  . rw [if_neg (by omega)]
    walk_at "rd"
    have e : lo = hi := by omega
    subst e
    have y := hg lo [] (yAA _) (yAA _) .done
    rw [yBF] at y
    rw [show (lo : Int) - f = ((lo - f : Nat) : Int) by omega]
    exact q lo H' dn h1 h4 fr y s
theorem ok_Join_init {f : Addr} {fd : FuncData} (F : Fun K "__init__" "Join.__init__" ZA7 f fd) (T : Bt K mg C_Join C_Asker C_AskedRule)
    : FnOk P w K mg base CX0 1 f fd ["self", "asker", "left", "right"] (ZDK C_Join) := by
  refine F.ok sc_Join_init (fun vs H Q E h => ?_) (fun cdv A outer s H vs Q E hr h => ?_)
  . obtain ⟨x, dx, ak, al, ar, ls, rs, rfl, hx, hal, har, q⟩ := h
    rfl
  obtain ⟨x, dx, ak, al, ar, ls, rs, rfl, hx, hal, har, q⟩ := h
  refine ⟨_, (ZAC (ZBq (pv 0) (pv 1) rfl)
   (ZAC (ZBq (pv 0) (ZDD (ZAA (ZBC ZA3 rfl T.b_list PyProof.Rows.boot_list (ZAA (pv 2) ZAG)) (ZAA (ZBC ZA3 rfl T.b_list PyProof.Rows.boot_list (ZAA (pv 3) ZAG)) ZAG))) rfl)
   (ZAC (ZBq (pv 0) (ZBB (ZAA ZAE (ZAA ZAE ZAG))) rfl)
   (ZAK (ZBq (pv 0) (ZBB ZAG) rfl))))), ?_⟩
  walk_at "rd"
  have nal : al ≠ x := fun z => by rw [z, hx] at hal; cases hal
  have nar : ar ≠ x := fun z => by rw [z, hx] at har; cases har
  refine setX hx T.cl_Join T.n_Join_asker (by decide) fun H2 x2 k2 => ?_
  walk_at "rd"
  refine ⟨al, _, rfl, .inl (SqL.of (by rw [k2 al nal]; exact hal)), fun la hla => ?_⟩
  obtain ⟨H3, e3, s3, h3⟩ := newH hla (.lst (nL ls))
  rw [e3]; clear e3
  refine ⟨ar, _, rfl, .inl (SqL.of (s3 _ _ (by rw [k2 ar nar]; exact har))), fun ra hra => ?_⟩
  obtain ⟨H4, e4, s4, h4⟩ := newH hra (.lst (nL rs))
  rw [e4]; clear e4
  refine ⟨ZAX (by decide), fun sd hsd => ?_⟩
  obtain ⟨H5, e5, s5, h5⟩ := newH hsd (.tup [.ref la, .ref ra])
  rw [e5]; clear e5
  have x5 := s5 _ _ (s4 _ _ (s3 _ _ x2))
  refine setX x5 T.cl_Join T.n_Join_sides ZEM fun H6 x6 k6 => ?_
  walk_at "rd"
  refine ⟨ZAX (by decide), fun tk htk => ?_⟩
  obtain ⟨H7, e7, s7, h7⟩ := newH htk (.lst [.int 0, .int 0])
  rw [e7]; clear e7
  have x7 := s7 _ _ x6
  refine setX x7 T.cl_Join T.n_Join_taken putL2 fun H8 x8 k8 => ?_
  walk_at "rd"
  refine ⟨ZAX (by decide), fun pc hpc => ?_⟩
  obtain ⟨H9, e9, s9, h9⟩ := newH hpc (.lst [])
  rw [e9]; clear e9
  have x9 := s9 _ _ x8
  refine setX x9 T.cl_Join T.n_Join_places putL3 fun HA xA kA => ?_
  have nla : la ≠ x := Ne.symm (ZAD x2 hla)
  have nra : ra ≠ x := Ne.symm (ZAD (s3 _ _ x2) hra)
  have nsd : sd ≠ x := Ne.symm (ZAD (s4 _ _ (s3 _ _ x2)) hsd)
  have ntk : tk ≠ x := Ne.symm (ZAD x6 htk)
  have npc : pc ≠ x := Ne.symm (ZAD x8 hpc)
  have up5 : ∀ b o, b ≠ x -> H5 b = some o -> HA b = some o := fun b o n e => by
    rw [kA b n]
    refine s9 _ _ ?_
    rw [k8 b n]
    refine s7 _ _ ?_
    rw [k6 b n]
    exact e
  have up : ∀ b o, b ≠ x -> H b = some o -> H5 b = some o := fun b o n e => s5 _ _ (s4 _ _ (s3 _ _ (by rw [k2 b n]; exact e)))
  have gla := up5 la _ nla (s5 _ _ (s4 _ _ h3))
  have gra := up5 ra _ nra (s5 _ _ h4)
  have gsd := up5 sd _ nsd h5
  have g8 : H8 tk = some (.lst [.int 0, .int 0]) := by rw [k8 tk ntk]; exact h7
  have gtk : HA tk = some (.lst [.int 0, .int 0]) := by rw [kA tk ntk]; exact s9 _ _ g8
  have gpc : HA pc = some (.lst []) := by rw [kA pc npc]; exact h9
  have f6 : ∀ b, b ≠ x -> H6 b = none -> H b = none := fun b n e => by
    cases eb : H b with
    | none => rfl
    | some o => have := up b o n eb; rw [k6 b n, this] at e; cases e
  have f8 : ∀ b, b ≠ x -> H8 b = none -> H b = none := fun b n e => f6 b n (s7.free (by rw [<- k8 b n]; exact e))
  have l5 : H6 la = some (.lst (nL ls)) := by rw [k6 la nla]; exact s5 _ _ (s4 _ _ h3)
  have r5 : H6 ra = some (.lst (nL rs)) := by rw [k6 ra nra]; exact s5 _ _ h4
  have l8 : H8 la = some (.lst (nL ls)) := by rw [k8 la nla]; exact s7 _ _ l5
  have r8 : H8 ra = some (.lst (nL rs)) := by rw [k8 ra nra]; exact s7 _ _ r5
  refine q sd la ra tk pc HA (fun b o n e => up5 b o n (up b o n e)) ?_ ?_ ?_ (f6 tk ntk htk) (f8 pc npc hpc) ⟨(Ins.of xA (yAK putL4 (by decide))).congr fun f => by simp only [ZAv, lkc], gsd, gla, gra, gtk, gpc, ZAD g8 hpc, ZAD l5 htk, ZAD l8 hpc, ZAD r5 htk, ZAD r8 hpc⟩
  . cases eb : H sd with
    | none => rfl
    | some o => have := s4 _ _ (s3 _ _ (by rw [k2 sd nsd]; exact eb)); rw [this] at hsd; cases hsd
  . cases eb : H la with
    | none => rfl
    | some o => rw [k2 la nla, eb] at hla; cases hla
  . cases eb : H ra with
    | none => rfl
    | some o => have := s3 ra o (by rw [k2 ra nra]; exact eb); rw [this] at hra; cases hra
theorem ok_Join_has_more {f : Addr} {fd : FuncData} (F : Fun K "has_more" "Join.has_more" ZAl f fd) (T : Bt K mg C_Join C_Asker C_AskedRule)
    : FnOk P w K mg base CX0 1 f fd ["self", "side"] (ZB6 C_Join) := by
  refine F.ok sc_Join_has_more (fun vs H Q E h => ?_) (fun cdv A outer s H vs Q E hr h => ?_)
  . obtain ⟨b, jn, ak, sd, ma, ta, tk, pc, ms, ts, i, j, dn, rfl, js, q⟩ := h
    rfl
  obtain ⟨b, jn, ak, sd, ma, ta, tk, pc, ms, ts, i, j, dn, rfl, js, q⟩ := h
  refine ⟨_, (ZAK (ZAd (ZBz ZDj (ZAh ZAS (ZAr (pv 0) rfl) (pv 1) (fun _ _ => rfl)) (ZAP ZAL rfl T.b_len PySem.boot_len (ZAA (ZAh ZBa (ZAr (pv 0) rfl) (pv 1) (fun _ _ => rfl)) ZAG)) (ZAV _)))), ?_⟩
  walk_at "rd"
  refine js.hj.get T.cl_Join T.n_Join_taken (by walk_at "lk") (ZAY (SqL.of js.htk) ZBr ?_)
  refine js.hj.get T.cl_Join T.n_Join_sides (by walk_at "lk") (ZBE (SqT.of js.hsd) ZBr ⟨ma, _, rfl, .inl (SqL.of js.hma), ?_⟩)
  rw [yAB]
  refine ⟨_, _, rfl, rfl, ?_⟩
  have e : decide ((i : Int) < ms.length) = decide (i < ms.length) := by rw [decide_eq_decide]; omega
  rw [<- e] at q
  exact q
theorem ok_Join_front {f : Addr} {fd : FuncData} (F : Fun K "front" "Join.front" ZA1 f fd) (T : Bt K mg C_Join C_Asker C_AskedRule)
    : FnOk P w K mg base CX0 1 f fd ["self", "side"] (ZCy C_Join) := by
  refine F.ok sc_Join_front (fun vs H Q E h => ?_) (fun cdv A outer s H vs Q E hr h => ?_)
  . obtain ⟨b, jn, ak, sd, ma, ta, tk, pc, ms, ts, i, j, dn, x, rfl, js, hx, q⟩ := h
    rfl
  obtain ⟨b, jn, ak, sd, ma, ta, tk, pc, ms, ts, i, j, dn, x, rfl, js, hx, q⟩ := h
  refine ⟨_, (ZAK (ZAd (ZAh ZAS (ZAh ZBa (ZAr (pv 0) rfl) (pv 1) (fun _ _ => rfl)) (ZAh ZAS (ZAr (pv 0) rfl) (pv 1) (fun _ _ => rfl)) (fun _ _ => rfl)))), ?_⟩
  walk_at "rd"
  refine js.hj.get T.cl_Join T.n_Join_sides (by walk_at "lk") (ZBE (SqT.of js.hsd) ZBr ?_)
  refine js.hj.get T.cl_Join T.n_Join_taken (by walk_at "lk") (ZAY (SqL.of js.htk) ZBr ?_)
  exact ZAY (SqL.of js.hma) (ZDe hx) q
theorem ok_Join_take_on {f : Addr} {fd : FuncData} (F : Fun K "take_on" "Join.take_on" ZAp f fd) (T : Bt K mg C_Join C_Asker C_AskedRule)
    : FnOk P w K mg base CX0 1 f fd ["self", "side", "more"] (ZB5 C_Join) := by
  refine F.ok sc_Join_take_on (fun vs H Q E h => ?_) (fun cdv A outer s H vs Q E hr h => ?_)
  . obtain ⟨b, jn, ak, sd, ma, ta, tk, pc, ms, ts, i, j, dn, m, rfl, js, hm, hl, q⟩ := h
    rfl
  obtain ⟨b, jn, ak, sd, ma, ta, tk, pc, ms, ts, i, j, dn, m, rfl, js, hm, hl, q⟩ := h
  refine ⟨_, (ZAC (ZAM (i := 3) sc_Join_take_on.nd rfl (by walk_at "o") (ZAh ZAS (ZAr (pv 0) rfl) (pv 1) (fun _ _ => rfl)))
   (ZAC (ZA0 (ZDE PySem.F.plainAttrs_list PySem.F.slot_list_extend PySem.F.type_list_extend mt_extend (ZAr (pv 0) rfl) (ZAA (ZCK ZCz (ZAh ZBa (ZAr (pv 0) rfl) (pv 1) (fun _ _ => rfl)) (ZBx (pv 3)) (ZBx (ZAQ ZA6 (pv 3) (pv 2)))) ZAG)))
   (ZAK (ZDz (ZAQ ZA6 (pv 3) (pv 2)) (ZD0 (ZAr (pv 0) rfl) (pv 1) ZC0))))), ?_⟩
  walk_at "rd"
  refine js.hj.get T.cl_Join T.n_Join_taken (by walk_at "lk") (ZAY (SqL.of js.htk) ZBr ?_)
  walk_at "rd"
  refine js.hj.get T.cl_Join T.n_Join_places (by walk_at "lk") ?_
  walk_at "rd"
  refine ⟨.inl ⟨rfl, _, SqL.of js.hpc⟩, ?_⟩
  refine js.hj.get T.cl_Join T.n_Join_sides (by walk_at "lk") (ZBE (SqT.of js.hsd) ZBr ?_)
  walk_at "rd"
  refine ZDB (SqL.of js.hma) fun c hc => ?_
  have ec : cutV (nL ms) (some (i : Int)) (some ((i : Int) + m)) = nL ((ms.drop i).take m) := by
    unfold cutV
    rw [show (i : Int) + m = ((i + m : Nat) : Int) by omega, HT.sIx_nat, HT.sIx_nat, yAB, yCD (show i <= ms.length by omega), yCD (show i + m <= ms.length by omega), Nat.add_sub_cancel_left]
    unfold nL
    rw [<- List.map_drop, <- List.map_take]
  rw [ec]
  obtain ⟨H1, e1, s1, h1⟩ := newH hc (.lst (nL ((ms.drop i).take m)))
  rw [e1]; clear e1
  have js1 := js.mono s1
  refine ⟨pc, c, _, _, rfl, rfl, js1.hpc, h1, ZAX (by rw [yAB, yAB, yAP, yAZ]; omega), ?_⟩
  have npt : tk ≠ pc := js.ne.1
  have hj2 : JS C_Join (upd H1 pc (.lst (nL dn ++ nL ((ms.drop i).take m)))) b jn ak sd ma ta tk pc ms ts i j (dn ++ (ms.drop i).take m) := js1.keep (Fr.upd (yAJ _ yAE)) (by rw [ZAI npt]; exact js1.htk) (by rw [ZAF]; unfold nL; rw [yAW])
  have f1 : Fr [tk, pc] H (upd H1 pc (.lst (nL dn ++ nL ((ms.drop i).take m)))) := s1.fr.trans (Fr.upd (yAJ _ yAE))
  generalize upd H1 pc (.lst (nL dn ++ nL ((ms.drop i).take m))) = H2 at hj2 f1 ⊢
  refine hj2.hj.get T.cl_Join T.n_Join_taken (by walk_at "lk") ?_
  walk_at "rd"
  refine ⟨tk, _, _, _, rfl, rfl, hj2.htk, ixN_of (by cases b <;> decide) (by rw [pk_len]; cases b <;> decide), ?_⟩
  rw [pk_set, show (i : Int) + m = ((i + m : Nat) : Int) by omega]
  refine q _ (f1.trans (Fr.upd yAE)) (hj2.keep (Fr.upd yAE) ZAF (by rw [ZAI (Ne.symm npt)]; exact hj2.hpc))
theorem ok_Join_take_rest {f : Addr} {fd : FuncData} (F : Fun K "take_rest" "Join.take_rest" ZAf f fd) (T : Bt K mg C_Join C_Asker C_AskedRule)
    (t_Join_take_on : Mt P w K mg base CX0 C_Join "take_on" 1 ["self", "side", "more"] (ZB5 C_Join))
    : FnOk P w K mg base CX0 2 f fd ["self", "side"] (ZCB C_Join) := by
  refine F.ok sc_Join_take_rest (fun vs H Q E h => ?_) (fun cdv A outer s H vs Q E hr h => ?_)
  . obtain ⟨b, jn, ak, sd, ma, ta, tk, pc, ms, ts, i, j, dn, rfl, js, hi, hl, q⟩ := h
    rfl
  obtain ⟨b, jn, ak, sd, ma, ta, tk, pc, ms, ts, i, j, dn, rfl, js, hi, hl, q⟩ := h
  refine ⟨_, (ZAK (ZA0 (ZBg t_Join_take_on (hr.mono (by decide)) ZAi (pv 0) (ZAA (pv 1) (ZAA (ZAQ ZBh (ZAP ZAL rfl T.b_len PySem.boot_len (ZAA (ZAh ZBa (ZAr (pv 0) rfl) (pv 1) (fun _ _ => rfl)) ZAG)) (ZAh ZAS (ZAr (pv 0) rfl) (pv 1) (fun _ _ => rfl))) ZAG))))), ?_⟩
  walk_at "rd"
  refine js.hj.meth (by walk_at "lk") ?_
  refine js.hj.get T.cl_Join T.n_Join_sides (by walk_at "lk") (ZBE (SqT.of js.hsd) ZBr ⟨ma, _, rfl, .inl (SqL.of js.hma), ?_⟩)
  refine js.hj.get T.cl_Join T.n_Join_taken (by walk_at "lk") (ZAY (SqL.of js.htk) ZBr ?_)
  walk_at "rd"
  rw [yAB, show (ms.length : Int) - i = ((ms.length - i : Nat) : Int) by omega]
  refine ⟨b, jn, ak, sd, ma, ta, tk, pc, ms, ts, i, j, dn, ms.length - i, rfl, js, by omega, hl, fun H' f' js' => ?_⟩
  rw [show i + (ms.length - i) = ms.length by omega, yBC (by rw [yAZ]; exact yAA _)] at js'
  exact q H' f' js'
theorem ok_Join_win {f : Addr} {fd : FuncData} (F : Fun K "win" "Join.win" ZBH f fd) (T : Bt K mg C_Join C_Asker C_AskedRule)
    (t_Join_take_on : Mt P w K mg base CX0 C_Join "take_on" 1 ["self", "side", "more"] (ZB5 C_Join))
    (t_Asker_ahead : Mt P w K mg base CX0 C_Asker "ahead" 3 ["self", "p", "q"] (ZCW C_Asker C_AskedRule ZBI))
    (t_Join_front : Mt P w K mg base CX0 C_Join "front" 1 ["self", "side"] (ZCy C_Join))
    : FnOk P w K mg base CX0 4 f fd ["self"] (ZEK C_Asker C_AskedRule C_Join) := by
  refine F.ok sc_Join_win (fun vs H Q E h => ?_) (fun cdv A outer s H vs Q E hr h => ?_)
  . obtain ⟨ks, xs, a, rl, ru, tl, g, lg, bl, jn, sd, la, ra, tk, pc, pr, ls, rs, dn, i, j, x, y, rfl, st, js, nx, hx, hy, hxy, hxk, hyk, hk1000, hpr, hd1, hd2, q⟩ := h
    rfl
  obtain ⟨ks, xs, a, rl, ru, tl, g, lg, bl, jn, sd, la, ra, tk, pc, pr, ls, rs, dn, i, j, x, y, rfl, st, js, nx, hx, hy, hxy, hxk, hyk, hk1000, hpr, hd1, hd2, q⟩ := h
  refine ⟨_, (ZAC (ZAM (i := 1) sc_Join_win.nd rfl (by walk_at "o") (ZCL (ZBT (ZBg t_Asker_ahead (hr.mono (by decide)) ZAi (ZAr (pv 0) rfl) (ZAA (ZBg t_Join_front (hr.mono (by decide)) ZAi (pv 0) (ZAA (ZA9 rfl T.c_LEFT) ZAG)) (ZAA (ZBg t_Join_front (hr.mono (by decide)) ZAi (pv 0) (ZAA (ZA9 rfl T.c_RIGHT) ZAG)) ZAG)))) (ZA9 rfl T.c_LEFT) (ZA9 rfl T.c_RIGHT)))
   (ZAC (ZA0 (ZBg t_Join_take_on (hr.mono (by decide)) ZAi (pv 0) (ZAA (pv 1) (ZAA ZAE ZAG))))
   (ZAK (ZAd (pv 1))))), ?_⟩
  walk_at "rd"
  refine js.hj.get T.cl_Join T.n_Join_asker (by walk_at "lk") (st.ha.meth (by walk_at "lk") ?_)
  refine js.hj.meth (by walk_at "lk") ⟨true, jn, a, sd, la, ra, tk, pc, ls, rs, i, j, dn, x, rfl, js, hx, ?_⟩
  refine js.hj.meth (by walk_at "lk") ⟨false, jn, a, sd, ra, la, tk, pc, rs, ls, j, i, dn, y, rfl, js.swap, hy, ?_⟩
  refine st.ahead (p := x) (q := y) hxy hxk hyk hk1000 (by omega) fun bw H2 f2 s2 => ?_
  generalize (if y < x then bw else !bw) = bw
  have js2 := js.fr f2 nx.n1
  have hi := (yAG.mp hx).1
  have hj := (yAG.mp hy).1
  refine ⟨_, rfl, ?_⟩
  cases bw with
  | true =>
    rw [if_pos rfl]
    walk_at "rd"
    refine js2.hj.meth (by walk_at "lk") ⟨true, jn, a, sd, la, ra, tk, pc, ls, rs, i, j, dn, 1, rfl, js2, by omega, by omega, fun H3 f3 js3 => ?_⟩
    rw [ZCt hx] at js3
    exact q true H3 ((fr5a f2).trans (fr5b f3)) (s2.apart f3 js2.lsts nx.n2) (fun _ => js3) (fun z => by cases z)
  | false =>
    rw [if_neg (by decide)]
    walk_at "rd"
    refine js2.hj.meth (by walk_at "lk") ⟨false, jn, a, sd, ra, la, tk, pc, rs, ls, j, i, dn, 1, rfl, js2.swap, by omega, by omega, fun H3 f3 js3 => ?_⟩
    rw [ZCt hy] at js3
    exact q false H3 ((fr5a f2).trans (fr5b f3)) (s2.apart f3 js2.lsts nx.n2) (fun z => by cases z) (fun _ => js3.swap)
theorem ok_Join_leap_on {f : Addr} {fd : FuncData} (F : Fun K "leap_on" "Join.leap_on" ZAq f fd) (T : Bt K mg C_Join C_Asker C_AskedRule)
    (f_leap : Fn P w K mg base CX0 "leap" 4 ["asker", "order", "first", "place"] (ZDs C_Asker C_AskedRule))
    (t_Join_take_on : Mt P w K mg base CX0 C_Join "take_on" 1 ["self", "side", "more"] (ZB5 C_Join))
    (t_Join_has_more : Mt P w K mg base CX0 C_Join "has_more" 1 ["self", "side"] (ZB6 C_Join))
    (t_Join_front : Mt P w K mg base CX0 C_Join "front" 1 ["self", "side"] (ZCy C_Join))
    : FnOk P w K mg base CX0 5 f fd ["self", "side"] (ZCw C_Asker C_AskedRule C_Join) := by
  refine F.ok sc_Join_leap_on (fun vs H Q E h => ?_) (fun cdv A outer s H vs Q E hr h => ?_)
  . obtain ⟨ks, xs, a, rl, ru, tl, g, lg, bl, jn, sd, ma, ta, tk, pc, b, pr, ms, ts, dn, i, j, y, rfl, st, js, nx, hy, hml, hmk, hyk, hk1000, hpr, hd, hin, q⟩ := h
    rfl
  obtain ⟨ks, xs, a, rl, ru, tl, g, lg, bl, jn, sd, ma, ta, tk, pc, b, pr, ms, ts, dn, i, j, y, rfl, st, js, nx, hy, hml, hmk, hyk, hk1000, hpr, hd, hin, q⟩ := h
  refine ⟨_, (ZAC (ZAM (i := 2) sc_Join_leap_on.nd rfl (by walk_at "o") (ZCL (ZAU ZB8 (pv 1) (ZA9 rfl T.c_LEFT) (ZAV _)) (ZA9 rfl T.c_RIGHT) (ZA9 rfl T.c_LEFT)))
    (ZAW
   (ZAC (ZA0 (ZBg t_Join_take_on (hr.mono (by decide)) ZAi (pv 0) (ZAA (pv 1) (ZAA (ZBJ f_leap (hr.mono (by decide)) rfl ZAi (ZAA (ZAr (pv 0) rfl) (ZAA (ZAh ZBa (ZAr (pv 0) rfl) (pv 1) (fun _ _ => rfl)) (ZAA (ZAh ZAS (ZAr (pv 0) rfl) (pv 1) (fun _ _ => rfl)) (ZAA (ZBg t_Join_front (hr.mono (by decide)) ZAi (pv 0) (ZAA (pv 2) ZAG)) ZAG))))) ZAG))))
   (ZAK (ZBF (ZBT (ZBg t_Join_has_more (hr.mono (by decide)) ZAi (pv 0) (ZAA (pv 1) ZAG)))
   (ZAK (ZA0 (ZBg t_Join_take_on (hr.mono (by decide)) ZAi (pv 0) (ZAA (pv 2) (ZAA ZAE ZAG))))) ZAe))))), ?_⟩
  walk_at "rd"
  have hj := (yAG.mp hy).1
  refine cut_var fun o ho => ?_
  obtain rfl : o = sv (!b) := by
    rcases ho with ⟨h, e⟩ | ⟨h, e⟩
    . revert h; cases b <;> intro h
      . cases h
      . exact e
    . revert h; cases b <;> intro h
      . exact e
      . exact absurd rfl h
  refine ZAm ?_
  walk_at "rd"
  refine js.hj.meth (by walk_at "lk") ?_
  refine js.hj.get T.cl_Join T.n_Join_asker (by walk_at "lk") ?_
  refine js.hj.get T.cl_Join T.n_Join_sides (by walk_at "lk") (ZBE (SqT.of js.hsd) ZBr ?_)
  refine js.hj.get T.cl_Join T.n_Join_taken (by walk_at "lk") (ZAY (SqL.of js.htk) ZBr ?_)
  refine js.hj.meth (by walk_at "lk") ⟨!b, jn, a, sd, ta, ma, tk, pc, ts, ms, j, i, dn, y, rfl, js.swap, hy, ?_⟩
  refine ⟨ks, xs, a, rl, ru, tl, g, lg, bl, ma, pr, ms, i, y, rfl, st, js.hma, nx.n1.2.2.1, hml, hmk, hyk, hk1000, hpr, hin, fun z H2 G hiz hzn f2 hG s2 => ?_⟩
  have js2 := js.fr f2 nx.n1
  refine ⟨b, jn, a, sd, ma, ta, tk, pc, ms, ts, i, j, dn, z - i, rfl, js2, by omega, by omega, fun H3 f3 js3 => ?_⟩
  rw [show i + (z - i) = z by omega] at js3
  have s3 := s2.apart f3 js2.lsts nx.n2
  have f13 := (fr5a f2 (tk := tk) (pc := pc)).trans (fr5b f3)
  refine js3.hj.meth (by walk_at "lk") ⟨b, jn, a, sd, ma, ta, tk, pc, ms, ts, z, j, _, rfl, js3, ?_⟩
  refine ⟨_, rfl, ?_⟩
  by_cases hz : z < ms.length
  . rw [decide_eq_true hz, if_pos rfl]
    walk_at "rd"
    refine js3.hj.meth (by walk_at "lk") ⟨!b, jn, a, sd, ta, ma, tk, pc, ts, ms, j, z, _, 1, rfl, js3.swap, by omega, by rw [yAC, yAP, yAZ]; omega, fun H4 f4 js4 => ?_⟩
    have js5 := js4.swap
    rw [Bool.not_not, ZCt hy] at js5
    exact q z H4 G hiz hzn (f13.trans (fr5b f4)) hG (s3.apart f4 js3.lsts nx.n2) (fun _ => js5) (fun e => by omega)
  . rw [decide_eq_false hz, if_neg (by decide)]
    exact q z H3 G hiz hzn f13 hG s3 (fun e => absurd e hz) (fun _ => js3)
theorem ok_joined {f : Addr} {fd : FuncData} (F : Fun K "joined" "joined" ZBk f fd) (T : Bt K mg C_Join C_Asker C_AskedRule)
    (t_Join_take_rest : Mt P w K mg base CX0 C_Join "take_rest" 2 ["self", "side"] (ZCB C_Join))
    (t_Join_has_more : Mt P w K mg base CX0 C_Join "has_more" 1 ["self", "side"] (ZB6 C_Join))
    (t_Join_win : Mt P w K mg base CX0 C_Join "win" 4 ["self"] (ZEK C_Asker C_AskedRule C_Join))
    (t_Join_leap_on : Mt P w K mg base CX0 C_Join "leap_on" 5 ["self", "side"] (ZCw C_Asker C_AskedRule C_Join))
    (k_Join : Kl P w K mg base CX0 "Join" C_Join 1 ["self", "asker", "left", "right"] (ZDK C_Join))
    : FnOk P w K mg base CX0 6 f fd ["asker", "left", "right"] (ZCx C_Asker C_AskedRule) := by
  refine F.ok sc_joined (fun vs H Q E h => ?_) (fun cdv A outer s H vs Q E hr h => ?_)
  . obtain ⟨ks, xs, a, rl, ru, tl, g, lg, bl, al, ar, pr, ls, rs, rfl, st, hal, har, hll, hrl, hlk, hrk, hdis, hk1000, hpr, q⟩ := h
    rfl
  obtain ⟨ks, xs, a, rl, ru, tl, g, lg, bl, al, ar, pr, ls, rs, rfl, st, hal, har, hll, hrl, hlk, hrk, hdis, hk1000, hpr, q⟩ := h
  refine ⟨_, (ZAC (ZAM (i := 3) sc_joined.nd rfl (by walk_at "o") (pe_mk k_Join (hr.mono (by decide)) rfl ZAi (ZAA (pv 0) (ZAA (pv 1) (ZAA (pv 2) ZAG)))))
   (ZAC (ZAM (i := 4) sc_joined.nd rfl (by walk_at "o") ZAE)
   (ZAC (ZAM (i := 5) sc_joined.nd rfl (by walk_at "o") (ZA9 rfl T.c_LEFT))
   (ZAC (ZCJ PassesOwn.never (PW.pt (ZDy (ZBT (ZBg t_Join_has_more (hr.mono (by decide)) ZAi (pv 3) (ZAA (ZA9 rfl T.c_LEFT) ZAG))) (ZDN (ZBT (ZBg t_Join_has_more (hr.mono (by decide)) ZAi (pv 3) (ZAA (ZA9 rfl T.c_RIGHT) ZAG))))))
   (ZAC (ZAM (i := 6) sc_joined.nd rfl (by walk_at "o") (pe_mt0 t_Join_win (hr.mono (by decide)) ZAi (pv 3)))
   (ZAC (ZAM (i := 4) sc_joined.nd rfl (by walk_at "o") (ZCL (ZAU ZB8 (pv 6) (pv 5) (ZAV _)) (ZAQ ZA6 (pv 4) ZAE) ZAE))
   (ZAC (ZAM (i := 5) sc_joined.nd rfl (by walk_at "o") (pv 6))
   (ZAK (ZBF (ZAU ZB8 (pv 4) (ZA9 rfl T.c_WINS_TO_LEAP) (ZAV _))
   (ZAC (ZA0 (ZBg t_Join_leap_on (hr.mono (by decide)) ZAi (pv 3) (ZAA (pv 6) ZAG)))
   (ZAK (ZAM (i := 4) sc_joined.nd rfl (by walk_at "o") ZAE))) ZAe))))))
   (ZAC (ZA0 (ZBg t_Join_take_rest (hr.mono (by decide)) ZAi (pv 3) (ZAA (ZA9 rfl T.c_LEFT) ZAG)))
   (ZAC (ZA0 (ZBg t_Join_take_rest (hr.mono (by decide)) ZAi (pv 3) (ZAA (ZA9 rfl T.c_RIGHT) ZAG)))
   (ZAK (ZAd (ZBC ZA3 rfl T.b_list PyProof.Rows.boot_list (ZAA (ZAr (pv 3) rfl) ZAG)))))))))), ?_⟩
  walk_at "rd"
  intro jn dj hjn hdj njd
  have hjn' : upd H dj (.own jn) jn = none := by rw [ZAI (Ne.symm njd)]; exact hjn
  have s1 : Same H (upd (upd H dj (.own jn)) jn (.ins C_Join dj [])) := (ZAR hdj _).trans (ZAR hjn' _)
  refine ⟨jn, dj, a, al, ar, ls, rs, rfl, ZAF, s1 _ _ hal, s1 _ _ har, fun sd la ra tk pc H2 k2 nsd nla nra ntk npc js => ⟨rfl, ?_⟩⟩
  have u2 : Same H H2 := fun b o h => k2 b o (ZAD h hjn) (s1 _ _ h)
  have st2 := st.mono u2
  have fH : ∀ {b : Addr}, upd (upd H dj (.own jn)) jn (.ins C_Join dj []) b = none -> H b = none := fun h => s1.free h
  have n3 : ∀ {b : Addr}, H b = none -> b ∉ [a, lg, tl] := fun {b} hb => by
    obtain ⟨w1, h1, _⟩ := st.hlg
    obtain ⟨w2, h2, _⟩ := st.htl
    exact ZD6 (st.ha.neN hb) (Ne.symm (ZAD h1 hb)) (Ne.symm (ZAD h2 hb))
  have n2 : ∀ {b : Addr} {o : HO}, H b = some o -> b ∉ [tk, pc] := fun {b o} hb z => by
    rcases yAD.mp z with z | z
    . exact ZAD hb (fH ntk) z
    . exact ZAD hb (fH npc) (yBA.mp z)
  have nx : NX a rl bl lg tl jn sd la ra tk pc := by
    obtain ⟨w1, h1, _⟩ := st.hlg
    obtain ⟨w2, h2, _⟩ := st.htl
    obtain ⟨bs, h3, _⟩ := st.hbl
    exact ⟨⟨n3 hjn, n3 (fH nsd), n3 (fH nla), n3 (fH nra), n3 (fH ntk), n3 (fH npc)⟩, n2 st.hrl, n2 h1, n2 h2, n2 h3⟩
  have fr0 : ∀ {H' : Hp}, Fr [a, lg, tl, tk, pc] H2 H' -> Fr [a, lg, tl] H H' := fun f b o n h => f b o (fun z => by
    rcases yAD.mp z with z | z
    . exact n (by rw [z]; exact yAE)
    rcases yAD.mp z with z | z
    . exact n (by rw [z]; exact yAJ _ yAE)
    rcases yAD.mp z with z | z
    . exact n (by rw [z]; exact yAJ _ (yAJ _ yAE))
    . exact n2 h z) (u2 _ _ h)
  refine ZCF (JInv C_Asker C_AskedRule C_Join ks xs a rl ru tl g lg bl al ar jn sd la ra tk pc pr ls rs H2) ⟨_, JInv.of (i := 0) (j := 0) (w := 0) (s := true) (dn := []) (as := []) (yAH _) (yAH _) (by decide) rfl (yAA _) .refl (by rw [yBF]; exact st2) js fun ps L h => h⟩ ?_
  rintro mm' σ H' ⟨i, j, w, s, v6, dn, as, rfl, rfl, hi, hj, hw, hdl, hal', fr, s', js', hg⟩
  walk_at "rd"
  apply onceP (¬ (i < ls.length /\ j < rs.length))
  . intro tailp
    refine js'.hj.meth (by walk_at "lk") ⟨true, jn, a, sd, la, ra, tk, pc, ls, rs, i, j, dn, rfl, js', ?_⟩
    refine ⟨_, rfl, ?_⟩
    by_cases hil : i < ls.length
    . rw [decide_eq_true hil, if_pos rfl]
      refine js'.hj.meth (by walk_at "lk") ⟨false, jn, a, sd, ra, la, tk, pc, rs, ls, j, i, dn, rfl, js'.swap, ?_⟩
      refine ⟨_, rfl, ?_⟩
      by_cases hjr : j < rs.length
      . rw [decide_eq_true hjr, if_pos rfl]
        refine ZCG ?_
        walk_at "rd"
        have hx := yAM hil
        have hy := yAM hjr
        generalize ls[i] = x at hx
        generalize rs[j] = y at hy
        have hxm := yAO hx
        have hym := yAO hy
        have hxy := hdis x hxm y hym
        refine js'.hj.meth (by walk_at "lk") ⟨ks, xs, a, rl, ru, tl, g, lg, bl, jn, sd, la, ra, tk, pc, _, ls, rs, dn, i, j, x, y, rfl, s', js', nx, hx, hy, hxy, hlk x hxm, hrk y hym, hk1000, by rw [yAC]; omega, by omega, by omega, fun bw H3 f3 s3 jL jR => ?_⟩
        rw [yAI] at s3
        walk_at "rd"
        obtain ⟨b, ma, ta, ms, ts, mi, tj, u, v, eb, hbb, hmi, hu, hv, huv, jB, nxB, hml, htl', hmk, hvk, emm, eij, hgB⟩ : ∃ (b : Bool) (ma ta : Addr) (ms ts : List Nat) (mi tj u v : Nat), bw = b /\ ((b = true /\ ma = la /\ ta = ra /\ ms = ls /\ ts = rs) ∨ (b = false /\ ma = ra /\ ta = la /\ ms = rs /\ ts = ls)) /\ mi < ms.length /\ ms[mi]? = some u /\ ts[tj]? = some v /\ True /\ JS C_Join H3 b jn a sd ma ta tk pc ms ts (mi + 1) tj (dn ++ [u]) /\ NX a rl bl lg tl jn sd ma ta tk pc /\ ms.length <= 250 /\ ts.length <= 250 /\ (∀ c ∈ ms, c < ks.length /\ c ≠ v) /\ v < ks.length /\ (max x y, min x y) = (max u v, min u v) /\ mi + tj = i + j /\ ∀ ps L, JT ks ms ts mi tj w (if b then s else !s) ps L -> JT ks ms ts 0 0 0 b (dn ++ ps) (as ++ L) := by
          cases bw with
          | true => exact ⟨true, la, ra, ls, rs, i, j, x, y, rfl, .inl ⟨rfl, rfl, rfl, rfl, rfl⟩, hil, hx, hy, trivial, jL rfl, nx, hll, hrl, fun c hc => ⟨hlk c hc, hdis c hc y hym⟩, hrk y hym, rfl, rfl, fun ps L h => hg ps L h⟩
          | false => exact ⟨false, ra, la, rs, ls, j, i, y, x, rfl, .inr ⟨rfl, rfl, rfl, rfl, rfl⟩, hjr, hy, hx, trivial, (jR rfl).swap, nx.swap, hrl, hll, fun c hc => ⟨hrk c hc, fun e => hdis x hxm c hc e.symm⟩, hlk x hxm, mm_comm x y, Nat.add_comm _ _, fun ps L h => JT.swap (hg ps L (JT.swap h))⟩
        rw [eb]
        rw [emm] at s3
        have htj := (yAG.mp hv).1
        clear jL jR eb emm
        apply ZEO (fun (n : Int) => n = (nw w (if b then s else !s) : Nat))
        . intro tailp
          by_cases hs : sv b = sv s
          . rw [if_pos hs]
            obtain ⟨n, hn⟩ : ∃ n : Int, n = w + 1 := ⟨_, rfl⟩
            rw [<- hn]
            refine tailp n ?_
            rw [hn]
            revert hs
            cases b <;> cases s <;> intro hs <;> first | rfl | cases hs
          . rw [if_neg hs]
            refine tailp 1 ?_
            revert hs
            cases b <;> cases s <;> intro hs <;> first | rfl | exact absurd rfl hs
        rintro n rfl
        generalize (if b then s else !s) = sb at hgB
        have hnw : nw w sb <= 4 := by unfold nw; split <;> omega
        have hdB := jB.hpc
        by_cases h4 : nw w sb = 4
        . rw [if_pos (by omega)]
          refine jB.hj.meth (by walk_at "lk") ⟨ks, xs, a, rl, ru, tl, g, lg, bl, jn, sd, ma, ta, tk, pc, b, _, ms, ts, _, mi + 1, tj, v, rfl, s3, jB, nxB, hv, by omega, hmk, hvk, hk1000, by rw [yAC, yAC, yAV]; omega, by rw [yAC, yAV]; omega, hmi, fun z H4 G z1 z2 f4 hG s4 j1 j2 => ?_⟩
          have hGl : G.length <= 18 := by
            have := hG.looks z1 z2
            have := ZCM (g := z - (mi + 1)) (c := 9) (by show _ < 512; omega)
            omega
          rw [yAI, yAI] at s4
          have hasl : (as ++ ([(max u v, min u v)] ++ List.map (ask1 ms v) G)).length <= as.length + 19 := by rw [yAC, yAC, yAV, yAB]; omega
          by_cases hz : z < ms.length
          . refine JInv.fin hbb (w' := 0) z2 (show tj + 1 <= ts.length by omega) (by decide) (by omega) ?_ (by omega) ((fr.trans f3).trans f4) s4 (j1 hz) (fun ps L h => ?_) hi hj
            . rw [yAC, yAC, yAC, yAP, yAZ, yAV, yAV]; omega
            . have := hgB _ _ (JT.leap hu hv trivial h4 z1 hz trivial hG h)
              rw [seg_cons hu z1] at this
              simpa [yAI] using this
          . have ez : z = ms.length := by omega
            have j2 := j2 ez
            subst ez
            refine JInv.fin hbb (w' := 0) (yAA _) (yBI htj) (by decide) (by omega) ?_ (by omega) ((fr.trans f3).trans f4) s4 j2 (fun ps L h => ?_) hi hj
            . rw [yAC, yAC, yAP, yAZ, yAV]; omega
            . have := hgB _ _ (JT.last hu hv trivial h4 trivial hG h)
              rw [ZA4 hu] at this
              rw [yBC (by rw [yAZ]; exact yAA _)]
              simpa [yAI] using this
        . rw [if_neg (by omega)]
          refine JInv.fin hbb hmi (yBI htj) (by omega) (by omega) ?_ ?_ (fr.trans f3) s3 jB (fun ps L h => ?_) hi hj
          . rw [yAC, yAV]; omega
          . rw [yAC, yAV]; omega
          . have := hgB _ _ (JT.step hu hv trivial h4 h)
            simpa [yAI] using this
      . rw [decide_eq_false hjr, if_neg (by decide)]
        exact tailp (by omega)
    . rw [decide_eq_false hil, if_neg (by decide)]
      exact tailp (by omega)
  intro hn
  have hdone := hg _ _ (JT.done (s := s) (w := w) hn)
  refine js'.hj.meth (by walk_at "lk") ⟨true, jn, a, sd, la, ra, tk, pc, ls, rs, i, j, dn, rfl, js', hi, by omega, fun H3 f3 js3 => ?_⟩
  have s3 := s'.apart f3 js'.lsts nx.n2
  refine js3.hj.meth (by walk_at "lk") ⟨false, jn, a, sd, ra, la, tk, pc, rs, ls, j, ls.length, _, rfl, js3.swap, hj, by rw [yAC, yAZ]; omega, fun H4 f4 js4 => ?_⟩
  have s4 := s3.apart f4 js3.lsts nx.n2
  rw [yAI] at js4
  rw [yBF] at hdone
  refine js4.hj.get T.cl_Join T.n_Join_places (by walk_at "lk") ⟨pc, _, rfl, .inl (SqL.of js4.hpc), fun l hl => ?_⟩
  have fr4 : Fr [a, lg, tl, tk, pc] H2 H4 := (fr.trans (fr5b f3)).trans (fr5b f4)
  refine q l _ _ as ((fr0 fr4).trans (ZAR hl _).fr) ?_ ZAF hdone (s4.mono (ZAR hl _))
  cases e : H l with
  | none => rfl
  | some o =>
    by_cases hm : l ∈ [a, lg, tl]
    . obtain ⟨ws4, h5, _⟩ := s4.hlg
      obtain ⟨us4, h6, _⟩ := s4.htl
      rcases yAD.mp hm with z | z
      . exact absurd z (s4.ha.neN hl)
      rcases yAD.mp z with z | z
      . rw [z, h5] at hl; cases hl
      . rw [yBA.mp z, h6] at hl; cases hl
    . rw [fr0 fr4 l o hm e] at hl; cases hl
theorem ok_once {f : Addr} {fd : FuncData} (F : Fun K "_law_once" "_law_once" ZCl f fd) (T : Bt K mg C_Join C_Asker C_AskedRule)
    : FnOk P w K mg base CX0 1 f fd ["_law_found", "_law_many"] (ZCu) := by
  refine F.ok sc_once (fun vs H Q E h => ?_) (fun cdv A outer s H vs Q E hr h => ?_)
  . obtain ⟨fl, ps, rfl, hfl, hl5, hnd, hlt, q⟩ := h
    rfl
  obtain ⟨fl, ps, rfl, hfl, hl5, hnd, hlt, q⟩ := h
  refine ⟨_, (ZAC (ZBF (PW.pt (ZDM (ZCp (ZBT (ZAP ZB1 rfl T.b_isinstance PyProof.Rows.boot_isinstance (ZAA (pv 0) (ZAA (ZD1 rfl T.b_list PyProof.Rows.boot_list) ZAG))))) (ZCo (ZAU ZEN (ZAP ZAL rfl T.b_len PySem.boot_len (ZAA (pv 0) ZAG)) (pv 1) (ZAV _)))))
   (ZAK (ZAd ZC3)) ZAe)
    (ZAW
   (ZAC (ZCY PassesOwn.never rfl (ZBy (pv 0)) (ZA8 (i := 2) sc_once.nd rfl (by walk_at "o"))
   (ZAK (ZBF (PW.pt (ZDM (ZCp (ZBT (ZAP ZB1 rfl T.b_isinstance PyProof.Rows.boot_isinstance (ZAA (pv 2) (ZAA (ZD1 rfl T.b_int PyProof.Rows.boot_int) ZAG))))) (ZCo (ZBT (ZAP ZB1 rfl T.b_isinstance PyProof.Rows.boot_isinstance (ZAA (pv 2) (ZAA (ZD1 rfl T.b_bool PyProof.Rows.boot_bool) ZAG)))))))
   (ZAK (ZAd ZC3)) ZAe)))
    (ZAW
   (ZAK (ZAd (ZBz (ZDZ hr.units) (ZAP call_sortedB rfl T.b_sorted PyProof.Rows.boot_sorted (ZAA (pv 0) ZAG)) (ZBC (call_list_rng rfl) rfl T.b_list PyProof.Rows.boot_list (ZAA (ZBC call_rng1 rfl T.b_range PyProof.Rows.boot_range (ZAA (pv 1) ZAG)) ZAG)) (ZAV _)))))))), ?_⟩
  walk_at "rd"
  refine inst_lst hfl ?_
  walk_at "rd"
  refine ⟨fl, _, rfl, .inl (SqL.of hfl), ?_⟩
  rw [yAB, if_neg (fun z => z rfl)]
  refine ZAm ?_
  walk_at "rd"
  refine ZCe (SqL.of hfl) (fun i σ X => ∃ v2, σ = [some (.ref fl), some (.int (ps.length : Int)), v2] /\ X = H) ⟨_, rfl, rfl⟩ (fun i σ X _ ⟨_, _, e⟩ => by rw [e]; exact SqL.of hfl) ?_ ?_
  . rintro i x σ X hx ⟨v2, rfl, rfl⟩
    rw [yAR] at hx
    obtain ⟨y, _, rfl⟩ := Option.map_eq_some_iff.mp hx
    walk_at "rd"
    refine inst_int ?_
    walk_at "rd"
    refine inst_int_bl T.kit_int_bool ?_
    walk_at "rd"
    exact ⟨_, rfl, trivial⟩
  rintro σ X ⟨v2, rfl, rfl⟩
  walk_at "rd"
  refine ZAm ?_
  walk_at "rd"
  refine ⟨fl, ps.map fun (n : Nat) => (n : Int), rfl, SqL.of (by rw [hfl, ZBD]), by rw [yAB]; omega, fun sl ms hsl hperm hsort => ?_⟩
  obtain ⟨P2, eP, hPp, hPs⟩ := nat_sorted hperm hsort
  subst eP
  obtain ⟨Z1, e1, sZ1, hZ1⟩ := newH hsl (.lst ((P2.map fun (n : Nat) => (n : Int)).map V.int))
  rw [e1]; clear e1
  refine ⟨_, rfl, fun rg hrg => ?_⟩
  obtain ⟨Z2, e2, sZ2, hZ2⟩ := newH hrg (.rng 0 (ps.length : Int))
  rw [e2]; clear e2
  refine ⟨rg, 0, (ps.length : Int), rfl, hZ2, by omega, fun r2 hr2 => ?_⟩
  obtain ⟨Z3, e3, sZ3, hZ3⟩ := newH hr2 (.lst ((ZCX 0 (ps.length : Int)).map V.int))
  rw [e3]; clear e3
  have eR : (ZCX 0 (ps.length : Int)).map V.int = nL (List.range ps.length) := by
    have := rints_nat (lo := 0) (hi := ps.length)
    rw [Nat.sub_zero, <- List.range_eq_range'] at this
    exact this
  have hall : ∀ x, x ∈ ps ↔ x < ps.length := fun x => ⟨hlt x, fun h => by
    rcases Classical.em (x ∈ ps) with z | z
    . exact z
    . exfalso
      have := len_le_of_sub (A := x :: ps) (B := List.range ps.length) (yBT.mpr ⟨z, hnd⟩) fun y hy => by
        rcases yAD.mp hy with w | w
        . rw [w]; exact List.mem_range.mpr h
        . exact List.mem_range.mpr (hlt y w)
      rw [yAF, List.length_range] at this
      omega⟩
  have eP2 : P2 = List.range ps.length := asc_eq (asc_of hPs (hPp.nodup_iff.mpr hnd)) List.pairwise_lt_range fun x => by rw [hPp.mem_iff, hall x, List.mem_range]
  rw [eR, ZBD, <- eP2] at hZ3
  refine ZDd Enc.int.list (by decide) (a := P2.map fun (n : Nat) => (n : Int)) (b := P2.map fun (n : Nat) => (n : Int)) (ZBP (SqL.of ((sZ2.trans sZ3) _ _ hZ1))) (ZBP (SqL.of hZ3)) ?_
  rw [decide_eq_true rfl]
  exact q _ (sZ1.trans (sZ2.trans sZ3))
theorem ok_bounded {f : Addr} {fd : FuncData} (F : Fun K "_law_bounded" "_law_bounded" ZBS f fd) (T : Bt K mg C_Join C_Asker C_AskedRule)
    (f_most : Fn P w K mg base CX0 "_law_most" 1 ["_law_sizes"] (ZCv))
    (f_blocks : Fn P w K mg base CX0 "_law_blocks" 1 ["_law_order", "_law_second"] (ZCD))
    : FnOk P w K mg base CX0 2 f fd ["_law_found", "_law_sides_here", "_law_asks"] (ZBv) := by
  refine F.ok sc_bounded (fun vs H Q E h => ?_) (fun cdv A outer s H vs Q E hr h => ?_)
  . obtain ⟨fl, sd, s0, s1, ps, l0, l1, k, rfl, hfl, hsd, hs0, hs1, hpl, hps, hl1, hnil, hmost, hcost, q⟩ := h
    rfl
  obtain ⟨fl, sd, s0, s1, ps, l0, l1, k, rfl, hfl, hsd, hs0, hs1, hpl, hps, hl1, hnil, hmost, hcost, q⟩ := h
  refine ⟨_, (ZAC (ZBF (PW.pt (ZDM (ZAU (ZDZ hr.units) (ZAh ZAS (pv 1) ZAE (fun _ _ => rfl)) (ZBB ZAG) (ZAV _)) (ZCo (ZAU (ZDZ hr.units) (ZAh ZAS (pv 1) ZAE (fun _ _ => rfl)) (ZBB ZAG) (ZAV _)))))
   (ZAK (ZAd (ZBz ZB8 (pv 2) ZAE (ZAV _)))) ZAe)
    (ZAW
   (ZAC (ZBF (ZAU op_gt (pv 2) (ZAQ ZA6 (ZAQ ZBh (ZAP ZAL rfl T.b_len PySem.boot_len (ZAA (pv 0) ZAG)) ZAE) (ZAQ ZBA (ZAP ZAL rfl T.b_len PySem.boot_len (ZAA (pv 0) ZAG)) ZAE)) (ZAV _))
   (ZAK (ZAd ZC3)) ZAe)
    (ZAW
   (ZAK (ZAd (ZBz op_le (pv 2) (ZBJ f_most (hr.mono (by decide)) rfl ZAi (ZAA (ZBJ f_blocks (hr.mono (by decide)) rfl ZAi (ZAA (pv 0) (ZAA (ZAh ZAS (pv 1) ZAE (fun _ _ => rfl)) ZAG))) ZAG)) (ZAV _)))))))), ?_⟩
  walk_at "rd"
  refine ZAY (SqL.of hsd) (ZAT (by decide) rfl) ⟨yAH _, fun e1 he1 => ?_⟩
  obtain ⟨H12, e12, s12, h12⟩ := newH he1 (.lst [])
  rw [e12]; clear e12
  refine ZDd Enc.int.list (by decide) (a := l0.map fun (x : Nat) => (x : Int)) (b := []) (ZBP (SqL.of (by rw [s12 _ _ hs0, ZBD]))) (ZBP (xs := []) (SqL.of h12)) ⟨_, rfl, ?_⟩
  by_cases h0 : l0 = []
  . rw [if_pos (by rw [h0]; simp)]
    walk_at "rd"
    have := q _ s12
    rw [hnil (.inl h0)]
    exact this
  rw [if_neg (by simpa using h0)]
  refine ZAY (SqL.of (s12 _ _ hsd)) (ZAT (by decide) rfl) ⟨yAH _, fun e2 he2 => ?_⟩
  obtain ⟨H13, e13, s13, h13⟩ := newH he2 (.lst [])
  rw [e13]; clear e13
  have S13 : Same H H13 := s12.trans s13
  refine ZDd Enc.int.list (by decide) (a := l1.map fun (x : Nat) => (x : Int)) (b := []) (ZBP (SqL.of (by rw [S13 _ _ hs1, ZBD]))) (ZBP (xs := []) (SqL.of h13)) ⟨_, rfl, ?_⟩
  by_cases h1 : l1 = []
  . rw [if_pos (by rw [h1]; simp)]
    walk_at "rd"
    have := q _ S13
    rw [hnil (.inr h1)]
    exact this
  rw [if_neg (by simpa using h1)]
  obtain ⟨hm1, hm2⟩ := hmost h0 h1
  have hfl3 := S13 _ _ hfl
  refine ZAm ?_
  walk_at "rd"
  refine ⟨fl, _, rfl, .inl (SqL.of hfl3), ?_⟩
  walk_at "rd"
  refine ⟨fl, _, rfl, .inl (SqL.of hfl3), ?_⟩
  walk_at "rd"
  rw [yAB]
  refine ⟨⟨by decide, by decide⟩, ?_⟩
  rw [if_neg (by omega)]
  refine ZAm ?_
  walk_at "rd"
  refine ZAY (SqL.of (S13 _ _ hsd)) (ZAT (by decide) rfl) ?_
  refine ⟨fl, s1, ps, l1, rfl, hfl3, S13 _ _ hs1, hpl, hps, hl1, fun bl H14 s14 hbl hbl2 => ?_⟩
  have hrl := ZDx (ps.map (ZBc l1))
  rw [yAB] at hrl
  refine ⟨bl, _, rfl, hbl2, by unfold szs; rw [yAB]; omega, fun n hn => ?_, fun H15 s15 => ?_⟩
  . unfold szs at hn
    obtain ⟨p, hp, rfl⟩ := yBB.mp hn
    have := hrl.2 p hp
    omega
  walk_at "rd"
  rw [decide_eq_true (by omega)]
  exact q _ (S13.trans (s14.trans s15))
theorem ok_law {f : Addr} {fd : FuncData} (F : Fun K "law" "law" ZC1 f fd) (T : Bt K mg C_Join C_Asker C_AskedRule)
    (f_numbers : Fn P w K mg base CX0 "_law_numbers" 2 ["_law_script"] (ZCU K))
    (f_row : Fn P w K mg base CX0 "_law_row" 1 ["_law_numbers_here", "_law_kind"] (ZEL))
    (f_cell_at : Fn P w K mg base CX0 "_law_cell_at" 1 ["_law_script", "_law_k"] (ZDX K))
    (f_sides : Fn P w K mg base CX0 "_law_sides" 1 ["_law_order", "_law_numbers_here", "_law_kind", "_law_deal"] (ZCT))
    (f_any_teller : Fn P w K mg base CX0 "_law_any_teller" 1 ["_law_said", "_law_bits", "_law_kind"] (ZCV Pt_any_teller (ZCf ZAJ) "_law_tells" "_law_any_teller.<locals>._law_tells" (ZAO ZAJ) (ZAN ZAJ) (ZAB ZAJ) ["_law_said", "_law_kind", "_law_bits"] [0, 2, 1] 3))
    (f_joined : Fn P w K mg base CX0 "joined" 6 ["asker", "left", "right"] (ZCx C_Asker C_AskedRule))
    (f_digit_teller : Fn P w K mg base CX0 "_law_digit_teller" 1 ["_law_said", "_law_digits", "_law_bits"] (ZCV Pt_digit_teller (ZCf ZAH) "_law_tells" "_law_digit_teller.<locals>._law_tells" (ZAO ZAH) (ZAN ZAH) (ZAB ZAH) ["_law_said", "_law_digits", "_law_bits"] [0, 1, 2] 3))
    (f_once : Fn P w K mg base CX0 "_law_once" 1 ["_law_found", "_law_many"] (ZCu))
    (f_bounded : Fn P w K mg base CX0 "_law_bounded" 2 ["_law_found", "_law_sides_here", "_law_asks"] (ZBv))
    (k_Asker_3 : KlD P w K mg base CX0 "Asker" C_Asker 1 ["self", "row", "rule", "most"] (ZBw C_Asker) [.non])
    (k_AskedRule : Kl P w K mg base CX0 "AskedRule" C_AskedRule 1 ["self", "teller"] (ZCC C_AskedRule))
    (np : Pt_any_teller ≠ Pt_digit_teller)
    : FnOk P w K mg base CX0 7 f fd ["_law_script"] (ZDt K [(cc_any_teller, Pt_any_teller), (cc_digit_teller, Pt_digit_teller)]) := by
  refine F.ok sc_law (fun vs H Q E h => ?_) (fun cdv A outer s H vs Q E hr h => ?_)
  . obtain ⟨a, ns, rfl, hS, h63, hT, q⟩ := h
    rfl
  obtain ⟨a, ns, rfl, hS, h63, hT, q⟩ := h
  refine ⟨_, (ZAC (ZAM (i := 1) sc_law.nd rfl (by walk_at "o") (ZBJ f_numbers (hr.mono (by decide)) rfl ZAi (ZAA (pv 0) ZAG)))
    (ZAW
   (ZAC (ZAM (i := 2) sc_law.nd rfl (by walk_at "o") (ZBJ f_row (hr.mono (by decide)) rfl ZAi (ZAA (pv 1) (ZAA (ZBJ f_cell_at (hr.mono (by decide)) rfl ZAi (ZAA (pv 0) (ZAA ZAE ZAG))) ZAG))))
   (ZAC (ZAM (i := 3) sc_law.nd rfl (by walk_at "o") (ZBJ f_cell_at (hr.mono (by decide)) rfl ZAi (ZAA (pv 0) (ZAA ZAE ZAG))))
    (ZAW
   (ZAC (ZAM (i := 4) sc_law.nd rfl (by walk_at "o") (ZBJ f_sides (hr.mono (by decide)) rfl ZAi (ZAA (ZDO rfl (k := 1) (js := []) (N' := ["_law_thing"]) (by rfl) (ZBy (ZAP call_sortedT rfl T.b_sorted PyProof.Rows.boot_sorted (ZAA (pv 2) ZAG))) (fun _ _ _ _ => ZA8 (i := 0) (show (["_law_thing"] : List Str).Nodup by decide +kernel) rfl (by walk_at "o")) (fun _ _ _ _ => ZC2) (fun _ _ _ _ => (ZAh (ix_tupK K) (pv 0) ZAE (fun _ _ => rfl)))) (ZAA (pv 1) (ZAA (pv 3) (ZAA (ZBJ f_cell_at (hr.mono (by decide)) rfl ZAi (ZAA (pv 0) (ZAA ZAE ZAG))) ZAG))))))
    (ZAW
   (ZAC (ZAM (i := 5) sc_law.nd rfl (by walk_at "o") (pv 1))
   (ZAC (ZBF (ZAU (ZDZ hr.units) (pv 5) (ZBB ZAG) (ZAV _))
   (ZAK (ZAM (i := 5) sc_law.nd rfl (by walk_at "o") (ZBB (ZAA ZAE ZAG)))) ZAe)
    (ZAW
   (ZAC (ZAM (i := 6) sc_law.nd rfl (by walk_at "o") (ZBB ZAG))
    (ZAW
   (ZAC (ZAM (i := 7) sc_law.nd rfl (by walk_at "o") (ZBJ f_any_teller (hr.mono (by decide)) rfl ZAi (ZAA (pv 6) (ZAA (pv 5) (ZAA (ZBJ f_cell_at (hr.mono (by decide)) rfl ZAi (ZAA (pv 0) (ZAA ZAE ZAG))) ZAG)))))
   (ZAC (ZBF (ZAU ZB8 (ZAQ ZAu (ZAQ ZBA (pv 3) ZAE) ZAE) ZAE (ZAV _))
   (ZAK (ZAM (i := 7) sc_law.nd rfl (by walk_at "o") (ZBJ f_digit_teller (hr.mono (by decide)) rfl ZAi (ZAA (pv 6) (ZAA (ZBJ f_cell_at (hr.mono (by decide)) rfl ZAi (ZAA (pv 0) (ZAA ZAE ZAG))) (ZAA (pv 5) ZAG)))))) ZAe)
    (ZAW
   (ZAC (ZAM (i := 8) sc_law.nd rfl (by walk_at "o") (pe_mkD k_Asker_3 (hr.mono (by decide)) rfl ZAi (ZAA (pv 2) (ZAA (pe_mk k_AskedRule (hr.mono (by decide)) rfl ZAi (ZAA (pv 7) ZAG)) ZAG))))
    (ZAW
   (ZAC (ZAM (i := 9) sc_law.nd rfl (by walk_at "o") (ZBB (ZAA (ZBC ZA3 rfl T.b_list PyProof.Rows.boot_list (ZAA (ZAh ZAS (pv 4) ZAE (fun _ _ => rfl)) ZAG)) (ZAA (ZBC ZA3 rfl T.b_list PyProof.Rows.boot_list (ZAA (ZAh ZAS (pv 4) ZAE (fun _ _ => rfl)) ZAG)) ZAG))))
    (ZAW
   (ZAC (ZAM (i := 10) sc_law.nd rfl (by walk_at "o") (ZBJ f_joined (hr.mono (by decide)) rfl ZAi (ZAA (pv 8) (ZAA (ZAh ZAS (pv 9) ZAE (fun _ _ => rfl)) (ZAA (ZAh ZAS (pv 9) ZAE (fun _ _ => rfl)) ZAG)))))
    (ZAW
   (ZAC (ZBF (PW.pt (ZDM (ZAU (op_neD hr.units) (pv 9) (pv 4) (ZAV _)) (ZDM (ZCp (ZBT (ZBJ f_once (hr.mono (by decide)) rfl ZAi (ZAA (pv 10) (ZAA (ZAP ZAL rfl T.b_len PySem.boot_len (ZAA (pv 2) ZAG)) ZAG))))) (ZCo (ZCp (ZBT (ZBJ f_bounded (hr.mono (by decide)) rfl ZAi (ZAA (pv 10) (ZAA (pv 4) (ZAA (ZAP ZAL rfl T.b_len PySem.boot_len (ZAA (pv 6) ZAG)) ZAG))))))))))
   (ZAK (ZAd ZC3)) ZAe)
    (ZAW
   (ZAC (ZAM (i := 11) sc_law.nd rfl (by walk_at "o") (ZAP ZAL rfl T.b_len PySem.boot_len (ZAA (pv 6) ZAG)))
    (ZAW
   (ZAC (ZAM (i := 12) sc_law.nd rfl (by walk_at "o") (ZBJ f_joined (hr.mono (by decide)) rfl ZAi (ZAA (pv 8) (ZAA (ZAh ZAS (pv 9) ZAE (fun _ _ => rfl)) (ZAA (ZAh ZAS (pv 9) ZAE (fun _ _ => rfl)) ZAG)))))
    (ZAW
   (ZAC (ZBF (PW.pt (ZDM (ZAU (op_neD hr.units) (pv 9) (pv 4) (ZAV _)) (ZCo (ZCp (ZBT (ZBJ f_once (hr.mono (by decide)) rfl ZAi (ZAA (pv 12) (ZAA (ZAP ZAL rfl T.b_len PySem.boot_len (ZAA (pv 2) ZAG)) ZAG))))))))
   (ZAK (ZAd ZC3)) ZAe)
    (ZAW
   (ZAC (ZBF (PW.pt (ZDM (ZCp (ZBT (ZBJ f_bounded (hr.mono (by decide)) rfl ZAi (ZAA (pv 12) (ZAA (pv 4) (ZAA (ZAQ ZBh (ZAP ZAL rfl T.b_len PySem.boot_len (ZAA (pv 6) ZAG)) (pv 11)) ZAG)))))) (ZCo (ZAU ZEN (ZAr (pv 8) rfl) (ZAP ZAL rfl T.b_len PySem.boot_len (ZAA (pv 6) ZAG)) (ZAV _)))))
   (ZAK (ZAd ZC3)) ZAe)
    (ZAW
   (ZAC (ZCY PassesOwn.never rfl (ZBy (pv 6)) (pg_tup (n := 3) rfl (ZB7 (ZA8 (i := 13) sc_law.nd rfl (by walk_at "o")) (ZB7 (ZA8 (i := 14) sc_law.nd rfl (by walk_at "o")) (ZB7 (ZA8 (i := 15) sc_law.nd rfl (by walk_at "o")) pgs_nil))))
   (ZAK (ZBF (ZAU op_le (pv 13) (pv 14) (ZAV _))
   (ZAK (ZAd ZC3)) ZAe)))
   (ZAK (ZAd ZC3)))))))))))))))))))))))))))))))))), ?_⟩
  walk_at "rd"
  refine ⟨a, ns, rfl, hS, h63, fun nl H1 zs S1 hnl hnl1 hzl => ?_⟩
  refine ZAm ?_
  walk_at "rd"
  refine ⟨a, ns, 2, rfl, S1.seq hS, by decide, ?_⟩
  generalize cellOf ns 2 = c2
  refine ⟨nl, c2, zs, rfl, hnl1, hzl, fun rw H2 ks xs S2 hrw hrw2 hkl hth => ?_⟩
  refine ⟨a, ns, 2, rfl, (S1.trans S2).seq hS, by decide, ?_⟩
  generalize cellOf ns 2 = c3
  refine ZAm ?_
  walk_at "rd"
  obtain ⟨zz, ezz, hzzl, hzz⟩ := hth.zz
  have hz : ∀ z ∈ zz, ∃ q : Nat, z.2 = (kat ks q, (q : Int)) /\ q < ks.length /\ H2 z.1 = some (.tup [.int (kat ks q), .int q]) := fun z hzm => by
    obtain ⟨i, hi, e⟩ := List.getElem_of_mem hzm
    obtain ⟨a1, a2⟩ := hzz i z (by rw [yAM hi, e])
    exact ⟨i, a1, by omega, a2⟩
  have hzp : zz.Pairwise (fun (x y : PrA) => x.2.2 ≠ y.2.2) := by
    rw [List.pairwise_iff_getElem]
    intro i j hi hj hij
    have a1 := (hzz i _ (yAM hi)).1
    have a2 := (hzz j _ (yAM hj)).1
    rw [a1, a2]
    show (i : Int) ≠ j
    omega
  walk_at "rd"
  refine ⟨rw, zz, rfl, SqL.of (by rw [<- ezz]; exact hrw2), fun z hzm => ?_, by omega, fun sl ms hsl hperm hsorted => ?_⟩
  . obtain ⟨q, a1, _, a4⟩ := hz z hzm
    rw [a1]
    exact SqT.of a4
  obtain ⟨HE, eE, sE, hE⟩ := newH hsl (.lst (ms.map fun z => V.ref z.1))
  rw [eE]; clear eE
  have hml : ms.length = zz.length := hperm.length_eq
  have hms : ∀ z ∈ ms, ∃ q : Nat, z.2 = (kat ks q, (q : Int)) /\ q < ks.length /\ HE z.1 = some (.tup [.int (kat ks q), .int q]) := fun z hzm => by
    obtain ⟨q, a1, a2, a4⟩ := hz z (hperm.mem_iff.mp hzm)
    exact ⟨q, a1, a2, sE _ _ a4⟩
  have hdis : ms.Pairwise (fun (x y : PrA) => x.2.2 ≠ y.2.2) := (hperm.pairwise_iff fun {x y} z => Ne.symm z).mpr hzp
  have hos : (ms.map fun z => z.2.2.toNat).Pairwise (lx ks) := by
    rw [List.pairwise_map]
    refine (hsorted.and hdis).imp_of_mem fun {x y} hx hy z => ?_
    obtain ⟨q1, a1, _, _⟩ := hms x hx
    obtain ⟨q2, b1, _, _⟩ := hms y hy
    have z1 := z.1
    have z2 := z.2
    rw [a1, b1] at z1 z2
    rw [a1, b1]
    show lx ks (q1 : Int).toNat (q2 : Int).toNat
    rw [Int.toNat_natCast, Int.toNat_natCast]
    unfold lxP at z1
    dsimp only at z1 z2
    unfold lx
    omega
  have hosm : ∀ x ∈ ms.map (fun z => z.2.2.toNat), x < ks.length := fun x hx => by
    obtain ⟨z, hzm, rfl⟩ := yBB.mp hx
    obtain ⟨q, a1, a2, _⟩ := hms z hzm
    rw [a1]
    show (q : Int).toNat < _
    rw [Int.toNat_natCast]
    exact a2
  have hosl : (ms.map fun z => z.2.2.toNat).length = ms.length := yAB ..
  have hosc : ∀ x, x < ks.length -> x ∈ ms.map (fun z => z.2.2.toNat) := fun x hx => by
    have hx' : x < zz.length := by omega
    refine yBB.mpr ⟨zz[x], hperm.mem_iff.mpr (List.getElem_mem hx'), ?_⟩
    rw [(hzz x _ (yAM hx')).1]
    exact Int.toNat_natCast x
  refine compL_of (SqL.of hE) (by rw [yAB]; omega) (fun i ys σ H' => ∃ v, σ = [v] /\ H' = HE /\ ys = nL ((ms.map fun z => z.2.2.toNat).take i)) ⟨_, rfl, rfl, rfl⟩ (fun i ys σ H' _ ⟨_, _, e, e2⟩ => ⟨by rw [e]; exact SqL.of hE, by rw [e2, yAB, yAP]; omega⟩) ?_ ?_
  . rintro i ys x σ H' hi hx ⟨v, rfl, rfl, rfl⟩
    rw [yAB] at hi
    rw [yAR, yAM hi] at hx
    cases hx
    obtain ⟨q, a1, a2, a4⟩ := hms ms[i] (List.getElem_mem hi)
    walk_at "rd"
    refine ZBE (SqT.of a4) (ZAT (by decide) rfl) ?_
    refine Nxt.of (by rw [yAB]; exact hi) ⟨_, rfl, rfl, ?_⟩
    rw [yCE, yAR, yAM hi]
    unfold nL
    rw [yAW]
    show _ = _ ++ [V.int ((ms[i].2.2.toNat : Nat) : Int)]
    rw [a1]
    show _ = _ ++ [V.int (((q : Int).toNat : Nat) : Int)]
    rw [Int.toNat_natCast]
  rintro ys σ HF ⟨v, rfl, rfl, rfl⟩ od hod
  rw [yAB, yBC (by rw [yAB]; exact yAA _)]
  rw [hml, hzzl] at hosl
  generalize (ms.map fun z => z.2.2.toNat) = os at hos hosm hosl hosc ⊢
  obtain ⟨H3, eO, sO, hod3⟩ := newH hod (.lst (nL os))
  rw [eO]; clear eO
  have S23 : Same H2 H3 := sE.trans sO
  have S3 : Same H H3 := S1.trans (S2.trans S23)
  have hrw3 := S23 _ _ hrw2
  have hth3 : Things H3 ks xs := ⟨hth.1, fun i k hk => let ⟨r, a1, a2⟩ := hth.2 i k hk; ⟨r, a1, S23 _ _ a2⟩⟩
  clear hms hdis hml hsorted hperm hzp hz hzz
  refine ⟨a, ns, 4, rfl, S3.seq hS, by decide, ?_⟩
  generalize cellOf ns 4 = c4
  refine ⟨od, nl, os, zs, c3, c4, rfl, hod3, S23 _ _ (S2 _ _ hnl1), by omega, by omega, fun sd s0 s1 H5 l0 l1 s5 nsd ns0 ns1 n01 hsd hs0 hs1 sh => ?_⟩
  have hsl := sh.len
  have hirr : ∀ x, ¬ lx ks x x := fun x h => lx_asym h h
  have hdis := sh.dis hirr hos
  have hl0 : ∀ x ∈ l0, x < ks.length := fun x hx => hosm x ((sh.mem x).mpr (.inl hx))
  have hl1 : ∀ x ∈ l1, x < ks.length := fun x hx => hosm x ((sh.mem x).mpr (.inr hx))
  have hn0 : l0.Nodup := (hos.sublist sh.sub.1).imp fun {x y} h e => by subst e; exact hirr _ h
  have hn1 : l1.Nodup := (hos.sublist sh.sub.2).imp fun {x y} h e => by subst e; exact hirr _ h
  have S5 : Same H H5 := S3.trans s5
  have h5nl : H5 nl = some (.lst (zs.map V.int)) := s5 _ _ (S23 _ _ (S2 _ _ hnl1))
  have h5rw : H5 rw = some (.lst xs) := s5 _ _ hrw3
  have hth5 : Things H5 ks xs := ⟨hth3.1, fun i k hk => let ⟨r, a1, a2⟩ := hth3.2 i k hk; ⟨r, a1, s5 _ _ a2⟩⟩
  clear hth3 hrw3 s5 S3 S23 S2 S1 hth hrw2 hnl1 hod3
  refine ZAm ?_
  walk_at "rd"
  refine ⟨yAH _, fun e0 he0 => ?_⟩
  obtain ⟨H6, e6, s6, h6⟩ := newH he0 (.lst [])
  rw [e6]; clear e6
  apply onceX (α := Addr × Hp) (fun x => [some (.ref a), some (.ref nl), some (.ref rw), some (.int c3), some (.ref sd), some (.ref x.1), none, none, none, none, none, none, none, none, none, none]) (fun x => x.2) (fun x => Same H5 x.2 /\ ∃ bs : List Int, x.2 x.1 = some (.lst (bs.map V.int)) /\ bs ≠ [] /\ bs.length <= 1000)
  . intro tailp
    refine ZDd Enc.int.list (by decide) (a := zs) (b := []) (ZBP (SqL.of (s6 _ _ h5nl))) (ZBP (xs := []) (SqL.of h6)) ⟨_, rfl, ?_⟩
    by_cases hz : zs = []
    . rw [if_pos (by rw [hz]; simp)]
      refine ⟨ZAX (by decide), fun bl hbl => ?_⟩
      exact tailp (bl, _) ⟨s6.trans (ZAR hbl _), [0], ZAF, by simp, by decide⟩
    . rw [if_neg (by simpa using hz)]
      exact tailp (nl, H6) ⟨s6, zs, s6 _ _ h5nl, hz, by omega⟩
  clear s6 h6 he0
  rintro ⟨bl, H6⟩ ⟨s6, bs, hbl6, hbs, hbz⟩
  dsimp only at s6 hbl6
  refine ZAm ?_
  walk_at "rd"
  refine ⟨yAH _, fun lg hlg => ?_⟩
  obtain ⟨H7, e7, s7, h7lg⟩ := newH hlg (.lst [])
  rw [e7]; clear e7
  have S7 : Same H H7 := S5.trans (s6.trans s7)
  have s57 := s6.trans s7
  have h7bl := s7 _ _ hbl6
  have nbl : bl ≠ lg := ZAD hbl6 hlg
  have n5 : ∀ b o, H5 b = some o -> b ≠ lg := fun b o h => ZAD (s6 _ _ h) hlg
  walk_at "rd"
  refine ZAm ?_
  walk_at "rd"
  refine ⟨a, ns, 3, rfl, S7.seq hS, by decide, ?_⟩
  generalize cellOf ns 3 = c5
  have hPa : H7 Pt_any_teller = some (.tbl #[]) := S7 _ _ (hT _ yAE)
  have hPd : H7 Pt_digit_teller = some (.tbl #[]) := S7 _ _ (hT _ (yAJ _ yAE))
  refine ⟨rfl, .inl hPa, fun g1 H8 md => ?_⟩
  have u8 : ∀ b o, H7 b = some o -> (∀ t, o ≠ .tbl t) -> H8 b = some o := fun b o h n => md.same b o (fun z => by rw [z, hPa] at h; exact n _ (Option.some.inj h).symm) h
  walk_at "rd"
  refine ⟨⟨by decide, by decide⟩, by decide, ?_⟩
  apply onceX (α := Addr × Hp) (fun x => [some (.ref a), some (.ref nl), some (.ref rw), some (.int c3), some (.ref sd), some (.ref bl), some (.ref lg), some (.ref x.1), none, none, none, none, none, none, none, none]) (fun x => x.2) (fun x => TlO x.2 x.1 lg bl /\ ∀ b o, H7 b = some o -> (∀ t, o ≠ .tbl t) -> x.2 b = some o)
  . intro tailp
    by_cases hk : c3 / 160 % 2 = 1
    . rw [if_pos hk]
      refine ⟨a, ns, 1, rfl, sqL_fr (S := [Pt_any_teller]) (fun b o n h => md.same b o (fun z => n (by rw [z]; exact yAE)) (S7 _ _ h)) (fun o ho h z => ?_) hS, by decide, ?_⟩
      . rw [yBA.mp z] at h
        rw [S7 _ _ h] at hPa; exact ho _ (Option.some.inj hPa)
      generalize cellOf ns 1 = c6
      have hPd8 : TabSt H8 Pt_digit_teller (ZCf ZAH) "_law_digit_teller.<locals>._law_tells" := .inl (md.same _ _ (Ne.symm np) hPd)
      refine ⟨rfl, hPd8, fun g2 H9 md2 => ?_⟩
      refine tailp (g2, H9) ⟨.inr ⟨c6, md2.clo⟩, fun b o h n => md2.same b o (fun z => ?_) (u8 b o h n)⟩
      rw [z, hPd] at h
      exact n _ (Option.some.inj h).symm
    . rw [if_neg hk]
      exact tailp (g1, H8) ⟨.inl ⟨c5, md.clo⟩, u8⟩
  clear md u8
  rintro ⟨g, H8⟩ ⟨htl, u8⟩
  dsimp only at htl u8
  refine ZAm ?_
  walk_at "rd"
  intro ru dr hru hdr nrd
  have hru' : upd H8 dr (.own ru) ru = none := by rw [ZAI (Ne.symm nrd)]; exact hru
  have s9 : Same H8 (upd (upd H8 dr (.own ru)) ru (.ins C_AskedRule dr [])) := (ZAR hdr _).trans (ZAR hru' _)
  refine ⟨ru, dr, g, rfl, ZAF, fun H9 k9 ir => ⟨rfl, ?_⟩⟩
  have k9' : ∀ b o, H8 b = some o -> H9 b = some o := fun b o h => k9 b o (ZAD h hru) (s9 _ _ h)
  intro ak da hak hda nad
  have hak' : upd H9 da (.own ak) ak = none := by rw [ZAI (Ne.symm nad)]; exact hak
  have s10 : Same H9 (upd (upd H9 da (.own ak)) ak (.ins C_Asker da [])) := (ZAR hda _).trans (ZAR hak' _)
  have u9 : ∀ b o, H7 b = some o -> (∀ t, o ≠ .tbl t) -> H9 b = some o := fun b o h n => k9' _ _ (u8 b o h n)
  have h9rw := u9 rw _ (s57 _ _ h5rw) fun _ z => by cases z
  refine ⟨ak, da, rw, ru, .non, xs, rfl, ZAF, s10 _ _ h9rw, fun rl tl HA kA nrl ntl nrt ia hrl htlA => ⟨rfl, ?_⟩⟩
  have uA : ∀ b o, H9 b = some o -> HA b = some o := fun b o h => kA b o (ZAD h hak) (s10 _ _ h)
  have up : ∀ b o, H7 b = some o -> (∀ t, o ≠ .tbl t) -> HA b = some o := fun b o h n => uA _ _ (u9 b o h n)
  have h9lg := u9 lg _ h7lg fun _ z => by cases z
  have h9bl := u9 bl _ h7bl fun _ z => by cases z
  have hAak : upd (upd H9 da (.own ak)) ak (.ins C_Asker da []) ak = some (.ins C_Asker da []) := ZAF
  obtain ⟨dr', fs'', er, _, _⟩ := ir.ex
  have nak_ru : ru ≠ ak := ZAD er hak
  have st : SitP C_Asker C_AskedRule HA ks xs ak rl ru tl g lg bl [] := {
    ha := ia
    hrl := hrl
    hru := ZDb (S := [ak]) (fun b o n h => kA b o (fun z => n (by rw [z]; exact yAE)) (s10 _ _ h)) (fun z => nak_ru (yBA.mp z)) ir
    clo := htl.mono fun b o h => uA _ _ (k9' _ _ h)
    hbl := ⟨bs, uA _ _ h9bl, hbs, hbz⟩
    len := hth5.1
    row := fun i k hk => by
      obtain ⟨r, a1, a2⟩ := hth5.2 i k hk
      exact ⟨r, a1, up _ _ (s57 _ _ a2) fun _ z => by cases z⟩
    hlg := ⟨[], uA _ _ h9lg, rfl, fun j p q h => by simp at h⟩
    htl := ⟨[], htlA, rfl, fun j p q h => by simp at h⟩
    ne := ⟨ZAD (s10 _ _ h9lg) ntl, ZD6 (Ne.symm (ZAD hAak nrl)) (Ne.symm (ZAD (s10 _ _ h9lg) nrl)) nrt, nak_ru, ZD6 (ZAD h9bl hak) nbl (ZAD (s10 _ _ h9bl) ntl)⟩ }
  have apn : ∀ b o, H5 b = some o -> (∀ t, o ≠ .tbl t) -> b ∉ [ak, lg, tl] := fun b o h n => ZD6 (ZAD (u9 b o (s57 _ _ h) n) hak) (n5 b o h) (ZAD (s10 _ _ (u9 b o (s57 _ _ h) n)) ntl)
  have hsdA := up sd _ (s57 _ _ hsd) fun _ z => by cases z
  have hs0A := up s0 _ (s57 _ _ hs0) fun _ z => by cases z
  have hs1A := up s1 _ (s57 _ _ hs1) fun _ z => by cases z
  have hrwA := up rw _ (s57 _ _ h5rw) fun _ z => by cases z
  have asd := apn sd _ hsd fun _ z => by cases z
  have as0 := apn s0 _ hs0 fun _ z => by cases z
  have as1 := apn s1 _ hs1 fun _ z => by cases z
  have arw := apn rw _ h5rw fun _ z => by cases z
  have hxl : xs.length = ks.length := hth5.1
  clear apn up uA kA u9 k9 k9' s9 s10 u8 htl hru hru' hak hak' hdr hda er hAak nak_ru h9lg h9bl h9rw ia hrl htlA ir h7lg h7bl hbl6 hPa hPd s57 s6 s7 S7 S5 n5 hsd hs0 hs1 h5rw h5nl hth5
  refine ZAm ?_
  walk_at "rd"
  refine ZAY (SqL.of hsdA) (ZAT (by decide) rfl) ⟨s0, _, rfl, .inl (SqL.of hs0A), fun g0 hg0 => ?_⟩
  obtain ⟨HB, eB, sB, hB⟩ := newH hg0 (.lst (nL l0))
  rw [eB]; clear eB
  refine ZAY (SqL.of (sB _ _ hsdA)) (ZAT (by decide) rfl) ⟨s1, _, rfl, .inl (SqL.of (sB _ _ hs1A)), fun g1 hg1 => ?_⟩
  obtain ⟨HC, eC, sC, hC⟩ := newH hg1 (.lst (nL l1))
  rw [eC]; clear eC
  refine ⟨ZAX (by decide), fun hd hhd => ?_⟩
  obtain ⟨HD, eD, sD, hD⟩ := newH hhd (.lst [.ref g0, .ref g1])
  rw [eD]; clear eD
  have sAD : Same HA HD := sB.trans (sC.trans sD)
  obtain ⟨w6, hlg6, _⟩ := st.hlg
  obtain ⟨u6, htl6, _⟩ := st.htl
  have fresh : ∀ b, HA b = none -> b ∉ [ak, lg, tl] := fun b h => ZD6 (st.ha.neN h) (Ne.symm (ZAD hlg6 h)) (Ne.symm (ZAD htl6 h))
  have ag0 := fresh g0 hg0
  have ag1 := fresh g1 (sB.free hg1)
  have ahd := fresh hd ((sB.trans sC).free hhd)
  have hg0D := sD _ _ (sC _ _ hB)
  have hg1D := sD _ _ hC
  have hdp : ∀ {H' : Hp} {x y z : Addr} {p q : List Int}, H' x = some (.lst [.ref y, .ref z]) -> H' y = some (.lst (p.map V.int)) -> H' z = some (.lst (q.map V.int)) -> Dp K H' (.list ([p, q].map fun l => PyData.list (l.map PyData.int))) (.ref x) := fun {H' x y z p q} h1 h2 h3 =>
    dp_lst (SqL.of h1) (.cons (ZBP (SqL.of h2)) (.cons (ZBP (SqL.of h3)) .nil))
  have hnd : (l0 ++ l1).Nodup := List.nodup_append.mpr ⟨hn0, hn1, fun x hx y hy e => hdis x hx y hy e⟩
  have hdis' : ∀ x ∈ l1, ∀ y ∈ l0, x ≠ y := fun x hx y hy e => hdis y hy x hx e.symm
  have hlen : l0.length + l1.length = ks.length := by omega
  clear hos hosm hosc sh hirr fresh hg0 hg1 hhd hB hC
  refine ZAm ?_
  walk_at "rd"
  refine ZAY (SqL.of hD) (ZAT (by decide) rfl) (ZAY (SqL.of hD) (ZAT (by decide) rfl) ?_)
  refine ⟨ks, xs, ak, rl, ru, tl, g, lg, bl, g0, g1, [], l0, l1, rfl, st.mono sAD, hg0D, hg1D, by omega, by omega, hl0, hl1, hdis, by omega, by decide, fun fl H11 ps L fr11 hfl hfl11 hJ st11 => ?_⟩
  rw [List.nil_append] at st11
  have hsd11 := fr11 _ _ asd (sAD _ _ hsdA)
  have hs011 := fr11 _ _ as0 (sAD _ _ hs0A)
  have hs111 := fr11 _ _ as1 (sAD _ _ hs1A)
  have hrw11 := fr11 _ _ arw (sAD _ _ hrwA)
  have hd11 := fr11 _ _ ahd hD
  have hg011 := fr11 _ _ ag0 hg0D
  have hg111 := fr11 _ _ ag1 hg1D
  obtain ⟨ws, hlg11, hws⟩ := st11.hlg
  have hwl : ws.length = L.length := hws.len
  have hpm := hJ.perm
  rw [yCA, yCA] at hpm
  have hpl : ps.length = ks.length := by rw [hpm.length_eq, yAC]; omega
  have hpk : ∀ x ∈ ps, x < ps.length := fun x hx => by
    rw [hpl]
    rcases yAU.mp (hpm.mem_iff.mp hx) with z | z
    . exact hl0 x z
    . exact hl1 x z
  have hLn := hJ.len (by decide) (yAH _) (yAH _)
  clear st hsdA hs0A hs1A hrwA hD hg0D hg1D sAD sB sC sD fr11
  refine ZAm ?_
  walk_at "rd"
  refine neD_of Enc.int.list.list (by decide) (hdp hd11 (by rw [hg011, ZBD]) (by rw [hg111, ZBD])) (hdp hsd11 (by rw [hs011, ZBD]) (by rw [hs111, ZBD])) ⟨_, rfl, ?_⟩
  rw [if_neg (by simp)]
  refine ⟨rw, _, rfl, .inl (SqL.of hrw11), ?_⟩
  rw [hxl, <- hpl]
  refine ⟨fl, ps, rfl, hfl11, by omega, hpm.nodup_iff.mpr hnd, hpk, fun H12 s12 => ?_⟩
  walk_at "rd"
  have B1 := hJ.bound hdis
  refine ⟨lg, ws, rfl, .inl (SqL.of (s12 _ _ hlg11)), ?_⟩
  rw [hwl]
  refine ⟨fl, sd, s0, s1, ps, l0, l1, L.length, rfl, s12 _ _ hfl11, s12 _ _ hsd11, s12 _ _ hs011, s12 _ _ hs111, by omega, hpk, fun x hx => by rw [hpl]; exact hl1 x hx, B1.1, B1.2.1, B1.2.2, fun H13 s13 => ?_⟩
  walk_at "rd"
  have s113 := s12.trans s13
  refine ZAm ?_
  walk_at "rd"
  refine ⟨lg, ws, rfl, .inl (SqL.of (s113 _ _ hlg11)), ?_⟩
  rw [hwl]
  refine ZAm ?_
  walk_at "rd"
  refine ZAY (SqL.of (s113 _ _ hd11)) (ZAT (by decide) rfl) (ZAY (SqL.of (s113 _ _ hd11)) (ZAT (by decide) rfl) ?_)
  refine ⟨ks, xs, ak, rl, ru, tl, g, lg, bl, g1, g0, L, l1, l0, rfl, st11.mono s113, s113 _ _ hg111, s113 _ _ hg011, by omega, by omega, hl1, hl0, hdis', by omega, by omega, fun fm H14 ps2 L2 fr14 hfm hfm14 hJ2 st14 => ?_⟩
  have hsd14 := fr14 _ _ asd (s113 _ _ hsd11)
  have hs014 := fr14 _ _ as0 (s113 _ _ hs011)
  have hs114 := fr14 _ _ as1 (s113 _ _ hs111)
  have hrw14 := fr14 _ _ arw (s113 _ _ hrw11)
  have hd14 := fr14 _ _ ahd (s113 _ _ hd11)
  have hg014 := fr14 _ _ ag0 (s113 _ _ hg011)
  have hg114 := fr14 _ _ ag1 (s113 _ _ hg111)
  obtain ⟨ws2, hlg14, hws2⟩ := st14.hlg
  have hwl2 : ws2.length = L.length + L2.length := by rw [hws2.len, yAC]
  have hpm2 := hJ2.perm
  rw [yCA, yCA] at hpm2
  have hpm3 := hpm2.trans yBO
  have hpl2 : ps2.length = ks.length := by rw [hpm3.length_eq, yAC]; omega
  have hpk2 : ∀ x ∈ ps2, x < ps2.length := fun x hx => by
    rw [hpl2]
    rcases yAU.mp (hpm3.mem_iff.mp hx) with z | z
    . exact hl0 x z
    . exact hl1 x z
  have B2 := JT.bound (JT.swap (s := false) hJ2) hdis
  have ho1 := hJ.ord hdis
  have ho2 := hJ2.ord hdis'
  clear hsd11 hs011 hs111 hrw11 hd11 hg011 hg111 hlg11 s113 s12 s13 st11 fr14 hfl11 hws hJ hJ2
  refine ZAm ?_
  walk_at "rd"
  refine neD_of Enc.int.list.list (by decide) (hdp hd14 (by rw [hg014, ZBD]) (by rw [hg114, ZBD])) (hdp hsd14 (by rw [hs014, ZBD]) (by rw [hs114, ZBD])) ⟨_, rfl, ?_⟩
  rw [if_neg (by simp)]
  refine ⟨rw, _, rfl, .inl (SqL.of hrw14), ?_⟩
  rw [hxl, <- hpl2]
  refine ⟨fm, ps2, rfl, hfm14, by omega, hpm3.nodup_iff.mpr hnd, hpk2, fun H15 s15 => ?_⟩
  walk_at "rd"
  refine ZAm ?_
  walk_at "rd"
  refine ⟨lg, ws2, rfl, .inl (SqL.of (s15 _ _ hlg14)), ?_⟩
  walk_at "rd"
  rw [show (ws2.length : Int) - L.length = ((L2.length : Nat) : Int) by omega]
  refine ⟨fm, sd, s0, s1, ps2, l0, l1, L2.length, rfl, s15 _ _ hfm14, s15 _ _ hsd14, s15 _ _ hs014, s15 _ _ hs114, by omega, hpk2, fun x hx => by rw [hpl2]; exact hl1 x hx, B2.1, B2.2.1, B2.2.2, fun H16 s16 => ?_⟩
  walk_at "rd"
  have st16 := (st14.mono s15).mono s16
  obtain ⟨ws3, hlg16, hws3⟩ := st16.hlg
  have hwl3 := hws3.len
  refine st16.ha.get T.cl_Asker T.n_Asker_asked (by walk_at "lk") ⟨lg, ws3, rfl, .inl (SqL.of hlg16), ?_⟩
  walk_at "rd"
  rw [if_neg (fun z => z (by rw [hwl3]))]
  refine ZAm ?_
  walk_at "rd"
  refine ZCe (SqL.of hlg16) (fun i σ X => ∃ v13 v14 v15, σ = [some (.ref a), some (.ref nl), some (.ref rw), some (.int c3), some (.ref sd), some (.ref bl), some (.ref lg), some (.ref g), some (.ref ak), some (.ref hd), some (.ref fl), some (.int (L.length : Int)), some (.ref fm), v13, v14, v15] /\ X = H16) ⟨_, _, _, rfl, rfl⟩ (fun i σ X _ ⟨_, _, _, _, e⟩ => by rw [e]; exact SqL.of hlg16) ?_ ?_
  . rintro i x σ X hx ⟨v13, v14, v15, rfl, rfl⟩
    have hi := (yAG.mp hx).1
    obtain ⟨c, hc⟩ : ∃ c, (L ++ L2)[i]? = some c := ⟨_, yAM (by omega)⟩
    obtain ⟨tt, b, h1, h2⟩ := hws3.get i c.1 c.2 hc
    rw [hx] at h1
    cases h1
    have hf : c.2 < c.1 := by
      rcases yAU.mp (yAO hc) with z | z
      . exact ho1 c z
      . exact ho2 c z
    refine gTup_of (SqT.of h2) rfl ?_
    walk_at "rd"
    rw [if_neg (by omega)]
    exact ⟨_, _, _, rfl, trivial⟩
  rintro σ X ⟨v13, v14, v15, rfl, rfl⟩
  walk_at "rd"
  exact q _
end
theorem all_mk {l : PySem.W.OpenLaw} {w : World} {K : W.Frag} {h : Heap} {mg : Str -> Option Value} {fa C_Join f_Join_init f_Join_has_more f_Join_front f_Join_take_on f_Join_take_rest f_Join_win f_Join_leap_on C_Asker f_Asker_init T_Asker_init f_Asker_ahead C_AskedRule f_AskedRule_init f_AskedRule_before f_cell_at f_stream f_numbers f_row f_sides f_blocks f_most f_leap f_joined f_once f_bounded f_law f_any_teller cc_any_teller Pt_any_teller f_digit_teller cc_digit_teller Pt_digit_teller : Addr} {t_LEFT t_RIGHT t_WINS_TO_LEAP : Tok} (X : K.In h) (G : h.Ns mainGlobals mg) (hfa : mg "law" = some (.ref fa))
    {od_Join_init an_Join_init : Option Addr} {sl_Join_init : Array (Option Value)} {oc_Join_init kV_Join_init dc_Join_init pm_Join_init cd_Join_init ct_Join_init : Value}
    {od_Join_has_more an_Join_has_more : Option Addr} {sl_Join_has_more : Array (Option Value)} {oc_Join_has_more kV_Join_has_more dc_Join_has_more pm_Join_has_more cd_Join_has_more ct_Join_has_more : Value}
    {od_Join_front an_Join_front : Option Addr} {sl_Join_front : Array (Option Value)} {oc_Join_front kV_Join_front dc_Join_front pm_Join_front cd_Join_front ct_Join_front : Value}
    {od_Join_take_on an_Join_take_on : Option Addr} {sl_Join_take_on : Array (Option Value)} {oc_Join_take_on kV_Join_take_on dc_Join_take_on pm_Join_take_on cd_Join_take_on ct_Join_take_on : Value}
    {od_Join_take_rest an_Join_take_rest : Option Addr} {sl_Join_take_rest : Array (Option Value)} {oc_Join_take_rest kV_Join_take_rest dc_Join_take_rest pm_Join_take_rest cd_Join_take_rest ct_Join_take_rest : Value}
    {od_Join_win an_Join_win : Option Addr} {sl_Join_win : Array (Option Value)} {oc_Join_win kV_Join_win dc_Join_win pm_Join_win cd_Join_win ct_Join_win : Value}
    {od_Join_leap_on an_Join_leap_on : Option Addr} {sl_Join_leap_on : Array (Option Value)} {oc_Join_leap_on kV_Join_leap_on dc_Join_leap_on pm_Join_leap_on cd_Join_leap_on ct_Join_leap_on : Value}
    {ocT_Asker_init : Value} {odT_Asker_init : Option Addr} {nT_Asker_init : Nat} {slT_Asker_init : Array (Option Value)}
    {od_Asker_init an_Asker_init : Option Addr} {sl_Asker_init : Array (Option Value)} {oc_Asker_init kV_Asker_init dc_Asker_init pm_Asker_init cd_Asker_init ct_Asker_init : Value}
    {od_Asker_ahead an_Asker_ahead : Option Addr} {sl_Asker_ahead : Array (Option Value)} {oc_Asker_ahead kV_Asker_ahead dc_Asker_ahead pm_Asker_ahead cd_Asker_ahead ct_Asker_ahead : Value}
    {od_AskedRule_init an_AskedRule_init : Option Addr} {sl_AskedRule_init : Array (Option Value)} {oc_AskedRule_init kV_AskedRule_init dc_AskedRule_init pm_AskedRule_init cd_AskedRule_init ct_AskedRule_init : Value}
    {od_AskedRule_before an_AskedRule_before : Option Addr} {sl_AskedRule_before : Array (Option Value)} {oc_AskedRule_before kV_AskedRule_before dc_AskedRule_before pm_AskedRule_before cd_AskedRule_before ct_AskedRule_before : Value}
    {od_cell_at an_cell_at : Option Addr} {sl_cell_at : Array (Option Value)} {oc_cell_at kV_cell_at dc_cell_at pm_cell_at cd_cell_at ct_cell_at : Value}
    {od_stream an_stream : Option Addr} {sl_stream : Array (Option Value)} {oc_stream kV_stream dc_stream pm_stream cd_stream ct_stream : Value}
    {od_numbers an_numbers : Option Addr} {sl_numbers : Array (Option Value)} {oc_numbers kV_numbers dc_numbers pm_numbers cd_numbers ct_numbers : Value}
    {od_row an_row : Option Addr} {sl_row : Array (Option Value)} {oc_row kV_row dc_row pm_row cd_row ct_row : Value}
    {od_sides an_sides : Option Addr} {sl_sides : Array (Option Value)} {oc_sides kV_sides dc_sides pm_sides cd_sides ct_sides : Value}
    {od_blocks an_blocks : Option Addr} {sl_blocks : Array (Option Value)} {oc_blocks kV_blocks dc_blocks pm_blocks cd_blocks ct_blocks : Value}
    {od_most an_most : Option Addr} {sl_most : Array (Option Value)} {oc_most kV_most dc_most pm_most cd_most ct_most : Value}
    {od_leap an_leap : Option Addr} {sl_leap : Array (Option Value)} {oc_leap kV_leap dc_leap pm_leap cd_leap ct_leap : Value}
    {od_joined an_joined : Option Addr} {sl_joined : Array (Option Value)} {oc_joined kV_joined dc_joined pm_joined cd_joined ct_joined : Value}
    {od_once an_once : Option Addr} {sl_once : Array (Option Value)} {oc_once kV_once dc_once pm_once cd_once ct_once : Value}
    {od_bounded an_bounded : Option Addr} {sl_bounded : Array (Option Value)} {oc_bounded kV_bounded dc_bounded pm_bounded cd_bounded ct_bounded : Value}
    {od_law an_law : Option Addr} {sl_law : Array (Option Value)} {oc_law kV_law dc_law pm_law cd_law ct_law : Value}
    {oc2_any_teller : Value} {od2_any_teller : Option Addr} {vs_any_teller : Array Value} {sl2_any_teller : Array (Option Value)}
    {od_any_teller an_any_teller : Option Addr} {sl_any_teller : Array (Option Value)} {oc_any_teller kV_any_teller dc_any_teller pm_any_teller ct_any_teller : Value}
    {oc2_digit_teller : Value} {od2_digit_teller : Option Addr} {vs_digit_teller : Array Value} {sl2_digit_teller : Array (Option Value)}
    {od_digit_teller an_digit_teller : Option Addr} {sl_digit_teller : Array (Option Value)} {oc_digit_teller kV_digit_teller dc_digit_teller pm_digit_teller ct_digit_teller : Value}
    (a_Join : W.nsIn K mainGlobals "Join" = some (some (.ref C_Join)))
    (pg_Join : PySem.W.plainGet K C_Join Str.empty = true)
    (hd_Join : PySem.W.hasDictIn K C_Join = true)
    (po_Join : PySem.W.plainOver K C_Join = true)
    (sa_Join : W.findIn K (.ref C_Join) "__setattr__" = some (some (.builtin "object.__setattr__")))
    (mk_Join : PySem.W.makesIn K C_Join = true)
    (kc_Join : W.keepIn K (.ref C_Join) = true)
    (n_Join_asker : W.findIn K (.ref C_Join) "asker" = some none)
    (n_Join_sides : W.findIn K (.ref C_Join) "sides" = some none)
    (n_Join_taken : W.findIn K (.ref C_Join) "taken" = some none)
    (n_Join_places : W.findIn K (.ref C_Join) "places" = some none)
    (a_Join_init : W.findIn K (.ref C_Join) "__init__" = some (some (.ref f_Join_init)))
    (i_Join_init : PySem.W.isFn K (.ref f_Join_init) = true)
    (l_Join_init : K.lookup f_Join_init = some ⟨oc_Join_init, od_Join_init, .func (W.fnOf "__init__" "Join.__init__" (ZAO ZA7) (ZAN ZA7) (ZAB ZA7) .none kV_Join_init dc_Join_init pm_Join_init an_Join_init cd_Join_init ct_Join_init), sl_Join_init⟩)
    (c_Join_init : W.codeIn K cd_Join_init "Join.__init__" = true)
    (k_Join_init : W.keepIn K (.ref f_Join_init) = true)
    (a_Join_has_more : W.findIn K (.ref C_Join) "has_more" = some (some (.ref f_Join_has_more)))
    (i_Join_has_more : PySem.W.isFn K (.ref f_Join_has_more) = true)
    (l_Join_has_more : K.lookup f_Join_has_more = some ⟨oc_Join_has_more, od_Join_has_more, .func (W.fnOf "has_more" "Join.has_more" (ZAO ZAl) (ZAN ZAl) (ZAB ZAl) .none kV_Join_has_more dc_Join_has_more pm_Join_has_more an_Join_has_more cd_Join_has_more ct_Join_has_more), sl_Join_has_more⟩)
    (c_Join_has_more : W.codeIn K cd_Join_has_more "Join.has_more" = true)
    (k_Join_has_more : W.keepIn K (.ref f_Join_has_more) = true)
    (a_Join_front : W.findIn K (.ref C_Join) "front" = some (some (.ref f_Join_front)))
    (i_Join_front : PySem.W.isFn K (.ref f_Join_front) = true)
    (l_Join_front : K.lookup f_Join_front = some ⟨oc_Join_front, od_Join_front, .func (W.fnOf "front" "Join.front" (ZAO ZA1) (ZAN ZA1) (ZAB ZA1) .none kV_Join_front dc_Join_front pm_Join_front an_Join_front cd_Join_front ct_Join_front), sl_Join_front⟩)
    (c_Join_front : W.codeIn K cd_Join_front "Join.front" = true)
    (k_Join_front : W.keepIn K (.ref f_Join_front) = true)
    (a_Join_take_on : W.findIn K (.ref C_Join) "take_on" = some (some (.ref f_Join_take_on)))
    (i_Join_take_on : PySem.W.isFn K (.ref f_Join_take_on) = true)
    (l_Join_take_on : K.lookup f_Join_take_on = some ⟨oc_Join_take_on, od_Join_take_on, .func (W.fnOf "take_on" "Join.take_on" (ZAO ZAp) (ZAN ZAp) (ZAB ZAp) .none kV_Join_take_on dc_Join_take_on pm_Join_take_on an_Join_take_on cd_Join_take_on ct_Join_take_on), sl_Join_take_on⟩)
    (c_Join_take_on : W.codeIn K cd_Join_take_on "Join.take_on" = true)
    (k_Join_take_on : W.keepIn K (.ref f_Join_take_on) = true)
    (a_Join_take_rest : W.findIn K (.ref C_Join) "take_rest" = some (some (.ref f_Join_take_rest)))
    (i_Join_take_rest : PySem.W.isFn K (.ref f_Join_take_rest) = true)
    (l_Join_take_rest : K.lookup f_Join_take_rest = some ⟨oc_Join_take_rest, od_Join_take_rest, .func (W.fnOf "take_rest" "Join.take_rest" (ZAO ZAf) (ZAN ZAf) (ZAB ZAf) .none kV_Join_take_rest dc_Join_take_rest pm_Join_take_rest an_Join_take_rest cd_Join_take_rest ct_Join_take_rest), sl_Join_take_rest⟩)
    (c_Join_take_rest : W.codeIn K cd_Join_take_rest "Join.take_rest" = true)
    (k_Join_take_rest : W.keepIn K (.ref f_Join_take_rest) = true)
    (a_Join_win : W.findIn K (.ref C_Join) "win" = some (some (.ref f_Join_win)))
    (i_Join_win : PySem.W.isFn K (.ref f_Join_win) = true)
    (l_Join_win : K.lookup f_Join_win = some ⟨oc_Join_win, od_Join_win, .func (W.fnOf "win" "Join.win" (ZAO ZBH) (ZAN ZBH) (ZAB ZBH) .none kV_Join_win dc_Join_win pm_Join_win an_Join_win cd_Join_win ct_Join_win), sl_Join_win⟩)
    (c_Join_win : W.codeIn K cd_Join_win "Join.win" = true)
    (k_Join_win : W.keepIn K (.ref f_Join_win) = true)
    (a_Join_leap_on : W.findIn K (.ref C_Join) "leap_on" = some (some (.ref f_Join_leap_on)))
    (i_Join_leap_on : PySem.W.isFn K (.ref f_Join_leap_on) = true)
    (l_Join_leap_on : K.lookup f_Join_leap_on = some ⟨oc_Join_leap_on, od_Join_leap_on, .func (W.fnOf "leap_on" "Join.leap_on" (ZAO ZAq) (ZAN ZAq) (ZAB ZAq) .none kV_Join_leap_on dc_Join_leap_on pm_Join_leap_on an_Join_leap_on cd_Join_leap_on ct_Join_leap_on), sl_Join_leap_on⟩)
    (c_Join_leap_on : W.codeIn K cd_Join_leap_on "Join.leap_on" = true)
    (k_Join_leap_on : W.keepIn K (.ref f_Join_leap_on) = true)
    (a_Asker : W.nsIn K mainGlobals "Asker" = some (some (.ref C_Asker)))
    (pg_Asker : PySem.W.plainGet K C_Asker Str.empty = true)
    (hd_Asker : PySem.W.hasDictIn K C_Asker = true)
    (po_Asker : PySem.W.plainOver K C_Asker = true)
    (sa_Asker : W.findIn K (.ref C_Asker) "__setattr__" = some (some (.builtin "object.__setattr__")))
    (mk_Asker : PySem.W.makesIn K C_Asker = true)
    (kc_Asker : W.keepIn K (.ref C_Asker) = true)
    (n_Asker_row : W.findIn K (.ref C_Asker) "row" = some none)
    (n_Asker_rule : W.findIn K (.ref C_Asker) "rule" = some none)
    (n_Asker_most : W.findIn K (.ref C_Asker) "most" = some none)
    (n_Asker_asked : W.findIn K (.ref C_Asker) "asked" = some none)
    (n_Asker_told : W.findIn K (.ref C_Asker) "told" = some none)
    (a_Asker_init : W.findIn K (.ref C_Asker) "__init__" = some (some (.ref f_Asker_init)))
    (i_Asker_init : PySem.W.isFn K (.ref f_Asker_init) = true)
    (l_Asker_init : K.lookup f_Asker_init = some ⟨oc_Asker_init, od_Asker_init, .func (W.fnOf "__init__" "Asker.__init__" (ZAO ZA2) (ZAN ZA2) (ZAB ZA2) (.ref T_Asker_init) kV_Asker_init dc_Asker_init pm_Asker_init an_Asker_init cd_Asker_init ct_Asker_init), sl_Asker_init⟩)
    (c_Asker_init : W.codeIn K cd_Asker_init "Asker.__init__" = true)
    (d_Asker_init : K.lookup T_Asker_init = some ⟨ocT_Asker_init, odT_Asker_init, .seq ([.none] : List Value).toArray nT_Asker_init, slT_Asker_init⟩)
    (k_Asker_init : W.keepIn K (.ref f_Asker_init) = true)
    (a_Asker_ahead : W.findIn K (.ref C_Asker) "ahead" = some (some (.ref f_Asker_ahead)))
    (i_Asker_ahead : PySem.W.isFn K (.ref f_Asker_ahead) = true)
    (l_Asker_ahead : K.lookup f_Asker_ahead = some ⟨oc_Asker_ahead, od_Asker_ahead, .func (W.fnOf "ahead" "Asker.ahead" (ZAO ZAw) (ZAN ZAw) (ZAB ZAw) .none kV_Asker_ahead dc_Asker_ahead pm_Asker_ahead an_Asker_ahead cd_Asker_ahead ct_Asker_ahead), sl_Asker_ahead⟩)
    (c_Asker_ahead : W.codeIn K cd_Asker_ahead "Asker.ahead" = true)
    (k_Asker_ahead : W.keepIn K (.ref f_Asker_ahead) = true)
    (a_AskedRule : W.nsIn K mainGlobals "AskedRule" = some (some (.ref C_AskedRule)))
    (pg_AskedRule : PySem.W.plainGet K C_AskedRule Str.empty = true)
    (hd_AskedRule : PySem.W.hasDictIn K C_AskedRule = true)
    (po_AskedRule : PySem.W.plainOver K C_AskedRule = true)
    (sa_AskedRule : W.findIn K (.ref C_AskedRule) "__setattr__" = some (some (.builtin "object.__setattr__")))
    (mk_AskedRule : PySem.W.makesIn K C_AskedRule = true)
    (kc_AskedRule : W.keepIn K (.ref C_AskedRule) = true)
    (n_AskedRule_teller : W.findIn K (.ref C_AskedRule) "teller" = some none)
    (a_AskedRule_init : W.findIn K (.ref C_AskedRule) "__init__" = some (some (.ref f_AskedRule_init)))
    (i_AskedRule_init : PySem.W.isFn K (.ref f_AskedRule_init) = true)
    (l_AskedRule_init : K.lookup f_AskedRule_init = some ⟨oc_AskedRule_init, od_AskedRule_init, .func (W.fnOf "__init__" "AskedRule.__init__" (ZAO ZAg) (ZAN ZAg) (ZAB ZAg) .none kV_AskedRule_init dc_AskedRule_init pm_AskedRule_init an_AskedRule_init cd_AskedRule_init ct_AskedRule_init), sl_AskedRule_init⟩)
    (c_AskedRule_init : W.codeIn K cd_AskedRule_init "AskedRule.__init__" = true)
    (k_AskedRule_init : W.keepIn K (.ref f_AskedRule_init) = true)
    (a_AskedRule_before : W.findIn K (.ref C_AskedRule) "before" = some (some (.ref f_AskedRule_before)))
    (i_AskedRule_before : PySem.W.isFn K (.ref f_AskedRule_before) = true)
    (l_AskedRule_before : K.lookup f_AskedRule_before = some ⟨oc_AskedRule_before, od_AskedRule_before, .func (W.fnOf "before" "AskedRule.before" (ZAO ZAZ) (ZAN ZAZ) (ZAB ZAZ) .none kV_AskedRule_before dc_AskedRule_before pm_AskedRule_before an_AskedRule_before cd_AskedRule_before ct_AskedRule_before), sl_AskedRule_before⟩)
    (c_AskedRule_before : W.codeIn K cd_AskedRule_before "AskedRule.before" = true)
    (k_AskedRule_before : W.keepIn K (.ref f_AskedRule_before) = true)
    (a_cell_at : W.nsIn K mainGlobals "_law_cell_at" = some (some (.ref f_cell_at)))
    (l_cell_at : K.lookup f_cell_at = some ⟨oc_cell_at, od_cell_at, .func (W.fnOf "_law_cell_at" "_law_cell_at" (ZAO ZBR) (ZAN ZBR) (ZAB ZBR) .none kV_cell_at dc_cell_at pm_cell_at an_cell_at cd_cell_at ct_cell_at), sl_cell_at⟩)
    (c_cell_at : W.codeIn K cd_cell_at "_law_cell_at" = true)
    (k_cell_at : W.keepIn K (.ref f_cell_at) = true)
    (a_stream : W.nsIn K mainGlobals "_law_stream" = some (some (.ref f_stream)))
    (l_stream : K.lookup f_stream = some ⟨oc_stream, od_stream, .func (W.fnOf "_law_stream" "_law_stream" (ZAO ZBj) (ZAN ZBj) (ZAB ZBj) .none kV_stream dc_stream pm_stream an_stream cd_stream ct_stream), sl_stream⟩)
    (c_stream : W.codeIn K cd_stream "_law_stream" = true)
    (k_stream : W.keepIn K (.ref f_stream) = true)
    (a_numbers : W.nsIn K mainGlobals "_law_numbers" = some (some (.ref f_numbers)))
    (l_numbers : K.lookup f_numbers = some ⟨oc_numbers, od_numbers, .func (W.fnOf "_law_numbers" "_law_numbers" (ZAO ZBQ) (ZAN ZBQ) (ZAB ZBQ) .none kV_numbers dc_numbers pm_numbers an_numbers cd_numbers ct_numbers), sl_numbers⟩)
    (c_numbers : W.codeIn K cd_numbers "_law_numbers" = true)
    (k_numbers : W.keepIn K (.ref f_numbers) = true)
    (a_row : W.nsIn K mainGlobals "_law_row" = some (some (.ref f_row)))
    (l_row : K.lookup f_row = some ⟨oc_row, od_row, .func (W.fnOf "_law_row" "_law_row" (ZAO ZDh) (ZAN ZDh) (ZAB ZDh) .none kV_row dc_row pm_row an_row cd_row ct_row), sl_row⟩)
    (c_row : W.codeIn K cd_row "_law_row" = true)
    (k_row : W.keepIn K (.ref f_row) = true)
    (a_sides : W.nsIn K mainGlobals "_law_sides" = some (some (.ref f_sides)))
    (l_sides : K.lookup f_sides = some ⟨oc_sides, od_sides, .func (W.fnOf "_law_sides" "_law_sides" (ZAO ZCE) (ZAN ZCE) (ZAB ZCE) .none kV_sides dc_sides pm_sides an_sides cd_sides ct_sides), sl_sides⟩)
    (c_sides : W.codeIn K cd_sides "_law_sides" = true)
    (k_sides : W.keepIn K (.ref f_sides) = true)
    (a_blocks : W.nsIn K mainGlobals "_law_blocks" = some (some (.ref f_blocks)))
    (l_blocks : K.lookup f_blocks = some ⟨oc_blocks, od_blocks, .func (W.fnOf "_law_blocks" "_law_blocks" (ZAO ZBl) (ZAN ZBl) (ZAB ZBl) .none kV_blocks dc_blocks pm_blocks an_blocks cd_blocks ct_blocks), sl_blocks⟩)
    (c_blocks : W.codeIn K cd_blocks "_law_blocks" = true)
    (k_blocks : W.keepIn K (.ref f_blocks) = true)
    (a_most : W.nsIn K mainGlobals "_law_most" = some (some (.ref f_most)))
    (l_most : K.lookup f_most = some ⟨oc_most, od_most, .func (W.fnOf "_law_most" "_law_most" (ZAO ZCm) (ZAN ZCm) (ZAB ZCm) .none kV_most dc_most pm_most an_most cd_most ct_most), sl_most⟩)
    (c_most : W.codeIn K cd_most "_law_most" = true)
    (k_most : W.keepIn K (.ref f_most) = true)
    (a_leap : W.nsIn K mainGlobals "leap" = some (some (.ref f_leap)))
    (l_leap : K.lookup f_leap = some ⟨oc_leap, od_leap, .func (W.fnOf "leap" "leap" (ZAO ZCn) (ZAN ZCn) (ZAB ZCn) .none kV_leap dc_leap pm_leap an_leap cd_leap ct_leap), sl_leap⟩)
    (c_leap : W.codeIn K cd_leap "leap" = true)
    (k_leap : W.keepIn K (.ref f_leap) = true)
    (a_joined : W.nsIn K mainGlobals "joined" = some (some (.ref f_joined)))
    (l_joined : K.lookup f_joined = some ⟨oc_joined, od_joined, .func (W.fnOf "joined" "joined" (ZAO ZBk) (ZAN ZBk) (ZAB ZBk) .none kV_joined dc_joined pm_joined an_joined cd_joined ct_joined), sl_joined⟩)
    (c_joined : W.codeIn K cd_joined "joined" = true)
    (k_joined : W.keepIn K (.ref f_joined) = true)
    (a_once : W.nsIn K mainGlobals "_law_once" = some (some (.ref f_once)))
    (l_once : K.lookup f_once = some ⟨oc_once, od_once, .func (W.fnOf "_law_once" "_law_once" (ZAO ZCl) (ZAN ZCl) (ZAB ZCl) .none kV_once dc_once pm_once an_once cd_once ct_once), sl_once⟩)
    (c_once : W.codeIn K cd_once "_law_once" = true)
    (k_once : W.keepIn K (.ref f_once) = true)
    (a_bounded : W.nsIn K mainGlobals "_law_bounded" = some (some (.ref f_bounded)))
    (l_bounded : K.lookup f_bounded = some ⟨oc_bounded, od_bounded, .func (W.fnOf "_law_bounded" "_law_bounded" (ZAO ZBS) (ZAN ZBS) (ZAB ZBS) .none kV_bounded dc_bounded pm_bounded an_bounded cd_bounded ct_bounded), sl_bounded⟩)
    (c_bounded : W.codeIn K cd_bounded "_law_bounded" = true)
    (k_bounded : W.keepIn K (.ref f_bounded) = true)
    (a_law : W.nsIn K mainGlobals "law" = some (some (.ref f_law)))
    (l_law : K.lookup f_law = some ⟨oc_law, od_law, .func (W.fnOf "law" "law" (ZAO ZC1) (ZAN ZC1) (ZAB ZC1) .none kV_law dc_law pm_law an_law cd_law ct_law), sl_law⟩)
    (c_law : W.codeIn K cd_law "law" = true)
    (k_law : W.keepIn K (.ref f_law) = true)
    (a_any_teller : W.nsIn K mainGlobals "_law_any_teller" = some (some (.ref f_any_teller)))
    (l_any_teller : K.lookup f_any_teller = some ⟨oc_any_teller, od_any_teller, .func (W.fnOf "_law_any_teller" "_law_any_teller" (ZAO ZAt) (ZAN ZAt) (ZAB ZAt) .none kV_any_teller dc_any_teller pm_any_teller an_any_teller (.ref cc_any_teller) ct_any_teller), sl_any_teller⟩)
    (c_any_teller : W.codeIn K (.ref cc_any_teller) "_law_any_teller" = true)
    (lc_any_teller : K.lookup cc_any_teller = some ⟨oc2_any_teller, od2_any_teller, .fields vs_any_teller, sl2_any_teller⟩)
    (tp_any_teller : vs_any_teller[11]? = some (.ref Pt_any_teller))
    (k_any_teller : W.keepIn K (.ref f_any_teller) = true)
    (a_digit_teller : W.nsIn K mainGlobals "_law_digit_teller" = some (some (.ref f_digit_teller)))
    (l_digit_teller : K.lookup f_digit_teller = some ⟨oc_digit_teller, od_digit_teller, .func (W.fnOf "_law_digit_teller" "_law_digit_teller" (ZAO ZAj) (ZAN ZAj) (ZAB ZAj) .none kV_digit_teller dc_digit_teller pm_digit_teller an_digit_teller (.ref cc_digit_teller) ct_digit_teller), sl_digit_teller⟩)
    (c_digit_teller : W.codeIn K (.ref cc_digit_teller) "_law_digit_teller" = true)
    (lc_digit_teller : K.lookup cc_digit_teller = some ⟨oc2_digit_teller, od2_digit_teller, .fields vs_digit_teller, sl2_digit_teller⟩)
    (tp_digit_teller : vs_digit_teller[11]? = some (.ref Pt_digit_teller))
    (k_digit_teller : W.keepIn K (.ref f_digit_teller) = true)
    (z_LEFT : W.nsIn K mainGlobals "LEFT" = some (some (.int 0 t_LEFT)))
    (z_RIGHT : W.nsIn K mainGlobals "RIGHT" = some (some (.int 1 t_RIGHT)))
    (z_WINS_TO_LEAP : W.nsIn K mainGlobals "WINS_TO_LEAP" = some (some (.int 4 t_WINS_TO_LEAP)))
    (z_len : W.nsIn K mainGlobals "len" = some none)
    (z_range : W.nsIn K mainGlobals "range" = some none)
    (z_list : W.nsIn K mainGlobals "list" = some none)
    (z_isinstance : W.nsIn K mainGlobals "isinstance" = some none)
    (z_bool : W.nsIn K mainGlobals "bool" = some none)
    (z_int : W.nsIn K mainGlobals "int" = some none)
    (z_max : W.nsIn K mainGlobals "max" = some none)
    (z_min : W.nsIn K mainGlobals "min" = some none)
    (z_sorted : W.nsIn K mainGlobals "sorted" = some none)
    (z_enumerate : W.nsIn K mainGlobals "enumerate" = some none)
    (z_ValueError : W.nsIn K mainGlobals "ValueError" = some none)
    (kit_int_bool : PySem.W.kitOne K (.type "int") (.type "bool") = some false)
    (nt : PySem.W.noTabs K = true)
    (np : Pt_any_teller ≠ Pt_digit_teller) :
    ∃ (tabs : List (Addr × Addr)) (fd : FuncData), PySem.W.noTabs K = true /\ (∀ t ∈ tabs, ∃ y ∈ (["_law_any_teller", "_law_digit_teller"] : List Str), PySem.W.tabIn K y = some t) /\ (∀ (s : Shared) (v : Value), BindsTo s fd ⟨[v], []⟩ [("_law_script", v)]) /\ ∀ base : Heap, K.In base -> base.Ns mainGlobals mg -> (∀ t ∈ tabs, PySem.W.CodeHd base t.1 t.2) -> ZC9 mg base -> FnOk l.prog w K mg base CX0 7 fa fd ["_law_script"] (ZDt K tabs) := by
  have e := hfa.symm.trans (PySem.W.mg_of X G a_law)
  cases e
  have cl_Join : Cls K C_Join := ⟨pg_Join, hd_Join, po_Join, sa_Join⟩
  have F_Join_init := ZAs (st := ZA7) l_Join_init c_Join_init k_Join_init
  have b_Join_init := F_Join_init.binds (ps := ["self", "asker", "left", "right"]) fun _ _ _ _ _ _ us hl => by obtain ⟨_, _, _, _, rfl⟩ := us4 hl; rfl
  have F_Join_has_more := ZAs (st := ZAl) l_Join_has_more c_Join_has_more k_Join_has_more
  have b_Join_has_more := F_Join_has_more.binds (ps := ["self", "side"]) fun _ _ _ _ _ _ us hl => by obtain ⟨_, _, rfl⟩ := us2 hl; rfl
  have F_Join_front := ZAs (st := ZA1) l_Join_front c_Join_front k_Join_front
  have b_Join_front := F_Join_front.binds (ps := ["self", "side"]) fun _ _ _ _ _ _ us hl => by obtain ⟨_, _, rfl⟩ := us2 hl; rfl
  have F_Join_take_on := ZAs (st := ZAp) l_Join_take_on c_Join_take_on k_Join_take_on
  have b_Join_take_on := F_Join_take_on.binds (ps := ["self", "side", "more"]) fun _ _ _ _ _ _ us hl => by obtain ⟨_, _, _, rfl⟩ := us3 hl; rfl
  have F_Join_take_rest := ZAs (st := ZAf) l_Join_take_rest c_Join_take_rest k_Join_take_rest
  have b_Join_take_rest := F_Join_take_rest.binds (ps := ["self", "side"]) fun _ _ _ _ _ _ us hl => by obtain ⟨_, _, rfl⟩ := us2 hl; rfl
  have F_Join_win := ZAs (st := ZBH) l_Join_win c_Join_win k_Join_win
  have b_Join_win := F_Join_win.binds (ps := ["self"]) fun _ _ _ _ _ _ us hl => by obtain ⟨_, rfl⟩ := us1 hl; rfl
  have F_Join_leap_on := ZAs (st := ZAq) l_Join_leap_on c_Join_leap_on k_Join_leap_on
  have b_Join_leap_on := F_Join_leap_on.binds (ps := ["self", "side"]) fun _ _ _ _ _ _ us hl => by obtain ⟨_, _, rfl⟩ := us2 hl; rfl
  have cl_Asker : Cls K C_Asker := ⟨pg_Asker, hd_Asker, po_Asker, sa_Asker⟩
  have F_Asker_init := funD_mk (st := ZA2) l_Asker_init c_Asker_init k_Asker_init d_Asker_init
  have b_Asker_init_4 := F_Asker_init.binds (ps := ["self", "row", "rule", "most"]) (ds := []) fun _ _ _ _ _ _ _ us hl => match us, us_len (n := 4) hl rfl with | [_, _, _, _], _ => ⟨_, rfl, rfl⟩
  have b_Asker_init_3 := F_Asker_init.binds (ps := ["self", "row", "rule", "most"]) (ds := [.none]) fun _ _ _ _ _ _ _ us hl => match us, us_len (n := 3) hl rfl with | [_, _, _], _ => ⟨_, rfl, rfl⟩
  have F_Asker_ahead := ZAs (st := ZAw) l_Asker_ahead c_Asker_ahead k_Asker_ahead
  have b_Asker_ahead := F_Asker_ahead.binds (ps := ["self", "p", "q"]) fun _ _ _ _ _ _ us hl => by obtain ⟨_, _, _, rfl⟩ := us3 hl; rfl
  have cl_AskedRule : Cls K C_AskedRule := ⟨pg_AskedRule, hd_AskedRule, po_AskedRule, sa_AskedRule⟩
  have F_AskedRule_init := ZAs (st := ZAg) l_AskedRule_init c_AskedRule_init k_AskedRule_init
  have b_AskedRule_init := F_AskedRule_init.binds (ps := ["self", "teller"]) fun _ _ _ _ _ _ us hl => by obtain ⟨_, _, rfl⟩ := us2 hl; rfl
  have F_AskedRule_before := ZAs (st := ZAZ) l_AskedRule_before c_AskedRule_before k_AskedRule_before
  have b_AskedRule_before := F_AskedRule_before.binds (ps := ["self", "x", "y"]) fun _ _ _ _ _ _ us hl => by obtain ⟨_, _, _, rfl⟩ := us3 hl; rfl
  have F_cell_at := ZAs (st := ZBR) l_cell_at c_cell_at k_cell_at
  have b_cell_at := F_cell_at.binds (ps := ["_law_script", "_law_k"]) fun _ _ _ _ _ _ us hl => by obtain ⟨_, _, rfl⟩ := us2 hl; rfl
  have F_stream := ZAs (st := ZBj) l_stream c_stream k_stream
  have b_stream := F_stream.binds (ps := ["_law_seed", "_law_many"]) fun _ _ _ _ _ _ us hl => by obtain ⟨_, _, rfl⟩ := us2 hl; rfl
  have F_numbers := ZAs (st := ZBQ) l_numbers c_numbers k_numbers
  have b_numbers := F_numbers.binds (ps := ["_law_script"]) fun _ _ _ _ _ _ us hl => by obtain ⟨_, rfl⟩ := us1 hl; rfl
  have F_row := ZAs (st := ZDh) l_row c_row k_row
  have b_row := F_row.binds (ps := ["_law_numbers_here", "_law_kind"]) fun _ _ _ _ _ _ us hl => by obtain ⟨_, _, rfl⟩ := us2 hl; rfl
  have F_sides := ZAs (st := ZCE) l_sides c_sides k_sides
  have b_sides := F_sides.binds (ps := ["_law_order", "_law_numbers_here", "_law_kind", "_law_deal"]) fun _ _ _ _ _ _ us hl => by obtain ⟨_, _, _, _, rfl⟩ := us4 hl; rfl
  have F_blocks := ZAs (st := ZBl) l_blocks c_blocks k_blocks
  have b_blocks := F_blocks.binds (ps := ["_law_order", "_law_second"]) fun _ _ _ _ _ _ us hl => by obtain ⟨_, _, rfl⟩ := us2 hl; rfl
  have F_most := ZAs (st := ZCm) l_most c_most k_most
  have b_most := F_most.binds (ps := ["_law_sizes"]) fun _ _ _ _ _ _ us hl => by obtain ⟨_, rfl⟩ := us1 hl; rfl
  have F_leap := ZAs (st := ZCn) l_leap c_leap k_leap
  have b_leap := F_leap.binds (ps := ["asker", "order", "first", "place"]) fun _ _ _ _ _ _ us hl => by obtain ⟨_, _, _, _, rfl⟩ := us4 hl; rfl
  have F_joined := ZAs (st := ZBk) l_joined c_joined k_joined
  have b_joined := F_joined.binds (ps := ["asker", "left", "right"]) fun _ _ _ _ _ _ us hl => by obtain ⟨_, _, _, rfl⟩ := us3 hl; rfl
  have F_once := ZAs (st := ZCl) l_once c_once k_once
  have b_once := F_once.binds (ps := ["_law_found", "_law_many"]) fun _ _ _ _ _ _ us hl => by obtain ⟨_, _, rfl⟩ := us2 hl; rfl
  have F_bounded := ZAs (st := ZBS) l_bounded c_bounded k_bounded
  have b_bounded := F_bounded.binds (ps := ["_law_found", "_law_sides_here", "_law_asks"]) fun _ _ _ _ _ _ us hl => by obtain ⟨_, _, _, rfl⟩ := us3 hl; rfl
  have F_law := ZAs (st := ZC1) l_law c_law k_law
  have b_law := F_law.binds (ps := ["_law_script"]) fun _ _ _ _ _ _ us hl => by obtain ⟨_, rfl⟩ := us1 hl; rfl
  have F_any_teller := ZAs (st := ZAt) l_any_teller c_any_teller k_any_teller
  have b_any_teller := F_any_teller.binds (ps := ["_law_said", "_law_bits", "_law_kind"]) fun _ _ _ _ _ _ us hl => by obtain ⟨_, _, _, rfl⟩ := us3 hl; rfl
  have F_digit_teller := ZAs (st := ZAj) l_digit_teller c_digit_teller k_digit_teller
  have b_digit_teller := F_digit_teller.binds (ps := ["_law_said", "_law_digits", "_law_bits"]) fun _ _ _ _ _ _ us hl => by obtain ⟨_, _, _, rfl⟩ := us3 hl; rfl
  have T : Bt K mg C_Join C_Asker C_AskedRule := ⟨PySem.W.mg_none_of X G z_len, PySem.W.mg_none_of X G z_range, PySem.W.mg_none_of X G z_list, PySem.W.mg_none_of X G z_isinstance, PySem.W.mg_none_of X G z_bool, PySem.W.mg_none_of X G z_int, PySem.W.mg_none_of X G z_max, PySem.W.mg_none_of X G z_min, PySem.W.mg_none_of X G z_sorted, PySem.W.mg_none_of X G z_enumerate, PySem.W.mg_none_of X G z_ValueError, ⟨_, PySem.W.mg_of X G z_LEFT⟩, ⟨_, PySem.W.mg_of X G z_RIGHT⟩, ⟨_, PySem.W.mg_of X G z_WINS_TO_LEAP⟩, PySem.W.mg_of X G a_Join, cl_Join, n_Join_asker, n_Join_sides, n_Join_taken, n_Join_places, PySem.W.mg_of X G a_Asker, cl_Asker, n_Asker_row, n_Asker_rule, n_Asker_most, n_Asker_asked, n_Asker_told, PySem.W.mg_of X G a_AskedRule, cl_AskedRule, n_AskedRule_teller, kit_int_bool⟩
  refine ⟨[(cc_any_teller, Pt_any_teller), (cc_digit_teller, Pt_digit_teller)], W.fnOf "law" "law" (ZAO ZC1) (ZAN ZC1) (ZAB ZC1) .none kV_law dc_law pm_law an_law cd_law ct_law, nt, List.forall_mem_cons.mpr ⟨⟨"_law_any_teller", by simp, tabIn_of a_any_teller l_any_teller rfl lc_any_teller tp_any_teller⟩, List.forall_mem_cons.mpr ⟨⟨"_law_digit_teller", by simp, tabIn_of a_digit_teller l_digit_teller rfl lc_digit_teller tp_digit_teller⟩, fun _ h => nomatch h⟩⟩, fun s v => .of_eq rfl, fun base _ _ hC hB => ?_⟩
  have f_stream' : Fn l.prog w K mg base CX0 "_law_stream" 1 ["_law_seed", "_law_many"] (ZCS) := ⟨_, _, ok_stream F_stream T , b_stream, k_stream, PySem.W.mg_of X G a_stream⟩
  have f_cell_at' : Fn l.prog w K mg base CX0 "_law_cell_at" 1 ["_law_script", "_law_k"] (ZDX K) := ⟨_, _, ok_cell_at F_cell_at T , b_cell_at, k_cell_at, PySem.W.mg_of X G a_cell_at⟩
  have f_numbers' : Fn l.prog w K mg base CX0 "_law_numbers" 2 ["_law_script"] (ZCU K) := ⟨_, _, ok_numbers F_numbers T f_stream' f_cell_at', b_numbers, k_numbers, PySem.W.mg_of X G a_numbers⟩
  have f_row' : Fn l.prog w K mg base CX0 "_law_row" 1 ["_law_numbers_here", "_law_kind"] (ZEL) := ⟨_, _, ok_row F_row T , b_row, k_row, PySem.W.mg_of X G a_row⟩
  have f_sides' : Fn l.prog w K mg base CX0 "_law_sides" 1 ["_law_order", "_law_numbers_here", "_law_kind", "_law_deal"] (ZCT) := ⟨_, _, ok_sides F_sides T , b_sides, k_sides, PySem.W.mg_of X G a_sides⟩
  have f_any_teller' : Fn l.prog w K mg base CX0 "_law_any_teller" 1 ["_law_said", "_law_bits", "_law_kind"] (ZCV Pt_any_teller (ZCf ZAJ) "_law_tells" "_law_any_teller.<locals>._law_tells" (ZAO ZAJ) (ZAN ZAJ) (ZAB ZAJ) ["_law_said", "_law_kind", "_law_bits"] [0, 2, 1] 3) := ⟨_, _, ok_any_teller F_any_teller rfl (hC (cc_any_teller, Pt_any_teller) (by simp)) hB, b_any_teller, k_any_teller, PySem.W.mg_of X G a_any_teller⟩
  have t_Join_take_on' : Mt l.prog w K mg base CX0 C_Join "take_on" 1 ["self", "side", "more"] (ZB5 C_Join) := ⟨cl_Join, _, _, ok_Join_take_on F_Join_take_on T , b_Join_take_on, a_Join_take_on, i_Join_take_on, k_Join_take_on⟩
  have t_Join_take_rest' : Mt l.prog w K mg base CX0 C_Join "take_rest" 2 ["self", "side"] (ZCB C_Join) := ⟨cl_Join, _, _, ok_Join_take_rest F_Join_take_rest T t_Join_take_on', b_Join_take_rest, a_Join_take_rest, i_Join_take_rest, k_Join_take_rest⟩
  have t_Join_has_more' : Mt l.prog w K mg base CX0 C_Join "has_more" 1 ["self", "side"] (ZB6 C_Join) := ⟨cl_Join, _, _, ok_Join_has_more F_Join_has_more T , b_Join_has_more, a_Join_has_more, i_Join_has_more, k_Join_has_more⟩
  have clo_any_teller' : CloOk l.prog w K mg base 1 (rAny) := clo_any_teller T
  have clo_digit_teller' : CloOk l.prog w K mg base 1 (rDig) := clo_digit_teller T
  have t_AskedRule_before' : Mt l.prog w K mg base CX0 C_AskedRule "before" 2 ["self", "x", "y"] (ZCI C_AskedRule ZBI) := ⟨cl_AskedRule, _, _, ok_AskedRule_before F_AskedRule_before T clo_any_teller' clo_digit_teller', b_AskedRule_before, a_AskedRule_before, i_AskedRule_before, k_AskedRule_before⟩
  have t_Asker_ahead' : Mt l.prog w K mg base CX0 C_Asker "ahead" 3 ["self", "p", "q"] (ZCW C_Asker C_AskedRule ZBI) := ⟨cl_Asker, _, _, ok_Asker_ahead F_Asker_ahead T t_AskedRule_before', b_Asker_ahead, a_Asker_ahead, i_Asker_ahead, k_Asker_ahead⟩
  have t_Join_front' : Mt l.prog w K mg base CX0 C_Join "front" 1 ["self", "side"] (ZCy C_Join) := ⟨cl_Join, _, _, ok_Join_front F_Join_front T , b_Join_front, a_Join_front, i_Join_front, k_Join_front⟩
  have t_Join_win' : Mt l.prog w K mg base CX0 C_Join "win" 4 ["self"] (ZEK C_Asker C_AskedRule C_Join) := ⟨cl_Join, _, _, ok_Join_win F_Join_win T t_Join_take_on' t_Asker_ahead' t_Join_front', b_Join_win, a_Join_win, i_Join_win, k_Join_win⟩
  have f_leap' : Fn l.prog w K mg base CX0 "leap" 4 ["asker", "order", "first", "place"] (ZDs C_Asker C_AskedRule) := ⟨_, _, ok_leap F_leap T t_Asker_ahead', b_leap, k_leap, PySem.W.mg_of X G a_leap⟩
  have t_Join_leap_on' : Mt l.prog w K mg base CX0 C_Join "leap_on" 5 ["self", "side"] (ZCw C_Asker C_AskedRule C_Join) := ⟨cl_Join, _, _, ok_Join_leap_on F_Join_leap_on T f_leap' t_Join_take_on' t_Join_has_more' t_Join_front', b_Join_leap_on, a_Join_leap_on, i_Join_leap_on, k_Join_leap_on⟩
  have k_Join' : Kl l.prog w K mg base CX0 "Join" C_Join 1 ["self", "asker", "left", "right"] (ZDK C_Join) := ⟨PySem.W.mg_of X G a_Join, _, _, ok_Join_init F_Join_init T , b_Join_init, mk_Join, a_Join_init, i_Join_init, kc_Join⟩
  have f_joined' : Fn l.prog w K mg base CX0 "joined" 6 ["asker", "left", "right"] (ZCx C_Asker C_AskedRule) := ⟨_, _, ok_joined F_joined T t_Join_take_rest' t_Join_has_more' t_Join_win' t_Join_leap_on' k_Join', b_joined, k_joined, PySem.W.mg_of X G a_joined⟩
  have f_digit_teller' : Fn l.prog w K mg base CX0 "_law_digit_teller" 1 ["_law_said", "_law_digits", "_law_bits"] (ZCV Pt_digit_teller (ZCf ZAH) "_law_tells" "_law_digit_teller.<locals>._law_tells" (ZAO ZAH) (ZAN ZAH) (ZAB ZAH) ["_law_said", "_law_digits", "_law_bits"] [0, 1, 2] 3) := ⟨_, _, ok_digit_teller F_digit_teller rfl (hC (cc_digit_teller, Pt_digit_teller) (by simp)) hB, b_digit_teller, k_digit_teller, PySem.W.mg_of X G a_digit_teller⟩
  have f_once' : Fn l.prog w K mg base CX0 "_law_once" 1 ["_law_found", "_law_many"] (ZCu) := ⟨_, _, ok_once F_once T , b_once, k_once, PySem.W.mg_of X G a_once⟩
  have f_most' : Fn l.prog w K mg base CX0 "_law_most" 1 ["_law_sizes"] (ZCv) := ⟨_, _, ok_most F_most T , b_most, k_most, PySem.W.mg_of X G a_most⟩
  have f_blocks' : Fn l.prog w K mg base CX0 "_law_blocks" 1 ["_law_order", "_law_second"] (ZCD) := ⟨_, _, ok_blocks F_blocks T , b_blocks, k_blocks, PySem.W.mg_of X G a_blocks⟩
  have f_bounded' : Fn l.prog w K mg base CX0 "_law_bounded" 2 ["_law_found", "_law_sides_here", "_law_asks"] (ZBv) := ⟨_, _, ok_bounded F_bounded T f_most' f_blocks', b_bounded, k_bounded, PySem.W.mg_of X G a_bounded⟩
  have k_Asker_3' : KlD l.prog w K mg base CX0 "Asker" C_Asker 1 ["self", "row", "rule", "most"] (ZBw C_Asker) [.non] := ⟨PySem.W.mg_of X G a_Asker, _, _, _, ok_Asker_init F_Asker_init T , b_Asker_init_3, (.cons rfl .nil), mk_Asker, a_Asker_init, i_Asker_init, kc_Asker⟩
  have k_AskedRule' : Kl l.prog w K mg base CX0 "AskedRule" C_AskedRule 1 ["self", "teller"] (ZCC C_AskedRule) := ⟨PySem.W.mg_of X G a_AskedRule, _, _, ok_AskedRule_init F_AskedRule_init T , b_AskedRule_init, mk_AskedRule, a_AskedRule_init, i_AskedRule_init, kc_AskedRule⟩
  exact ok_law F_law T f_numbers' f_row' f_cell_at' f_sides' f_any_teller' f_joined' f_digit_teller' f_once' f_bounded' k_Asker_3' k_AskedRule' np
end Law
open PySem PySem.W PyProof.Rows
set_option maxRecDepth 100000 in
set_option maxHeartbeats 0 in
theorem PySem.Challenge.cw_sorthall_k44_whole_whatever_is_told_holds : PySem.Challenge.rw_sorthall_k44_whole_whatever_is_told.Holds := by
  refine L2.hd0 ?_
  k_fill
  refine L2.walk_ofT2 (l := PySem.Challenge.rw_sorthall_k44_whole_whatever_is_told) (k := 7) (x := "_law_script") (names := ["_law_any_teller", "_law_digit_teller"]) rfl rfl ⟨rfl, by decide, by decide⟩ (fun w h Y => PySem.W.km_in_of Y) (List.forall_mem_cons.mpr ⟨⟨_, rfl⟩, List.forall_mem_cons.mpr ⟨⟨_, rfl⟩, fun _ h => nomatch h⟩⟩) ?F
  case F =>
    intro w mg fa h KX G hmg
    refine' Law.all_mk KX G hmg ?a_Join ?pg_Join ?hd_Join ?po_Join ?sa_Join ?mk_Join ?kc_Join ?n_Join_asker ?n_Join_sides ?n_Join_taken ?n_Join_places ?a_Join_init ?i_Join_init ?l_Join_init ?c_Join_init ?k_Join_init ?a_Join_has_more ?i_Join_has_more ?l_Join_has_more ?c_Join_has_more ?k_Join_has_more ?a_Join_front ?i_Join_front ?l_Join_front ?c_Join_front ?k_Join_front ?a_Join_take_on ?i_Join_take_on ?l_Join_take_on ?c_Join_take_on ?k_Join_take_on ?a_Join_take_rest ?i_Join_take_rest ?l_Join_take_rest ?c_Join_take_rest ?k_Join_take_rest ?a_Join_win ?i_Join_win ?l_Join_win ?c_Join_win ?k_Join_win ?a_Join_leap_on ?i_Join_leap_on ?l_Join_leap_on ?c_Join_leap_on ?k_Join_leap_on ?a_Asker ?pg_Asker ?hd_Asker ?po_Asker ?sa_Asker ?mk_Asker ?kc_Asker ?n_Asker_row ?n_Asker_rule ?n_Asker_most ?n_Asker_asked ?n_Asker_told ?a_Asker_init ?i_Asker_init ?l_Asker_init ?c_Asker_init ?d_Asker_init ?k_Asker_init ?a_Asker_ahead ?i_Asker_ahead ?l_Asker_ahead ?c_Asker_ahead ?k_Asker_ahead ?a_AskedRule ?pg_AskedRule ?hd_AskedRule ?po_AskedRule ?sa_AskedRule ?mk_AskedRule ?kc_AskedRule ?n_AskedRule_teller ?a_AskedRule_init ?i_AskedRule_init ?l_AskedRule_init ?c_AskedRule_init ?k_AskedRule_init ?a_AskedRule_before ?i_AskedRule_before ?l_AskedRule_before ?c_AskedRule_before ?k_AskedRule_before ?a_cell_at ?l_cell_at ?c_cell_at ?k_cell_at ?a_stream ?l_stream ?c_stream ?k_stream ?a_numbers ?l_numbers ?c_numbers ?k_numbers ?a_row ?l_row ?c_row ?k_row ?a_sides ?l_sides ?c_sides ?k_sides ?a_blocks ?l_blocks ?c_blocks ?k_blocks ?a_most ?l_most ?c_most ?k_most ?a_leap ?l_leap ?c_leap ?k_leap ?a_joined ?l_joined ?c_joined ?k_joined ?a_once ?l_once ?c_once ?k_once ?a_bounded ?l_bounded ?c_bounded ?k_bounded ?a_law ?l_law ?c_law ?k_law ?a_any_teller ?l_any_teller ?c_any_teller ?lc_any_teller ?tp_any_teller ?k_any_teller ?a_digit_teller ?l_digit_teller ?c_digit_teller ?lc_digit_teller ?tp_digit_teller ?k_digit_teller ?z_LEFT ?z_RIGHT ?z_WINS_TO_LEAP ?z_len ?z_range ?z_list ?z_isinstance ?z_bool ?z_int ?z_max ?z_min ?z_sorted ?z_enumerate ?z_ValueError ?kit_int_bool ?nt ?np
    (case a_Join => k_is)
    (case pg_Join => k_is)
    (case hd_Join => k_is)
    (case po_Join => k_is)
    (case sa_Join => k_is)
    (case mk_Join => k_is)
    (case kc_Join => k_is)
    (case n_Join_asker => k_is)
    (case n_Join_sides => k_is)
    (case n_Join_taken => k_is)
    (case n_Join_places => k_is)
    (case a_Join_init => k_is)
    (case i_Join_init => k_is)
    (case l_Join_init => k_is)
    (case c_Join_init => k_is)
    (case k_Join_init => k_is)
    (case a_Join_has_more => k_is)
    (case i_Join_has_more => k_is)
    (case l_Join_has_more => k_is)
    (case c_Join_has_more => k_is)
    (case k_Join_has_more => k_is)
    (case a_Join_front => k_is)
    (case i_Join_front => k_is)
    (case l_Join_front => k_is)
    (case c_Join_front => k_is)
    (case k_Join_front => k_is)
    (case a_Join_take_on => k_is)
    (case i_Join_take_on => k_is)
    (case l_Join_take_on => k_is)
    (case c_Join_take_on => k_is)
    (case k_Join_take_on => k_is)
    (case a_Join_take_rest => k_is)
    (case i_Join_take_rest => k_is)
    (case l_Join_take_rest => k_is)
    (case c_Join_take_rest => k_is)
    (case k_Join_take_rest => k_is)
    (case a_Join_win => k_is)
    (case i_Join_win => k_is)
    (case l_Join_win => k_is)
    (case c_Join_win => k_is)
    (case k_Join_win => k_is)
    (case a_Join_leap_on => k_is)
    (case i_Join_leap_on => k_is)
    (case l_Join_leap_on => k_is)
    (case c_Join_leap_on => k_is)
    (case k_Join_leap_on => k_is)
    (case a_Asker => k_is)
    (case pg_Asker => k_is)
    (case hd_Asker => k_is)
    (case po_Asker => k_is)
    (case sa_Asker => k_is)
    (case mk_Asker => k_is)
    (case kc_Asker => k_is)
    (case n_Asker_row => k_is)
    (case n_Asker_rule => k_is)
    (case n_Asker_most => k_is)
    (case n_Asker_asked => k_is)
    (case n_Asker_told => k_is)
    (case a_Asker_init => k_is)
    (case i_Asker_init => k_is)
    (case l_Asker_init => k_is)
    (case c_Asker_init => k_is)
    (case d_Asker_init => k_is)
    (case k_Asker_init => k_is)
    (case a_Asker_ahead => k_is)
    (case i_Asker_ahead => k_is)
    (case l_Asker_ahead => k_is)
    (case c_Asker_ahead => k_is)
    (case k_Asker_ahead => k_is)
    (case a_AskedRule => k_is)
    (case pg_AskedRule => k_is)
    (case hd_AskedRule => k_is)
    (case po_AskedRule => k_is)
    (case sa_AskedRule => k_is)
    (case mk_AskedRule => k_is)
    (case kc_AskedRule => k_is)
    (case n_AskedRule_teller => k_is)
    (case a_AskedRule_init => k_is)
    (case i_AskedRule_init => k_is)
    (case l_AskedRule_init => k_is)
    (case c_AskedRule_init => k_is)
    (case k_AskedRule_init => k_is)
    (case a_AskedRule_before => k_is)
    (case i_AskedRule_before => k_is)
    (case l_AskedRule_before => k_is)
    (case c_AskedRule_before => k_is)
    (case k_AskedRule_before => k_is)
    (case a_cell_at => k_is)
    (case l_cell_at => k_is)
    (case c_cell_at => k_is)
    (case k_cell_at => k_is)
    (case a_stream => k_is)
    (case l_stream => k_is)
    (case c_stream => k_is)
    (case k_stream => k_is)
    (case a_numbers => k_is)
    (case l_numbers => k_is)
    (case c_numbers => k_is)
    (case k_numbers => k_is)
    (case a_row => k_is)
    (case l_row => k_is)
    (case c_row => k_is)
    (case k_row => k_is)
    (case a_sides => k_is)
    (case l_sides => k_is)
    (case c_sides => k_is)
    (case k_sides => k_is)
    (case a_blocks => k_is)
    (case l_blocks => k_is)
    (case c_blocks => k_is)
    (case k_blocks => k_is)
    (case a_most => k_is)
    (case l_most => k_is)
    (case c_most => k_is)
    (case k_most => k_is)
    (case a_leap => k_is)
    (case l_leap => k_is)
    (case c_leap => k_is)
    (case k_leap => k_is)
    (case a_joined => k_is)
    (case l_joined => k_is)
    (case c_joined => k_is)
    (case k_joined => k_is)
    (case a_once => k_is)
    (case l_once => k_is)
    (case c_once => k_is)
    (case k_once => k_is)
    (case a_bounded => k_is)
    (case l_bounded => k_is)
    (case c_bounded => k_is)
    (case k_bounded => k_is)
    (case a_law => k_is)
    (case l_law => k_is)
    (case c_law => k_is)
    (case k_law => k_is)
    (case a_any_teller => k_is)
    (case l_any_teller => k_is)
    (case c_any_teller => k_is)
    (case lc_any_teller => k_is)
    (case tp_any_teller => rfl)
    (case k_any_teller => k_is)
    (case a_digit_teller => k_is)
    (case l_digit_teller => k_is)
    (case c_digit_teller => k_is)
    (case lc_digit_teller => k_is)
    (case tp_digit_teller => rfl)
    (case k_digit_teller => k_is)
    (case z_LEFT => k_is)
    (case z_RIGHT => k_is)
    (case z_WINS_TO_LEAP => k_is)
    (case z_len => k_is)
    (case z_range => k_is)
    (case z_list => k_is)
    (case z_isinstance => k_is)
    (case z_bool => k_is)
    (case z_int => k_is)
    (case z_max => k_is)
    (case z_min => k_is)
    (case z_sorted => k_is)
    (case z_enumerate => k_is)
    (case z_ValueError => k_is)
    (case kit_int_bool => kit_is)
    (case nt => kernel_rfl)
    (case np => decide)
