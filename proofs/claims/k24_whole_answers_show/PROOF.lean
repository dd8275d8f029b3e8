import PyProof.Rows.All
import Wide.All
import OpenK.AllK
import Wide.FinOn
import Lean
import PyProof.EqAt
import PyProof.EqKinds
import PyProof.TupleCall
import KE.KRevIter
import PyProof.CollectIter
import PyProof.SumWalkG
import PyProof.Rows.SortRuns
import PyProof.Rows.SortShell
import KE.KDictOf
import PyProof.IsiH_list
import PyProof.RaisesAny
import PySem.Challenge.RW_sorthall_k24_whole_answers_show
set_option Elab.async false
set_option linter.all false
set_option maxRecDepth 100000
namespace L2
open PySem PySem.W
def vw (p : Program) (ix : List Nat) : Program := { p with main := { p.main with body := ix.filterMap fun i => p.main.body[i]? } }
def Vw : Program := vw PySem.Challenge.pw_sorthall_k24_whole_answers_show [1, 2, 4, 5, 6, 7, 8, 9, 10, 12, 13, 14, 15, 16, 17, 18, 19, 20, 21, 22, 23]
set_option hygiene false in
local macro_rules | `(tactic| o_head $H) => `(tactic| (refine holds_open (q := L2.Vw) (loose := []) (Xt := fun s => xlAt L2.Vw [] s && recOk (RowW.records _) s) (XP := XL L2.Vw []) (Yf := Hook.obs $H) (Ya := Hook.val $H) (YP := Hook.says $H) (N := 2172) ?hl (Hook.of $H) (Hook.keeps $H) (fun s e => xl_of s (Bool.and_eq_true_iff.mp e).1) XL.keeps (by rfl) (by rfl) (by rfl) (fun s e => recFacts_of (Bool.and_eq_true_iff.mp e).2) (by rfl) (by first | assumption | decide +kernel) (by decide +kernel) ⟨rfl, rfl, rfl, rfl, rfl, by decide +kernel⟩ ?hw ?hc; (case hl => (intro w; kernel_rfl))))
set_option maxHeartbeats 0 in
open_top hd0 for PySem.Challenge.rw_sorthall_k24_whole_answers_show
end L2

-- CHANGE: your row's module here, as the last of these rows
set_option Elab.async false
set_option linter.all false
set_option maxRecDepth 100000
namespace L2
open PySem PySem.Spec PyProof.Rows

/-- a key: an int or a str -/
abbrev Key := Sum Int Str
def keyIs : Key → Value → Bool
  | .inl k, v => Value.isInt k v
  | .inr x, v => Value.isStrOf x v
def keyH (w : World) : Key → Int
  | .inl k => hashInt k
  | .inr x => hashStr w x
theorem keyIs_shape : ∀ {k : Key} {v : Value}, keyIs k v = true → (∃ i t, k = Sum.inl i ∧ v = Value.int i t) ∨ (∃ x t, k = Sum.inr x ∧ v = Value.str x t)
  | .inl i, v, h => by
    obtain ⟨t, e⟩ := Value.isInt_shape (k := i) (v := v) h
    exact .inl ⟨i, t, rfl, e⟩
  | .inr x, v, h => by
    obtain ⟨t, e⟩ := Value.isStrOf_shape (x := x) (v := v) h
    exact .inr ⟨x, t, rfl, e⟩
theorem keyIs_int (i : Int) (t : Tok) : keyIs (.inl i) (.int i t) = true := by simp [keyIs, Value.isInt]
theorem keyIs_str (x : Str) (t : Tok) : keyIs (.inr x) (.str x t) = true := by simp [keyIs, Value.isStrOf]
theorem key_ll (a b : Int) : decide ((Sum.inl a : Key) = Sum.inl b) = (a == b) := by
  by_cases e : a = b
  · subst e; simp
  · have h : ¬ (Sum.inl a : Key) = Sum.inl b := fun q => e (Sum.inl.inj q)
    rw [decide_eq_false h]
    exact (beq_eq_false_iff_ne.mpr e).symm
theorem key_rr (a b : Str) : decide ((Sum.inr a : Key) = Sum.inr b) = decide (a = b) := by
  by_cases e : a = b
  · subst e; simp
  · have h : ¬ (Sum.inr a : Key) = Sum.inr b := fun q => e (Sum.inr.inj q)
    rw [decide_eq_false h, decide_eq_false e]
theorem key_lr (a : Int) (b : Str) : decide ((Sum.inl a : Key) = Sum.inr b) = false := decide_eq_false (fun q => nomatch q)
theorem key_rl (a : Str) (b : Int) : decide ((Sum.inr a : Key) = Sum.inl b) = false := decide_eq_false (fun q => nomatch q)

def mixKind (prog : Program) (w : World) : PySem.KeyKind prog w Key where
  is := keyIs
  hash := keyH w
  inj := fun v a b ha hb => by
    rcases keyIs_shape ha with ⟨i, t, rfl, rfl⟩ | ⟨x, t, rfl, rfl⟩
    · rcases keyIs_shape hb with ⟨j, u, rfl, e⟩ | ⟨y, u, rfl, e⟩
      · injection e with e1 _; rw [e1]
      · exact nomatch e
    · rcases keyIs_shape hb with ⟨j, u, rfl, e⟩ | ⟨y, u, rfl, e⟩
      · exact nomatch e
      · injection e with e1 _; rw [e1]
  byValue := fun k v h => by
    rcases keyIs_shape h with ⟨i, t, rfl, rfl⟩ | ⟨x, t, rfl, rfl⟩ <;> rfl
  pyHash := fun hv h => by
    rcases keyIs_shape hv with ⟨i, t, rfl, rfl⟩ | ⟨x, t, rfl, rfl⟩
    · exact wpAny_pyHash_int h
    · exact wpAny_pyHash_str h
  eqBool := fun hu hv h => by
    rcases keyIs_shape hu with ⟨i, t, rfl, rfl⟩ | ⟨x, t, rfl, rfl⟩
    · rcases keyIs_shape hv with ⟨j, u, rfl, rfl⟩ | ⟨y, u, rfl, rfl⟩
      · rw [key_ll] at h; exact wpAny_eqBool_int h
      · rw [key_lr] at h; exact SeqAt.EqAt.int_str i t y u _ _ _ _ h
    · rcases keyIs_shape hv with ⟨j, u, rfl, rfl⟩ | ⟨y, u, rfl, rfl⟩
      · rw [key_rl] at h; exact SeqAt.EqAt.str_int x t j u _ _ _ _ h
      · rw [key_rr] at h; exact wpAny_eqBool_str h
  «strs» := fun k x t v h => by
    rcases keyIs_shape h with ⟨i, u, rfl, e⟩ | ⟨y, u, rfl, e⟩
    · exact nomatch e
    · injection e with e1 _
      subst e1
      cases v <;> rfl

theorem mixKind_int (prog : Program) (w : World) (i : Int) (t : Tok) : (mixKind prog w).is (.inl i) (.int i t) = true := keyIs_int i t
theorem mixKind_str (prog : Program) (w : World) (x : Str) (t : Tok) : (mixKind prog w).is (.inr x) (.str x t) = true := keyIs_str x t
end L2

namespace L2
open PySem PySem.Spec PyProof.Rows

/-- a value, without the heap -/
inductive V where
  | non | bl (b : Bool) | int (i : Int) | str (x : Str) | byt (b : Array UInt8) | flt (b : UInt64) | ref (a : Addr) | ty (n : String)
  deriving DecidableEq

def RelV : V → Value → Prop
  | .non, u => u = Value.none
  | .bl b, u => u = Value.bool b
  | .int i, u => ∃ t, u = Value.int i t
  | .str x, u => ∃ t, u = Value.str x t
  | .byt b, u => ∃ t, u = Value.bytes b t
  | .flt b, u => ∃ t, u = Value.float b t
  | .ref a, u => u = Value.ref a
  | .ty n, u => u = Value.type n

abbrev Vals : List V → List Value → Prop := Paired RelV
theorem Vals.length {xs : List V} {us : List Value} (r : Vals xs us) : xs.length = us.length := Paired.length r
theorem Vals.get : ∀ {xs : List V} {us : List Value} {i : Nat} {x : V}, Vals xs us → xs[i]? = some x → ∃ u, us[i]? = some u ∧ RelV x u
  | _, _, _, _, .nil, e => by simp at e
  | _, _, 0, _, .cons r _, e => by simp at e; subst e; exact ⟨_, rfl, r⟩
  | _, _, i + 1, x, .cons _ t, e => by
    obtain ⟨u, h1, h2⟩ := Vals.get (i := i) (x := x) t (by simpa using e)
    exact ⟨u, by simpa using h1, h2⟩
theorem Vals.set {x : V} {u : Value} (r : RelV x u) : ∀ {xs : List V} {us : List Value} (i : Nat), Vals xs us → Vals (xs.set i x) (us.set i u)
  | _, _, _, .nil => .nil
  | _, _, 0, .cons _ t => .cons r t
  | _, _, i + 1, .cons q t => .cons q (Vals.set r i t)
theorem Vals.append : ∀ {xs ys : List V} {us ws : List Value}, Vals xs us → Vals ys ws → Vals (xs ++ ys) (us ++ ws)
  | _, _, _, _, .nil, s => s
  | _, _, _, _, .cons r t, s => .cons r (Vals.append t s)
theorem Vals.take : ∀ {xs : List V} {us : List Value} (n : Nat), Vals xs us → Vals (xs.take n) (us.take n)
  | _, _, 0, _ => .nil
  | _, _, _ + 1, .nil => .nil
  | _, _, n + 1, .cons r t => .cons r (Vals.take n t)
theorem Vals.drop : ∀ {xs : List V} {us : List Value} (n : Nat), Vals xs us → Vals (xs.drop n) (us.drop n)
  | _, _, 0, r => r
  | _, _, _ + 1, .nil => .nil
  | _, _, n + 1, .cons _ t => Vals.drop n t
def RelO : Option V → Option Value → Prop
  | some v, some u => RelV v u
  | none, none => True
  | _, _ => False
def KV {κ : Type} : List (κ × V) → List (κ × Value) → Prop := Paired fun (p : κ × V) (q : κ × Value) => p.1 = q.1 ∧ RelV p.2 q.2

/-- a key of a dict (00_mix): an int or a text -/
def kV : Key → V
  | .inl i => .int i
  | .inr x => .str x

/-- what stands at a tracked address -/
inductive HO where
  /-- a list -/
  | lst (xs : List V)
  /-- a tuple (never changes) -/
  | tup (xs : List V)
  /-- a dict whose keys are ints and texts; one whose keys are tuples of ints and texts (the empty one is both) -/
  | dK (kvs : List (Key × V)) | dT (kvs : List (List Key × V))
  /-- a set of ints: its members, its size -/
  | set (S : Int → Bool) (n : Nat)
  /-- an instance of the class at C, its dict at dx, its attributes -/
  | ins (C dx : Addr) (fs : List (Str × V))
  /-- the dict of the instance at x -/
  | own (x : Addr)
  /-- the dict of an exception -/
  | xd (fs : List (Str × V))
  /-- a bound method, f of x -/
  | met (f x : Addr)
  /-- a range object lo, lo + 1, .. below hi -/
  | rng (lo hi : Int)
  /-- a thing that is known to the object (the script; a dict while a loop walks it): read, never written while it is so -/
  | frz (o : Obj) (u : HO)
  /-- a code object's table -/
  | tbl (ps : Array Value)
  /-- any other thing, by what is true of its one object (a def of one's own: SetO a S n := HO.ext fun h => ..) -/
  | ext (φ : Heap → Prop)

abbrev Hp := Addr → Option HO
def upd (H : Hp) (a : Addr) (o : HO) : Hp := fun b => if b = a then some o else H b
theorem upd_same {H : Hp} {a : Addr} {o : HO} : upd H a o a = some o := by unfold upd; rw [if_pos rfl]
theorem upd_ne {H : Hp} {a b : Addr} {o : HO} (h : b ≠ a) : upd H a o b = H b := by unfold upd; rw [if_neg h]
theorem ne_of_none {H : Hp} {a b : Addr} {o : HO} (h : H a = some o) (h' : H b = none) : a ≠ b := by
  intro e; subst e; rw [h] at h'; cases h'

section
variable (P : Program) (w : World)
def ObjOk (H : Hp) (h : Heap) (a : Addr) : HO → Prop
  | .lst xs => xs.length ≤ sizeLine ∧ ∃ (its : List Value) (n : Nat), Vals xs its ∧ h.get? a = some { cls := .type "list", data := .seq its.toArray n }
  | .tup xs => xs.length ≤ sizeLine ∧ ∃ its : List Value, Vals xs its ∧ IsTup h a its.toArray
  | .dK kvs => kvs.length ≤ sizeLine ∧ (a == sysModules) = false ∧ ∃ vs, KV kvs vs ∧ h.DictOf (mixKind P w) a vs
  | .dT kvs => kvs.length ≤ sizeLine ∧ (a == sysModules) = false ∧ ∃ xs : List (List Key × Addr × Value),
      Paired (fun (p : List Key × V) (q : List Key × Addr × Value) => p.1 = q.1 ∧ H q.2.1 = some (.tup (p.1.map kV)) ∧ RelV p.2 q.2.2) kvs xs ∧
      ∃ o es ep, h.get? a = some o ∧ o.ExactDict ∧ o.data = .dict es ep ∧ es.toList = xs.map (entryOfKey (tupleKind (mixKind P w))) ∧ (xs.map (·.1)).Nodup
  | .set S n => h.SetOf (intKind P w) a S n
  | .ins C dx fs => H dx = some (.own a) ∧ fs.length ≤ 1000 ∧ dx ≠ a ∧ h.get? a = some (PySem.W.instObj C dx) ∧
      ∃ mA, h.Ns1 dx mA ∧ (∀ f, RelO (fs.lookup f) (mA f)) ∧ PySem.Within mA (fs.map (·.1))
  | .own _ => ∃ o, h.get? a = some o
  | .xd fs => ∃ mA, h.Ns1 a mA ∧ ∀ f, RelO (fs.lookup f) (mA f)
  | .rng lo hi => ∃ t u v, h.get? a = some { cls := .type "range", data := .fields #[.int lo t, .int hi u, .int 1 v] }
  | .frz o u => h.get? a = some o ∧ ObjOk H h a u
  | .tbl ps => h.get? a = some { cls := .none, data := .fields ps }
  | .met f x => h.get? a = some (PySem.W.methodObj (.ref f) (.ref x))
  | .ext φ => φ h ∧ (∃ o, h.get? a = some o) ∧ ∀ h1 h2 : Heap, φ h1 → (∀ o, h1.get? a = some o → h2.get? a = some o) → φ h2
/-- the abstract heap is held -/
def HOk (H : Hp) (h : Heap) : Prop := ∀ a o, H a = some o → ObjOk P w H h a o
end

section
variable {P : Program} {w : World} {H H' : Hp} {h h' : Heap} {a : Addr} {o : HO}
theorem ObjOk.lt (x : ObjOk P w H h a o) : a < h.objs.size := by
  cases o with
  | lst xs => obtain ⟨_, _, _, _, e⟩ := x; exact Heap.lt_size e
  | tup xs => obtain ⟨_, _, _, p⟩ := x; exact p.lt
  | dK kvs => obtain ⟨_, _, _, _, o, _, _, e, _⟩ := x; exact Heap.lt_size e
  | dT kvs => obtain ⟨_, _, _, _, o, _, _, e, _⟩ := x; exact Heap.lt_size e
  | set S n => obtain ⟨o, _, _, _, e, _⟩ := x; exact Heap.lt_size e
  | ins C dx fs => obtain ⟨_, _, _, e, _⟩ := x; exact Heap.lt_size e
  | own y => obtain ⟨_, e⟩ := x; exact Heap.lt_size e
  | xd fs => obtain ⟨_, ⟨_, _, _, e, _⟩, _⟩ := x; exact Heap.lt_size e
  | rng lo hi => obtain ⟨_, _, _, e⟩ := x; exact Heap.lt_size e
  | frz ob u => obtain ⟨e, _⟩ := x; exact Heap.lt_size e
  | tbl ps => exact Heap.lt_size (show h.get? a = some _ from x)
  | met f y => exact Heap.lt_size (show h.get? a = some _ from x)
  | ext φ => obtain ⟨_, ⟨_, e⟩, _⟩ := x; exact Heap.lt_size e
theorem Paired.mapP {α β : Type} {F G : α → β → Prop} : ∀ {l₁ : List α} {l₂ : List β}, Paired F l₁ l₂ → (∀ a b, F a b → G a b) → Paired G l₁ l₂
  | _, _, .nil, _ => .nil
  | _, _, .cons r t, f => .cons (f _ _ r) (Paired.mapP t f)
/-- what an object's description leans on: its own object, its own dict, the tuples -/
theorem ObjOk.stay (x : ObjOk P w H h a o) (k : ∀ b u, (b = a ∨ H b = some (.own a)) → h.get? b = some u → h'.get? b = some u)
    (ho : ∀ b, H b = some (.own a) → H' b = some (.own a)) (ht : ∀ b xs, H b = some (.tup xs) → H' b = some (.tup xs)) : ObjOk P w H' h' a o := by
  induction o with
  | lst xs => obtain ⟨z, its, n, r, e⟩ := x; exact ⟨z, its, n, r, k _ _ (.inl rfl) e⟩
  | tup xs => obtain ⟨z, its, r, ob, e, c⟩ := x; exact ⟨z, its, r, ob, k _ _ (.inl rfl) e, c⟩
  | dK kvs => obtain ⟨z, y, vs, r, ob, es, ep, e, c⟩ := x; exact ⟨z, y, vs, r, ob, es, ep, k _ _ (.inl rfl) e, c⟩
  | dT kvs =>
    obtain ⟨z, y, xs, r, ob, es, ep, e, c⟩ := x
    exact ⟨z, y, xs, Paired.mapP r fun p q z => ⟨z.1, ht _ _ z.2.1, z.2.2⟩, ob, es, ep, k _ _ (.inl rfl) e, c⟩
  | set S n => obtain ⟨ob, es, ep, t, e, c⟩ := x; exact ⟨ob, es, ep, t, k _ _ (.inl rfl) e, c⟩
  | ins C dx fs =>
    obtain ⟨d, z, ne, e, mA, ⟨od, es, ep, e2, c⟩, r⟩ := x
    exact ⟨ho _ d, z, ne, k _ _ (.inl rfl) e, mA, ⟨od, es, ep, k _ _ (.inr d) e2, c⟩, r⟩
  | own y => obtain ⟨ob, e⟩ := x; exact ⟨ob, k _ _ (.inl rfl) e⟩
  | xd fs => obtain ⟨mA, ⟨od, es, ep, e, c⟩, r⟩ := x; exact ⟨mA, ⟨od, es, ep, k _ _ (.inl rfl) e, c⟩, r⟩
  | rng lo hi => obtain ⟨t, u, v, e⟩ := x; exact ⟨t, u, v, k _ _ (.inl rfl) e⟩
  | frz ob u ih => obtain ⟨e, q⟩ := x; exact ⟨k _ _ (.inl rfl) e, ih q⟩
  | tbl ps =>
    have e : h.get? a = some { cls := .none, data := .fields ps } := x
    show h'.get? a = some { cls := .none, data := .fields ps }
    exact k a _ (.inl rfl) e
  | met f y =>
    have e : h.get? a = some (PySem.W.methodObj (.ref f) (.ref y)) := x
    show h'.get? a = some (PySem.W.methodObj (.ref f) (.ref y))
    exact k a _ (.inl rfl) e
  | ext φ => obtain ⟨p, ⟨o, e⟩, st⟩ := x; exact ⟨st _ _ p fun o q => k _ _ (.inl rfl) q, ⟨o, k _ _ (.inl rfl) e⟩, st⟩
theorem HOk.lt (x : HOk P w H h) (e : H a = some o) : a < h.objs.size := (x a o e).lt
theorem HOk.fresh (x : HOk P w H h) (e : h.objs.size ≤ a) : H a = none := by
  cases q : H a with
  | none => rfl
  | some u => exact absurd (Nat.lt_of_lt_of_le (x.lt q) e) (Nat.lt_irrefl _)
/-- every object of the heap is kept -/
theorem HOk.kept (x : HOk P w H h) (k : ∀ b u, h.get? b = some u → h'.get? b = some u) : HOk P w H h' := fun a o e =>
  (x a o e).stay (fun b u _ q => k b u q) (fun _ q => q) fun _ _ q => q
/-- a new object is laid and tracked -/
theorem HOk.laid (x : HOk P w H h) (k : ∀ b u, h.get? b = some u → h'.get? b = some u) (hp : h.objs.size ≤ a) (new : ObjOk P w (upd H a o) h' a o) : HOk P w (upd H a o) h' := fun b u e => by
  have hn := x.fresh hp
  by_cases hb : b = a
  · subst hb; rw [upd_same] at e; cases e; exact new
  · rw [upd_ne hb] at e
    exact (x b u e).stay (fun c v _ q => k c v q) (fun c q => by rw [upd_ne (ne_of_none q hn)]; exact q) fun c xs q => by rw [upd_ne (ne_of_none q hn)]; exact q
end

/-- what may be read as u: it is u, or a known u -/
def Rd (H : Hp) (a : Addr) (u : HO) : Prop := H a = some u ∨ ∃ o, H a = some (.frz o u)
theorem Rd.ok {P : Program} {w : World} {H : Hp} {h : Heap} {a : Addr} {u : HO} (r : Rd H a u) (x : HOk P w H h) : ObjOk P w H h a u := by
  rcases r with r | ⟨o, r⟩
  · exact x a u r
  · obtain ⟨_, q⟩ := x a _ r
    exact q
/-- what may be written -/
def Mut : Option HO → Prop
  | some (.lst _) => True
  | some (.dK _) => True
  | some (.dT _) => True
  | some (.set _ _) => True
  | some (.ins _ _ _) => True
  | some (.ext _) => True
  | _ => False
section
variable {P : Program} {w : World} {H : Hp} {h h' : Heap} {x e : Addr} {o' : HO}
/-- the object at e is changed: x itself, or the dict of the instance x -/
theorem HOk.write (ok : HOk P w H h) (mu : Mut (H x)) (he : e = x ∨ H e = some (.own x)) (k : ∀ b u, b ≠ e → h.get? b = some u → h'.get? b = some u) (heo : ∃ u, h'.get? e = some u)
    (new : ObjOk P w (upd H x o') h' x o') : HOk P w (upd H x o') h' := fun b u q => by
  have nown : ∀ c y, H c = some (.own y) → c ≠ x := fun c y r z => by subst z; rw [r] at mu; exact mu
  have ntup : ∀ c xs, H c = some (.tup xs) → c ≠ x := fun c xs r z => by subst z; rw [r] at mu; exact mu
  by_cases hb : b = x
  · subst hb; rw [upd_same] at q; cases q; exact new
  · rw [upd_ne hb] at q
    by_cases hbe : b = e
    · have q' : H b = some (.own x) := by
        rcases he with z | z
        · exact absurd (hbe.trans z) hb
        · rw [hbe]; exact z
      rw [q] at q'; cases q'
      obtain ⟨v, hv⟩ := heo
      exact ⟨v, by rw [hbe]; exact hv⟩
    · refine (ok b u q).stay (fun c v hc r => k c v ?_ r) (fun c r => by rw [upd_ne (nown c b r)]; exact r) fun c xs r => by rw [upd_ne (ntup c xs r)]; exact r
      rcases hc with rfl | hc
      · exact hbe
      · rintro rfl
        rcases he with z | z
        · exact nown c b hc z
        · rw [hc] at z; cases z; exact hb rfl
end

structure Un (fs ex : List Addr) (H H' : Hp) (h h' : Heap) : Prop where
  keep : ∀ b o, h.get? b = some o → H b = none → b ∉ fs → b ∉ ex → h'.get? b = some o
  slot : ∀ b o, h.get? b = some o → H b = none → b ∈ fs → b ∉ ex → ∃ sl, h'.get? b = some { o with slots := sl }
  free : ∀ b o, h.get? b = some o → H b = none → b ∉ ex → H' b = none
  there : ∀ b o, h.get? b = some o → b ∉ ex → ∃ o', h'.get? b = some o'
  tups : ∀ b xs, H b = some (.tup xs) → H' b = some (.tup xs)
  frzs : ∀ b o u, H b = some (.frz o u) → H' b = some (.frz o u)
  tbls : ∀ b ps, H b = some (.tbl ps) → ∃ more, H' b = some (.tbl (ps ++ more))
section
variable {fs fs' ex ex' : List Addr} {H H1 H2 : Hp} {h h1 h2 h' : Heap} {a x e : Addr} {o : HO}
theorem Un.any (u : Un fs ex H H1 h h1) {b : Addr} {ob : Obj} (q : h.get? b = some ob) (n : H b = none) (hx : b ∉ ex) : ∃ sl, h1.get? b = some { ob with slots := sl } := by
  by_cases hb : b ∈ fs
  · exact u.slot b ob q n hb hx
  · exact ⟨ob.slots, u.keep b ob q n hb hx⟩
theorem Un.kept (k : ∀ b u, h.get? b = some u → h'.get? b = some u) : Un fs ex H H h h' :=
  ⟨fun b ob q _ _ _ => k b ob q, fun b ob q _ _ _ => ⟨ob.slots, k b ob q⟩, fun _ _ _ n _ => n, fun b ob q _ => ⟨ob, k b ob q⟩, fun _ _ q => q, fun _ _ _ q => q, fun _ ps q => ⟨#[], by rw [q]; simp⟩⟩
theorem Un.refl : Un fs ex H H h h := Un.kept fun _ _ q => q
theorem Un.laid (k : ∀ b u, h.get? b = some u → h'.get? b = some u) (hp : h.objs.size ≤ a) (hn : H a = none) : Un fs ex H (upd H a o) h h' where
  keep := fun b u q _ _ _ => k b u q
  slot := fun b u q _ _ _ => ⟨u.slots, k b u q⟩
  free := fun b u q n _ => by rw [upd_ne (Nat.ne_of_lt (Nat.lt_of_lt_of_le (Heap.lt_size q) hp))]; exact n
  there := fun b u q _ => ⟨u, k b u q⟩
  tups := fun b xs q => by rw [upd_ne (ne_of_none q hn)]; exact q
  frzs := fun b u xs q => by rw [upd_ne (ne_of_none q hn)]; exact q
  tbls := fun b ps q => ⟨#[], by rw [upd_ne (ne_of_none q hn), q]; simp⟩
theorem Un.write (mu : Mut (H x)) (he : e = x ∨ H e = some (.own x)) (k : ∀ b u, b ≠ e → h.get? b = some u → h'.get? b = some u) (heo : ∃ u, h'.get? e = some u) : Un fs ex H (upd H x o) h h' := by
  have hx : ∀ b, H b = none → b ≠ x := fun b n z => by subst z; rw [n] at mu; exact mu
  have hb : ∀ b, H b = none → b ≠ e := fun b n z => by
    subst z
    rcases he with r | r
    · exact hx b n r
    · rw [n] at r; cases r
  have hm : ∀ b u, H b = some u → ¬ Mut (some u) → b ≠ x := fun b u q nm z => by subst z; rw [q] at mu; exact nm mu
  refine ⟨fun b u q n _ _ => k b u (hb b n) q, fun b u q n _ _ => ⟨u.slots, k b u (hb b n) q⟩, fun b u q n _ => by rw [upd_ne (hx b n)]; exact n, fun b u q _ => ?_,
    fun b xs q => by rw [upd_ne (hm b _ q fun z => z)]; exact q, fun b u xs q => by rw [upd_ne (hm b _ q fun z => z)]; exact q, fun b ps q => ⟨#[], by rw [upd_ne (hm b _ q fun z => z), q]; simp⟩⟩
  by_cases hbe : b = e
  · subst hbe; exact heo
  · exact ⟨u, k b u hbe q⟩
end

def trk (h : Heap) (H : Hp) : List Addr := (List.range h.objs.size).filter fun a => (H a).isSome
def hidT (h : Heap) (H : Hp) : Heap := PySem.W.hideAll h (trk h H)
theorem hidT_size (h : Heap) (H : Hp) : (hidT h H).objs.size = h.objs.size := PySem.W.hideAll_size _ _
theorem hidT_get {h : Heap} {H : Hp} {b : Addr} {o : Obj} (e : h.get? b = some o) (n : H b = none) : (hidT h H).get? b = some o :=
  PySem.W.hideAll_get _ e fun hm => by
    have q : (H b).isSome = true := (List.mem_filter.mp hm).2
    rw [n] at q; simp at q
theorem of_hidT {h : Heap} {H : Hp} {b : Addr} {o : Obj} (e : (hidT h H).get? b = some o) : h.get? b = some o ∧ H b = none := by
  have e' : h.get? b = some o := PySem.W.of_hideAll (trk h H) e
  refine ⟨e', ?_⟩
  cases q : H b with
  | none => rfl
  | some x =>
    have hm : b ∈ trk h H := List.mem_filter.mpr ⟨List.mem_range.mpr (Heap.lt_size e'), by simp [q]⟩
    have z : (hidT h H).get? b = none := PySem.W.hideAll_none (trk h H) hm
    rw [z] at e; cases e

end L2

namespace L2
open PySem PySem.Spec PyProof.Rows

/-- the module's facts, over the base: the heap at the law's entry without what is tracked there -/
structure Mod (K : PySem.W.Frag) (mg : Str → Option Value) (base : Heap) : Prop where
  kin : K.In base
  glob : base.Ns mainGlobals mg
  blt : ∃ mb, base.Ns builtinsNs mb ∧ ∀ x : Str, x ≠ "__name__" → mb x = bootBuiltins x
  nolimit : base.NoLimit

/-- the context: a def's body (or a comprehension's block) running. base: fixed through the whole law; s₀, H₀: the entry; outer: the frames whose slots others may change (a def's callers); stack: all frames that run;
   ex: iterators that were made ahead of the entry and are walked here (a comprehension's); fn: the names whose cells were made at the entry (a def: all; a comprehension's block: its own); calm: not within an except suite; pn: pins that every state bears; xe: what is wanted of an exception that leaves the code -/
structure Cx where
  prog : Program
  w : World
  K : PySem.W.Frag
  mg : Str → Option Value
  base : Heap
  A : Around
  N : List Str
  s₀ : Shared
  H₀ : Hp
  env : Env
  outer : List Env
  stack : List Env
  ex : List Addr
  fn : Str → Bool
  calm : Bool
  pn : List (Addr × Obj)
  xe : Value → Shared → Prop
/-- the callers' frames -/
def frs (l : List Env) : List Addr := l.filterMap (·.frame)
abbrev Cx.fs (X : Cx) : List Addr := frs X.outer

def Vis (sc : Scope) (x : Str) : Prop := sc.names.lookup x = some .local ∨ sc.names.lookup x = some .cell ∨ sc.names.lookup x = some .free
def Loc (sc : Scope) (x : Str) : Prop := sc.names.lookup x = some .local ∨ sc.names.lookup x = some .cell
def Look (env : Env) (h : Heap) (m : Str → Option Value) (x : Str) (u : Value) : Prop :=
  (env.kindOf x = some .local ∧ m x = some u) ∨ ((env.kindOf x = some .cell ∨ env.kindOf x = some .free) ∧ ∃ c, env.cells.lookup x = some c ∧ h.IsCell c (some u))

structure Cx.Ok (X : Cx) : Prop where
  mod : Mod X.K X.mg X.base
  kind : X.env.scope.kind = .function
  glob : X.env.globals = mainGlobals
  blt : X.env.builtins = builtinsNs
  above : X.s₀.heap.objs.size ≤ X.env.locals
  inj : ∀ x y c, X.env.cells.lookup x = some c → X.env.cells.lookup y = some c → x = y
  has : ∀ x, (X.env.kindOf x = some .cell ∨ X.env.kindOf x = some .free) → ∃ c, X.env.cells.lookup x = some c
  cab : ∀ x c, X.fn x = true → X.env.cells.lookup x = some c → X.s₀.heap.objs.size ≤ c
  hd : X.calm = true → X.A.handled = none
  frames : X.A.frames = some X.stack
  stk : X.stack = X.outer ∨ (X.stack = X.env :: X.outer ∧ X.env.frame = some X.env.locals)
  exf : ∀ b ∈ X.ex, b ≠ X.env.locals ∧ ∀ x c, X.env.cells.lookup x = some c → c ≠ b
  bs : ∀ b o, X.base.get? b = some o → X.s₀.heap.get? b = some o ∧ X.H₀ b = none
  bsz : X.base.objs.size ≤ X.s₀.heap.objs.size
  noex : ∀ b o, X.base.get? b = some o → b ∉ X.ex
  exfs : ∀ b ∈ X.ex, b ∉ X.fs
  funs : X.s₀.heap.FunFrames X.base X.outer
  frf : ∀ b ∈ X.fs, X.H₀ b = none

structure Inv (X : Cx) (pins : List (Addr × Obj)) (σ : List (Option V)) (H : Hp) (s : Shared) : Prop where
  ok : X.Ok
  os : s.os = X.s₀.os
  bare : AllBare s.gens
  base : Un X.fs X.ex X.H₀ H X.s₀.heap s.heap
  loc : ∃ m, s.heap.Ns X.env.locals m ∧ ∀ (i : Nat) (x : Str) (v : V), X.N[i]? = some x → σ[i]? = some (some v) → Vis X.env.scope x → ∃ u, RelV v u ∧ Look X.env s.heap m x u
  cell : ∀ x c, X.env.cells.lookup x = some c → ∃ v, s.heap.IsCell c v
  free : H X.env.locals = none
  freeC : ∀ x c, X.env.cells.lookup x = some c → H c = none
  pin : ∀ p ∈ X.pn ++ pins, s.heap.get? p.1 = some p.2 ∧ H p.1 = none ∧ p.1 ≠ X.env.locals ∧ p.1 ∉ X.fs ∧ ∀ v, p.2.data ≠ .cell v
  hok : HOk X.prog X.w H s.heap
  len : σ.length = X.N.length

section
variable {X : Cx} {pins : List (Addr × Obj)} {σ : List (Option V)} {H H' : Hp} {s : Shared} {h' : Heap}

theorem Cx.Ok.nofr (ok : X.Ok) {b : Addr} {o : Obj} (e : X.base.get? b = some o) : b ∉ X.fs := fun hb => by
  have := (ok.funs.mem hb).1
  rw [e] at this; cases this
theorem Inv.bs (I : Inv X pins σ H s) : ∀ b o, X.base.get? b = some o → s.heap.get? b = some o ∧ H b = none := fun b o e =>
  ⟨I.base.keep b o (I.ok.bs b o e).1 (I.ok.bs b o e).2 (I.ok.nofr e) (I.ok.noex b o e), I.base.free b o (I.ok.bs b o e).1 (I.ok.bs b o e).2 (I.ok.noex b o e)⟩
theorem Inv.bk (I : Inv X pins σ H s) : ∀ b o, X.base.get? b = some o → s.heap.get? b = some o := fun b o e => (I.bs b o e).1
theorem Inv.mod (I : Inv X pins σ H s) : Mod X.K X.mg X.base := I.ok.mod
theorem Inv.kIn (I : Inv X pins σ H s) : X.K.In s.heap := I.ok.mod.kin.keeps I.bk
theorem Inv.lt (I : Inv X pins σ H s) : X.env.locals < s.heap.objs.size := let ⟨_, hn, _⟩ := I.loc; hn.lt
theorem Inv.sz (I : Inv X pins σ H s) : X.s₀.heap.objs.size ≤ s.heap.objs.size := Nat.le_trans I.ok.above (Nat.le_of_lt I.lt)
theorem Inv.nofs (I : Inv X pins σ H s) {a : Addr} (h : s.heap.objs.size ≤ a) : a ∉ X.fs := fun hb => by
  obtain ⟨_, o, ho, _⟩ := I.ok.funs.mem hb
  exact absurd (Nat.lt_of_lt_of_le (Heap.lt_size ho) (Nat.le_trans I.sz h)) (Nat.lt_irrefl _)
theorem Inv.cne (I : Inv X pins σ H s) : ∀ x c, X.env.cells.lookup x = some c → c ≠ X.env.locals := fun x c e z => by
  obtain ⟨v, o, ho, hd⟩ := I.cell x c e
  obtain ⟨m, ⟨o', es, ep, ho', hd', _⟩, _⟩ := I.loc
  rw [z, ho'] at ho; cases ho; rw [hd'] at hd; cases hd
theorem Inv.funs (I : Inv X pins σ H s) : s.heap.FunFrames X.base X.outer := by
  have all : ∀ (l : List Env), (∀ b ∈ frs l, b ∈ X.fs) → X.s₀.heap.FunFrames X.base l → s.heap.FunFrames X.base l := by
    intro l
    induction l with
    | nil => intro _ _; trivial
    | cons env r ih =>
      intro hs hl
      obtain ⟨hk, ⟨L, o, hf, hn, ho, hd⟩, hr⟩ := hl
      have hL : L ∈ X.fs := hs L (by unfold frs; rw [List.filterMap_cons, hf]; exact List.mem_cons_self)
      obtain ⟨sl, e⟩ := I.base.slot L o ho (I.ok.frf L hL) hL fun z => I.ok.exfs L z hL
      exact ⟨hk, ⟨L, _, hf, hn, e, hd⟩, ih (fun b hb => hs b (by unfold frs; rw [List.filterMap_cons, hf]; exact List.mem_cons_of_mem _ hb)) hr⟩
  exact all X.outer (fun _ hb => hb) I.ok.funs

/-- the frames that run, for a call -/
theorem Inv.stack (I : Inv X pins σ H s) : s.heap.FunFrames X.base X.stack := by
  rcases I.ok.stk with e | ⟨e, hf⟩
  · rw [e]; exact I.funs
  · rw [e]
    obtain ⟨m, hn, _⟩ := I.loc
    refine .cons (by rw [I.ok.kind]; decide) hf hn ?_ I.funs
    exact Heap.get?_none_of_le (Nat.le_trans I.ok.bsz I.ok.above)
theorem Inv.stkSub (I : Inv X pins σ H s) : ∀ b ∈ frs X.stack, b ∈ X.env.locals :: X.fs := fun b hb => by
  rcases I.ok.stk with e | ⟨e, hf⟩
  · rw [e] at hb; exact List.mem_cons_of_mem _ hb
  · rw [e] at hb
    unfold frs at hb
    rw [List.filterMap_cons, hf] at hb
    exact hb
theorem Inv.stkFree (I : Inv X pins σ H s) : ∀ b ∈ frs X.stack, H b = none := fun b hb => by
  rcases List.mem_cons.mp (I.stkSub b hb) with e | hb
  · rw [e]; exact I.free
  · obtain ⟨_, o, ho, _⟩ := I.ok.funs.mem hb
    exact I.base.free b o ho (I.ok.frf b hb) fun z => I.ok.exfs b z hb

/-- THE STEP: the untracked objects but the frame and the records at ch are kept (the callers' frames up to slots), the frame's map is kept, the new abstract heap is held -/
theorem Inv.step {g' : Array GenState} {t' : Nat} {d' : Drawn} {ch : List Addr} (I : Inv X pins σ H s)
    (hch : ∀ b ∈ ch, (b ∈ X.ex ∨ X.s₀.heap.objs.size ≤ b) ∧ b ≠ X.env.locals ∧ (∀ x c, X.env.cells.lookup x = some c → c ≠ b) ∧ ∀ p ∈ X.pn ++ pins, p.1 ≠ b)
    (keep : ∀ b o, b ≠ X.env.locals → b ∉ X.fs → b ∉ ch → s.heap.get? b = some o → H b = none → h'.get? b = some o)
    (slot : ∀ b o, b ≠ X.env.locals → b ∈ X.fs → b ∉ ch → s.heap.get? b = some o → H b = none → ∃ sl, h'.get? b = some { o with slots := sl }) (free : ∀ b o, b ∉ ch → s.heap.get? b = some o → H b = none → H' b = none)
    (there : ∀ b o, b ∉ ch → s.heap.get? b = some o → ∃ o', h'.get? b = some o')
    (tups : ∀ b xs, H b = some (.tup xs) → H' b = some (.tup xs)) (frzs : ∀ b o u, H b = some (.frz o u) → H' b = some (.frz o u)) (tbls : ∀ b ps, H b = some (.tbl ps) → ∃ more, H' b = some (.tbl (ps ++ more)))
    (ns : ∀ m, s.heap.Ns X.env.locals m → h'.Ns X.env.locals m) (hok : HOk X.prog X.w H' h') (hg : AllBare g') :
    Inv X pins σ H' { s with heap := h', gens := g', drawn := d', toks := t' } := by
  have neL : ∀ b o, X.s₀.heap.get? b = some o → b ≠ X.env.locals := fun b o e => Nat.ne_of_lt (Nat.lt_of_lt_of_le (Heap.lt_size e) I.ok.above)
  have neC : ∀ b o, X.s₀.heap.get? b = some o → b ∉ X.ex → b ∉ ch := fun b o e hx hb => by
    rcases (hch b hb).1 with z | z
    · exact hx z
    · exact absurd (Nat.lt_of_lt_of_le (Heap.lt_size e) z) (Nat.lt_irrefl _)
  have cellK : ∀ x c, X.env.cells.lookup x = some c → ∀ v, s.heap.IsCell c v → h'.IsCell c v := fun x c e v ⟨o, ho, hd⟩ => by
    have nch : c ∉ ch := fun z => (hch c z).2.2.1 x c e rfl
    by_cases hc : c ∈ X.fs
    · obtain ⟨sl, q⟩ := slot c o (I.cne x c e) hc nch ho (I.freeC x c e)
      exact ⟨_, q, hd⟩
    · exact ⟨o, keep c o (I.cne x c e) hc nch ho (I.freeC x c e), hd⟩
  refine ⟨I.ok, I.os, hg, ⟨fun b o e n hb hx => ?_, fun b o e n hb hx => ?_, fun b o e n hx => ?_, fun b o e hx => ?_, fun b xs e => tups b xs (I.base.tups b xs e), fun b o xs e => frzs b o xs (I.base.frzs b o xs e), fun b ps e => ?_⟩, ?_, fun x c e => ?_, ?_, fun x c e => ?_, fun p hp => ?_, hok, I.len⟩
  · exact keep b o (neL b o e) hb (neC b o e hx) (I.base.keep b o e n hb hx) (I.base.free b o e n hx)
  · obtain ⟨sl, e1⟩ := I.base.slot b o e n hb hx
    obtain ⟨sl', e2⟩ := slot b _ (neL b o e) hb (neC b o e hx) e1 (I.base.free b o e n hx)
    exact ⟨sl', e2⟩
  · obtain ⟨o', e1⟩ := I.base.there b o e hx
    exact free b o' (neC b o e hx) e1 (I.base.free b o e n hx)
  · obtain ⟨o', e1⟩ := I.base.there b o e hx
    exact there b o' (neC b o e hx) e1
  · obtain ⟨m1, e1⟩ := I.base.tbls b ps e
    obtain ⟨m2, e2⟩ := tbls b _ e1
    exact ⟨m1 ++ m2, by rw [e2, Array.append_assoc]⟩
  · obtain ⟨m, hn, hl⟩ := I.loc
    refine ⟨m, ns m hn, fun i x v e1 e2 e3 => ?_⟩
    obtain ⟨u, r, l⟩ := hl i x v e1 e2 e3
    refine ⟨u, r, ?_⟩
    rcases l with l | ⟨k, c, e, z⟩
    · exact .inl l
    · exact .inr ⟨k, c, e, cellK x c e _ z⟩
  · obtain ⟨v, z⟩ := I.cell x c e
    exact ⟨v, cellK x c e v z⟩
  · obtain ⟨m, ⟨o, _, _, ho, _⟩, _⟩ := I.loc
    exact free _ o (fun z => (hch _ z).2.1 rfl) ho I.free
  · obtain ⟨v, o, ho, hd⟩ := I.cell x c e
    exact free c o (fun z => (hch c z).2.2.1 x c e rfl) ho (I.freeC x c e)
  · obtain ⟨e, n, ne, nf, d⟩ := I.pin p hp
    have nch : p.1 ∉ ch := fun z => (hch p.1 z).2.2.2 p hp rfl
    exact ⟨keep p.1 p.2 ne nf nch e n, free p.1 p.2 nch e n, ne, nf, d⟩
/-- .. where the frame's own object is kept too -/
theorem Inv.un {t' : Nat} (I : Inv X pins σ H s) (u : Un X.fs [] H H' s.heap h') (hok : HOk X.prog X.w H' h') : Inv X pins σ H' { s with heap := h', toks := t' } := by
  obtain ⟨m, ⟨o, es, ep, ho, r⟩, _⟩ := id I.loc
  obtain ⟨sl, hL⟩ := u.any ho I.free (by simp)
  exact I.step (g' := s.gens) (d' := s.drawn) (ch := []) (fun _ z => nomatch z) (fun b o _ hb _ e n => u.keep b o e n hb (by simp)) (fun b o _ hb _ e n => u.slot b o e n hb (by simp)) (fun b o _ e n => u.free b o e n (by simp)) (fun b o _ e => u.there b o e (by simp)) u.tups u.frzs u.tbls (fun m' hm => by
    obtain ⟨o', es', ep', ho', r'⟩ := hm
    rw [ho] at ho'; cases ho'
    exact ⟨_, es', ep', hL, r'⟩) hok I.bare
/-- behind a call (or a comprehension's block): the slots of this frame may have changed too, the records at ch may have turned -/
theorem Inv.call {g' : Array GenState} {t' : Nat} {d' : Drawn} {ch : List Addr} (I : Inv X pins σ H s) (u : Un (frs X.stack) ch H H' s.heap h') (hok : HOk X.prog X.w H' h') (hg : AllBare g')
    (hch : ∀ b ∈ ch, (b ∈ X.ex ∨ X.s₀.heap.objs.size ≤ b) ∧ b ≠ X.env.locals ∧ (∀ x c, X.env.cells.lookup x = some c → c ≠ b) ∧ ∀ p ∈ X.pn ++ pins, p.1 ≠ b) :
    Inv X pins σ H' { s with heap := h', gens := g', drawn := d', toks := t' } := by
  obtain ⟨m, ⟨o, es, ep, ho, r⟩, _⟩ := id I.loc
  obtain ⟨sl, hL⟩ := u.any ho I.free fun z => (hch _ z).2.1 rfl
  exact I.step (ch := ch) hch (fun b o hL hb hc e n => u.keep b o e n (fun z => (List.mem_cons.mp (I.stkSub b z)).elim hL hb) hc) (fun b o _ _ hc e n => u.any e n hc) (fun b o hc e n => u.free b o e n hc) (fun b o hc e => u.there b o e hc) u.tups u.frzs u.tbls (fun m' hm => by
    obtain ⟨o', es', ep', ho', r'⟩ := hm
    rw [ho] at ho'; cases ho'
    exact ⟨_, es', ep', hL, r'⟩) hok hg
/-- an untracked record of ours (an iterator) has turned -/
theorem Inv.turned {t' : Nat} {it : Addr} (I : Inv X pins σ H s) (k : ∀ b o, b ≠ it → s.heap.get? b = some o → h'.get? b = some o) (hn : H it = none) (hL : it ≠ X.env.locals)
    (h1 : it ∈ X.ex ∨ X.s₀.heap.objs.size ≤ it) (h2 : ∀ x c, X.env.cells.lookup x = some c → c ≠ it) (h3 : ∀ p ∈ X.pn ++ pins, p.1 ≠ it) : Inv X pins σ H { s with heap := h', toks := t' } := by
  have nit : ∀ b u, H b = some u → b ≠ it := fun b u e z => by rw [z, hn] at e; cases e
  refine I.step (g' := s.gens) (d' := s.drawn) (ch := [it]) (fun b hb => ?_) (fun b o _ _ hc e _ => k b o (fun z => hc (by simp [z])) e) (fun b o _ _ hc e _ => ⟨o.slots, k b o (fun z => hc (by simp [z])) e⟩) (fun _ _ _ _ n => n)
    (fun b o hc e => ⟨o, k b o (fun z => hc (by simp [z])) e⟩) (fun _ _ e => e) (fun _ _ _ e => e) (fun b ps e => ⟨#[], by rw [e]; simp⟩) (fun m hm => ?_) (fun b u e => ?_) I.bare
  · have e : b = it := by simpa using hb
    subst e
    exact ⟨h1, hL, h2, h3⟩
  · obtain ⟨o, es, ep, ho, r⟩ := hm
    exact ⟨o, es, ep, k _ o (Ne.symm hL) ho, r⟩
  · refine (I.hok b u e).stay (fun c v hc q => k c v ?_ q) (fun _ q => q) fun _ _ q => q
    rcases hc with z | z
    · rw [z]; exact nit b u e
    · exact nit c _ z
theorem Inv.tok (I : Inv X pins σ H s) (t : Nat) : Inv X pins σ H { s with toks := t } := I.un (h' := s.heap) (t' := t) Un.refl I.hok
/-- all objects kept -/
theorem Inv.kept {t' : Nat} (I : Inv X pins σ H s) (k : ∀ b u, s.heap.get? b = some u → h'.get? b = some u) : Inv X pins σ H { s with heap := h', toks := t' } := I.un (Un.kept k) (I.hok.kept k)
/-- a new object laid and tracked -/
theorem Inv.laid {a : Addr} {o : HO} {t' : Nat} (I : Inv X pins σ H s) (k : ∀ b u, s.heap.get? b = some u → h'.get? b = some u) (hp : s.heap.objs.size ≤ a) (new : ObjOk X.prog X.w (upd H a o) h' a o) :
    Inv X pins σ (upd H a o) { s with heap := h', toks := t' } := I.un (Un.laid k hp (I.hok.fresh hp)) (I.hok.laid k hp new)
/-- an object written -/
theorem Inv.write {x e : Addr} {o : HO} {t' : Nat} (I : Inv X pins σ H s) (mu : Mut (H x)) (he : e = x ∨ H e = some (.own x)) (k : ∀ b u, b ≠ e → s.heap.get? b = some u → h'.get? b = some u) (heo : ∃ u, h'.get? e = some u)
    (new : ObjOk X.prog X.w (upd H x o) h' x o) : Inv X pins σ (upd H x o) { s with heap := h', toks := t' } := I.un (Un.write mu he k heo) (I.hok.write mu he k heo new)
theorem Inv.pins_of {pins' : List (Addr × Obj)} (I : Inv X pins σ H s) (h : ∀ p ∈ pins', s.heap.get? p.1 = some p.2 ∧ H p.1 = none ∧ p.1 ≠ X.env.locals ∧ p.1 ∉ X.fs ∧ ∀ v, p.2.data ≠ .cell v) : Inv X pins' σ H s :=
  ⟨I.ok, I.os, I.bare, I.base, I.loc, I.cell, I.free, I.freeC, fun p hp => (List.mem_append.mp hp).elim (fun z => I.pin p (List.mem_append_left _ z)) (h p), I.hok, I.len⟩

theorem nodup_ix {N : List Str} (hN : N.Nodup) {i j : Nat} {x : Str} (a : N[i]? = some x) (b : N[j]? = some x) : i = j := by
  obtain ⟨h1, e1⟩ := List.getElem?_eq_some_iff.mp a
  obtain ⟨h2, e2⟩ := List.getElem?_eq_some_iff.mp b
  exact (List.getElem_inj hN).mp (e1.trans e2.symm)

/-- a name is stored; what changed -/
theorem store_ok2 {M : Model} {A : Around} {E : Value → Shared → Prop} {i : Nat} {x : Str} {v : V} {u : Value} {Q : Unit → Shared → Prop} (I : Inv X pins σ H s) (hN : X.N.Nodup) (hi : X.N[i]? = some x) (hx : Loc X.env.scope x) (r : RelV v u)
    (h : ∀ s', Inv X pins (σ.set i (some v)) H s' → (∃ a, Heap.SameBut a s.heap s'.heap ∧ (a = X.env.locals ∨ X.env.cells.lookup x = some a)) → Q () s') (hf : X.fn x = true ∨ X.env.scope.names.lookup x = some .local := by first | exact .inl rfl | exact .inr rfl | assumption) : wpAny M A (storeName X.env x u) Q E s := by
  obtain ⟨m, hn, hl⟩ := id I.loc
  have hcls : (X.env.scope.kind == .class || (X.env.scope.kind == .module && X.env.locals != X.env.globals)) = false := by rw [I.ok.kind]; rfl
  have hiσ : i < σ.length := by rw [I.len]; exact (List.getElem?_eq_some_iff.mp hi).1
  have cne := I.cne
  have tracked : ∀ {a : Addr} {h' : Heap}, (∃ o, s.heap.get? a = some o ∧ H a = none) → Heap.SameBut a s.heap h' → HOk X.prog X.w H h' := fun {a h'} ha hs b ob e => by
    obtain ⟨_, _, hfree⟩ := ha
    refine (I.hok b ob e).stay (fun c w' hc q => (hs.2 c ?_).trans q) (fun _ q => q) fun _ _ q => q
    rintro rfl
    rcases hc with rfl | hc
    · rw [hfree] at e; cases e
    · rw [hfree] at hc; cases hc
  rcases hx with hk | hk
  · refine wpAny_storeName_local hk hn (fun h' hn' hs => ?_) hcls
    obtain ⟨oL, _, _, hoL, _⟩ := id hn
    refine h _ ⟨I.ok, I.os, I.bare, ⟨fun b o e n hb hx => ?_, fun b o e n hb hx => ?_, I.base.free, fun b o e hx => ?_, I.base.tups, I.base.frzs, I.base.tbls⟩, ⟨_, hn', fun j y v' e1 e2 e3 => ?_⟩, fun y c e => ?_, I.free, I.freeC, fun p hp => ?_, tracked ⟨oL, hoL, I.free⟩ hs, by simpa using I.len⟩ ⟨_, hs, .inl rfl⟩
    · exact (hs.2 b (Nat.ne_of_lt (Nat.lt_of_lt_of_le (Heap.lt_size e) I.ok.above))).trans (I.base.keep b o e n hb hx)
    · obtain ⟨sl, e1⟩ := I.base.slot b o e n hb hx
      exact ⟨sl, (hs.2 b (Nat.ne_of_lt (Nat.lt_of_lt_of_le (Heap.lt_size e) I.ok.above))).trans e1⟩
    · obtain ⟨o', e1⟩ := I.base.there b o e hx
      exact ⟨o', (hs.2 b (Nat.ne_of_lt (Nat.lt_of_lt_of_le (Heap.lt_size e) I.ok.above))).trans e1⟩
    · by_cases hj : j = i
      · subst hj
        rw [hi] at e1; cases e1
        rw [List.getElem?_set_self hiσ] at e2
        cases e2
        exact ⟨u, r, .inl ⟨hk, by simp⟩⟩
      · rw [List.getElem?_set_ne (Ne.symm hj)] at e2
        obtain ⟨u', r', q⟩ := hl j y v' e1 e2 e3
        refine ⟨u', r', ?_⟩
        rcases q with ⟨k, e⟩ | ⟨k, c, e, z⟩
        · refine .inl ⟨k, ?_⟩
          have : y ≠ x := fun e => hj (nodup_ix hN e1 (e ▸ hi))
          simp [this, e]
        · exact .inr ⟨k, c, e, z.sameBut hs (cne y c e)⟩
    · obtain ⟨w', z⟩ := I.cell y c e
      exact ⟨w', z.sameBut hs (cne y c e)⟩
    · obtain ⟨e, n, ne, nf, d⟩ := I.pin p hp
      exact ⟨(hs.2 p.1 ne).trans e, n, ne, nf, d⟩
  · have hfn : X.fn x = true := by
      rcases hf with z | z
      · exact z
      · rw [z] at hk; cases hk
    obtain ⟨c, hc⟩ := I.ok.has x (.inl hk)
    obtain ⟨w', z⟩ := I.cell x c hc
    refine wpAny_storeName_cell I.ok.kind hk hc z (fun h' hc' hs => ?_)
    obtain ⟨oc, hoc, hocd⟩ := id z
    refine h { s with heap := h' } ⟨I.ok, I.os, I.bare, ⟨fun b o e n hb hx => ?_, fun b o e n hb hx => ?_, I.base.free, fun b o e hx => ?_, I.base.tups, I.base.frzs, I.base.tbls⟩, ⟨m, hn.sameBut hs (Ne.symm (cne x c hc)), fun j y v' e1 e2 e3 => ?_⟩, fun y c' e => ?_, I.free, I.freeC, fun p hp => ?_, tracked ⟨oc, hoc, I.freeC x c hc⟩ hs, by simpa using I.len⟩ ⟨c, hs, .inr hc⟩
    · exact (hs.2 b (Nat.ne_of_lt (Nat.lt_of_lt_of_le (Heap.lt_size e) (I.ok.cab x c hfn hc)))).trans (I.base.keep b o e n hb hx)
    · obtain ⟨sl, e1⟩ := I.base.slot b o e n hb hx
      exact ⟨sl, (hs.2 b (Nat.ne_of_lt (Nat.lt_of_lt_of_le (Heap.lt_size e) (I.ok.cab x c hfn hc)))).trans e1⟩
    · obtain ⟨o', e1⟩ := I.base.there b o e hx
      exact ⟨o', (hs.2 b (Nat.ne_of_lt (Nat.lt_of_lt_of_le (Heap.lt_size e) (I.ok.cab x c hfn hc)))).trans e1⟩
    · by_cases hj : j = i
      · subst hj
        rw [hi] at e1; cases e1
        rw [List.getElem?_set_self hiσ] at e2
        cases e2
        exact ⟨u, r, .inr ⟨.inl hk, c, hc, hc'⟩⟩
      · rw [List.getElem?_set_ne (Ne.symm hj)] at e2
        obtain ⟨u', r', q⟩ := hl j y v' e1 e2 e3
        refine ⟨u', r', ?_⟩
        rcases q with q | ⟨k, c', e, z'⟩
        · exact .inl q
        · refine .inr ⟨k, c', e, z'.sameBut hs ?_⟩
          rintro rfl
          exact hj (nodup_ix hN e1 (I.ok.inj _ _ _ e hc ▸ hi))
    · by_cases hcc : c' = c
      · subst hcc; exact ⟨_, hc'⟩
      · obtain ⟨w2, z2⟩ := I.cell y c' e
        exact ⟨w2, z2.sameBut hs hcc⟩
    · obtain ⟨e, n, ne, nf, d⟩ := I.pin p hp
      refine ⟨(hs.2 p.1 ?_).trans e, n, ne, nf, d⟩
      intro q
      rw [q, hoc] at e
      have q' : oc = p.2 := Option.some.inj e
      exact d w' (by rw [← q']; exact hocd)
theorem store_ok {M : Model} {A : Around} {E : Value → Shared → Prop} {i : Nat} {x : Str} {v : V} {u : Value} {Q : Unit → Shared → Prop} (I : Inv X pins σ H s) (hN : X.N.Nodup) (hi : X.N[i]? = some x) (hx : Loc X.env.scope x) (r : RelV v u)
    (h : ∀ s', Inv X pins (σ.set i (some v)) H s' → Q () s') (hf : X.fn x = true ∨ X.env.scope.names.lookup x = some .local := by first | exact .inl rfl | exact .inr rfl | assumption) : wpAny M A (storeName X.env x u) Q E s :=
  store_ok2 I hN hi hx r (fun s' I' _ => h s' I') hf
/-- behind a call or a block, the state as it is -/
theorem Inv.call' {s' : Shared} {ch : List Addr} (I : Inv X pins σ H s) (ho : s'.os = s.os) (u : Un (frs X.stack) ch H H' s.heap s'.heap) (hok : HOk X.prog X.w H' s'.heap) (hg : AllBare s'.gens)
    (hch : ∀ b ∈ ch, (b ∈ X.ex ∨ X.s₀.heap.objs.size ≤ b) ∧ b ≠ X.env.locals ∧ (∀ x c, X.env.cells.lookup x = some c → c ≠ b) ∧ ∀ p ∈ X.pn ++ pins, p.1 ≠ b) : Inv X pins σ H' s' := by
  obtain ⟨h', g', d', t', o'⟩ := s'
  have e : o' = s.os := ho
  subst e
  exact I.call (g' := g') (t' := t') (d' := d') u hok hg hch
end

/-- an exception: its class, its own dict's address (where it has one), the abstract heap behind it -/
abbrev XK := Value → Option Addr → Hp → Prop
abbrev St := List (Option V)
abbrev VK := V → Hp → Prop
/-- an expression's reading; a test's; an argument list's -/
abbrev TE := St → Hp → VK → Prop
abbrev TT := St → Hp → (Bool → Hp → Prop) → Prop
abbrev TA := St → Hp → (List V → Hp → Prop) → Prop
/-- what is wanted behind a statement -/
structure Ends where
  nx : St → Hp → Prop
  rt : VK
  bk : St → Hp → Prop := fun _ _ => False
  ct : St → Hp → Prop := fun _ _ => False
abbrev TS := Ends → St → Hp → Prop

def EP (X : Cx) (pins : List (Addr × Obj)) (σ : St) (Q : VK) (u : Value) (s' : Shared) : Prop := ∃ v H', Inv X pins σ H' s' ∧ RelV v u ∧ Q v H'
def TP (X : Cx) (pins : List (Addr × Obj)) (σ : St) (Q : Bool → Hp → Prop) (b : Bool) (s' : Shared) : Prop := ∃ H', Inv X pins σ H' s' ∧ Q b H'
def AP (X : Cx) (pins : List (Addr × Obj)) (σ : St) (Q : List V → Hp → Prop) (us : List Value) (s' : Shared) : Prop := ∃ vs H', Inv X pins σ H' s' ∧ Vals vs us ∧ Q vs H'
def SP (X : Cx) (pins : List (Addr × Obj)) (D : Ends) (f : Flow) (s' : Shared) : Prop :=
  match f with
  | .next => ∃ σ' H', Inv X pins σ' H' s' ∧ D.nx σ' H'
  | .brk => ∃ σ' H', Inv X pins σ' H' s' ∧ D.bk σ' H'
  | .cont => ∃ σ' H', Inv X pins σ' H' s' ∧ D.ct σ' H'
  | .ret u => ∃ v σ' H', Inv X pins σ' H' s' ∧ RelV v u ∧ D.rt v H'

def PE (X : Cx) (e : Expr) (t : TE) : Prop :=
  ∀ (pins : List (Addr × Obj)) (s : Shared) (σ : St) (H : Hp) (Q : VK), Inv X pins σ H s → t σ H Q → wpAny (model X.prog X.w) X.A (eval e X.env) (EP X pins σ Q) X.xe s
def PT (X : Cx) (e : Expr) (t : TT) : Prop :=
  ∀ (pins : List (Addr × Obj)) (s : Shared) (σ : St) (H : Hp) (Q : Bool → Hp → Prop), Inv X pins σ H s → t σ H Q → wpAny (model X.prog X.w) X.A (isTrue e X.env (eval e X.env)) (TP X pins σ Q) X.xe s
/-- a test whatever its 'whole' is (and, or) -/
def PW (X : Cx) (e : Expr) (t : TT) : Prop :=
  ∀ (whole : Sem Value) (pins : List (Addr × Obj)) (s : Shared) (σ : St) (H : Hp) (Q : Bool → Hp → Prop), Inv X pins σ H s → t σ H Q → wpAny (model X.prog X.w) X.A (isTrue e X.env whole) (TP X pins σ Q) X.xe s
theorem PW.pt {X : Cx} {e : Expr} {t : TT} (h : PW X e t) : PT X e t := h _
/-- an argument list (no star), from the left -/
def PA (X : Cx) (es : List Expr) (t : TA) : Prop :=
  ∀ (pos : Pos) (pins : List (Addr × Obj)) (s : Shared) (σ : St) (H : Hp) (Q : List V → Hp → Prop), Inv X pins σ H s → t σ H Q → wpAny (model X.prog X.w) X.A (spliced (backTo pos (starEach es X.env))) (AP X pins σ Q) X.xe s
def PS (X : Cx) (st : Stmt) (t : TS) : Prop :=
  ∀ (pins : List (Addr × Obj)) (s : Shared) (σ : St) (H : Hp) (D : Ends), Inv X pins σ H s → t D σ H → wpAny (model X.prog X.w) X.A (exec st X.env) (SP X pins D) X.xe s
def PSs (X : Cx) (st : List Stmt) (t : TS) : Prop :=
  ∀ (pins : List (Addr × Obj)) (s : Shared) (σ : St) (H : Hp) (D : Ends), Inv X pins σ H s → t D σ H → wpAny (model X.prog X.w) X.A (execs st X.env) (SP X pins D) X.xe s
/-- weaken the end -/
theorem thn {α : Type} {t : Sem α} {Q Q' : α → Shared → Prop} {M : Model} {A : Around} {E : Value → Shared → Prop} {s : Shared} (h : wpAny M A t Q E s) (hQ : ∀ a s, Q a s → Q' a s) : wpAny M A t Q' E s := wpAny_mono h hQ fun _ _ x => x
end L2

namespace L2
open PySem PySem.Spec PyProof.Rows
section
variable {X : Cx}

def tVar (i : Nat) : TE := fun σ H Q => ∃ v, σ[i]? = some (some v) ∧ Q v H
def tC (v : V) : TE := fun _ H Q => Q v H
theorem pe_var {i : Nat} {x : Str} {pos : Pos} (hN : X.N[i]? = some x) (hv : Vis X.env.scope x) (hd : (x == ("__debug__" : Str)) = false := by decide) (hcd : (x == ("__classdict__" : Str)) = false := by decide) : PE X (.Name x pos) (tVar i) := by
  intro pins s σ H Q I h
  obtain ⟨v, e, h⟩ := h
  obtain ⟨m, hn, hl⟩ := I.loc
  obtain ⟨u, r, l⟩ := hl i x v hN e hv
  have fin : EP X pins σ Q u s := ⟨v, H, I, r, h⟩
  rcases l with ⟨hk, hm⟩ | ⟨hk, c, hc, hcell⟩
  · exact wpAny_Name (wpAny_loadName_local I.ok.kind hk hn hm fin) hd
  · rcases hk with hk | hk
    · exact wpAny_Name (wpAny_loadName_cell I.ok.kind hk hc hcell fin) hd
    · exact wpAny_Name (wpAny_loadName_free I.ok.kind hk hc hcell fin hcd) hd
theorem pe_int {i j pos} : PE X (.Constant (.int i) j pos) (tC (.int i)) := fun _ _ _ H _ I h => wpAny_Constant_int ⟨.int i, H, I.tok _, ⟨_, rfl⟩, h⟩
theorem pe_bl {b j pos} : PE X (.Constant (.bool b) j pos) (tC (.bl b)) := fun _ _ _ H _ I h => Constant_bool ⟨.bl b, H, I, rfl, h⟩
/-- a global name of the def -/
def Gl (X : Cx) (x : Str) : Prop := X.env.kindOf x = some .globalImplicit
theorem ld_glob {E : Value → Shared → Prop} {pins : List (Addr × Obj)} {s : Shared} {σ : St} {H : Hp} {x : Str} {u : Value} {pos : Pos} {Q : Value → Shared → Prop} (I : Inv X pins σ H s) (hg : Gl X x) (hm : X.mg x = some u) (h : Q u s)
    (hd : (x == ("__debug__" : Str)) = false := by decide) : wpAny (model X.prog X.w) X.A (eval (.Name x pos) X.env) Q E s :=
  Calls.Name_function_global I.ok.kind hg (Calls.loadGlobal_global (by rw [I.ok.glob]; exact I.mod.glob.keeps I.bk) hm h) hd
theorem ld_blt {E : Value → Shared → Prop} {pins : List (Addr × Obj)} {s : Shared} {σ : St} {H : Hp} {x : Str} {u : Value} {pos : Pos} {Q : Value → Shared → Prop} (I : Inv X pins σ H s) (hg : Gl X x) (hm : X.mg x = none) (hv : bootBuiltins x = some u) (h : Q u s)
    (hn : x ≠ "__name__" := by decide) (hd : (x == ("__debug__" : Str)) = false := by decide) : wpAny (model X.prog X.w) X.A (eval (.Name x pos) X.env) Q E s := by
  obtain ⟨mb, h1, h2⟩ := I.mod.blt
  exact Calls.Name_function_global I.ok.kind hg (Calls.loadGlobal_builtin (by rw [I.ok.glob]; exact I.mod.glob.keeps I.bk) hm (by rw [I.ok.blt]; exact h1.keeps I.bk) ((h2 x hn).trans hv) h) hd
theorem pe_bltn {x : Str} {v : V} {u : Value} {pos : Pos} (hg : Gl X x) (hm : X.mg x = none) (hv : bootBuiltins x = some u) (r : RelV v u) (hn : x ≠ "__name__" := by decide) (hd : (x == ("__debug__" : Str)) = false := by decide) : PE X (.Name x pos) (tC v) :=
  fun _ _ _ H _ I h => ld_blt I hg hm hv ⟨v, H, I, r, h⟩ hn hd

variable {a b : Expr} {ta tb : TE} {pos : Pos}
def PC (X : Cx) (op : CmpOp) (a b : Expr) (t : TE) : Prop :=
  ∀ (pins : List (Addr × Obj)) (s : Shared) (σ : St) (H : Hp) (Q : VK), Inv X pins σ H s → t σ H Q →
    wpAny (model X.prog X.w) X.A (eval a X.env) (fun v s₁ => wpAny (model X.prog X.w) X.A (eval b X.env) (fun u s₂ => wpAny (model X.prog X.w) X.A (compareOp op v u) (EP X pins σ Q) X.xe s₂) X.xe s₁) X.xe s
/-- a comparison as a value, as a test -/
def tB (t : TE) : TT := fun σ H Q => t σ H fun x H1 => ∃ c, x = .bl c ∧ Q c H1
theorem pe_cmp {op : CmpOp} {t : TE} (h : PC X op a b t) (h1 : behindInMarks op b = false := by first | exact nobehind _ (by decide) (by decide) | rfl) : PE X (.Compare a [op] [b] pos) t := fun pins s σ H Q I hw => wpAny_Compare1 (h pins s σ H Q I hw) h1
/-- an expression whose value is a bool, as a test -/
theorem pt_val {e : Expr} {t : TE} (h : PE X e t) (he : ∀ whole, isTrue e X.env whole = (do let v ← whole; standAt e.pos; holding [v] (truthy v)) := by intro _; rfl) : PT X e (tB t) := by
  intro pins s σ H Q I hw
  refine isTrue_plain (thn (h pins s σ H _ I hw) fun v s1 ⟨x, H1, I1, r1, q1⟩ => ?_) (he _)
  obtain ⟨d, rfl, q⟩ := q1
  cases r1
  exact wpAny_truthy_bool ⟨H1, I1, q⟩

variable {tA tB' : TT} {rest : List Expr}
def tAnd (t u : TT) : TT := fun σ H Q => t σ H fun c H1 => if c = true then u σ H1 Q else Q false H1
def tOr (t u : TT) : TT := fun σ H Q => t σ H fun c H1 => if c = true then Q true H1 else u σ H1 Q
def tNot (t : TT) : TT := fun σ H Q => t σ H fun c H1 => Q (!c) H1
theorem pw_and1 (ha : PT X a tA) : PW X (.BoolOp .And [a] pos) tA := by
  intro wh pins s σ H Q I h
  refine isTrue_and (thn (ha pins s σ H Q I h) fun c s1 e => ?_)
  cases c with
  | true => exact isTrue_and_nil e
  | false => exact e
theorem pw_or1 (ha : PT X a tA) : PW X (.BoolOp .Or [a] pos) tA := by
  intro wh pins s σ H Q I h
  refine isTrue_or (thn (ha pins s σ H Q I h) fun c s1 e => ?_)
  cases c with
  | false => exact isTrue_or_nil e
  | true => exact e
theorem pw_and (ha : PT X a tA) (hb : PW X (.BoolOp .And (b :: rest) pos) tB') : PW X (.BoolOp .And (a :: b :: rest) pos) (tAnd tA tB') := by
  intro wh pins s σ H Q I h
  refine isTrue_and (thn (ha pins s σ H _ I h) fun c s1 ⟨H1, I1, q1⟩ => ?_)
  cases c with
  | true => exact hb wh pins s1 σ H1 Q I1 q1
  | false => exact ⟨H1, I1, q1⟩
theorem pw_or (ha : PT X a tA) (hb : PW X (.BoolOp .Or (b :: rest) pos) tB') : PW X (.BoolOp .Or (a :: b :: rest) pos) (tOr tA tB') := by
  intro wh pins s σ H Q I h
  refine isTrue_or (thn (ha pins s σ H _ I h) fun c s1 ⟨H1, I1, q1⟩ => ?_)
  cases c with
  | true => exact ⟨H1, I1, q1⟩
  | false => exact hb wh pins s1 σ H1 Q I1 q1
theorem pt_not (ha : PT X a tA) : PT X (.UnaryOp .Not a pos) (tNot tA) := by
  intro pins s σ H Q I h
  exact isTrue_not (ha pins s σ H (fun c H1 => Q (!c) H1) I h)
/-- .. as values (bools) -/
def tAndV (ta tb : TE) : TE := fun σ H Q => ta σ H fun x H1 => ∃ c, x = .bl c ∧ if c = true then tb σ H1 Q else Q (.bl false) H1
def tOrV (ta tb : TE) : TE := fun σ H Q => ta σ H fun x H1 => ∃ c, x = .bl c ∧ if c = true then Q (.bl true) H1 else tb σ H1 Q
def tNotV (ta : TE) : TE := fun σ H Q => ta σ H fun x H1 => ∃ c, x = .bl c ∧ Q (.bl (!c)) H1
theorem pe_one {op} {t : TE} (h : PE X a t) : PE X (.BoolOp op [a] pos) t := fun pins s σ H Q I hw => BoolOp_one (h pins s σ H Q I hw)
theorem pe_and (ha : PE X a ta) (hb : PE X (.BoolOp .And (b :: rest) pos) tb) : PE X (.BoolOp .And (a :: b :: rest) pos) (tAndV ta tb) := by
  intro pins s σ H Q I h
  refine BoolOp_and (thn (ha pins s σ H _ I h) fun v s1 ⟨x, H1, I1, r1, q1⟩ => ?_)
  obtain ⟨c, rfl, q1⟩ := q1
  cases r1
  refine wpAny_truthy_bool ?_
  cases c with
  | true => exact hb pins s1 σ H1 Q I1 q1
  | false => exact ⟨.bl false, H1, I1, rfl, q1⟩
theorem pe_not (ha : PE X a ta) : PE X (.UnaryOp .Not a pos) (tNotV ta) := by
  intro pins s σ H Q I h
  refine UnaryOp_ (thn (ha pins s σ H _ I h) fun v s1 ⟨x, H1, I1, r1, q1⟩ => ?_)
  obtain ⟨c, rfl, q1⟩ := q1
  cases r1
  exact not_of (wpAny_truthy_bool ⟨.bl (!c), H1, I1, rfl, q1⟩)
/-- a if t else b -/
def tIf (t : TT) (ta tb : TE) : TE := fun σ H Q => t σ H fun c H1 => if c = true then ta σ H1 Q else tb σ H1 Q
end
end L2

namespace L2
open PySem PySem.Spec PyProof.Rows

def SqL (K : PySem.W.Frag) (H : Hp) (a : Addr) (xs : List V) : Prop :=
  Rd H a (.lst xs) ∨
    ∃ (o : Obj) (its : Array Value) (n : Nat), K.lookup a = some o ∧ o.cls = .type "list" ∧ o.dict = none ∧ o.data = .seq its n ∧ its.size ≤ sizeLine ∧ Vals xs its.toList
def SqT (K : PySem.W.Frag) (H : Hp) (a : Addr) (xs : List V) : Prop :=
  Rd H a (.tup xs) ∨
    ∃ (o : Obj) (its : Array Value) (n : Nat), K.lookup a = some o ∧ o.cls = .type "tuple" ∧ o.data = .seq its n ∧ its.size ≤ sizeLine ∧ Vals xs its.toList
def absV : Value → Option V
  | .none => some .non
  | .bool b => some (.bl b)
  | .int i _ => some (.int i)
  | .str x _ => some (.str x)
  | .bytes b _ => some (.byt b)
  | .float b _ => some (.flt b)
  | .ref a => some (.ref a)
  | .type n => some (.ty n)
  | _ => none
theorem RelV.abs {x : V} {u : Value} (r : RelV x u) : absV u = some x := by
  cases x with
  | non => cases r; rfl
  | bl _ => cases r; rfl
  | int _ => obtain ⟨t, rfl⟩ := r; rfl
  | str _ => obtain ⟨t, rfl⟩ := r; rfl
  | byt _ => obtain ⟨t, rfl⟩ := r; rfl
  | flt _ => obtain ⟨t, rfl⟩ := r; rfl
  | ref _ => cases r; rfl
  | ty _ => cases r; rfl
theorem RelV.inj {x y : V} {u : Value} (r : RelV x u) (q : RelV y u) : x = y := Option.some.inj (r.abs.symm.trans q.abs)
theorem Vals.inj : ∀ {xs ys : List V} {us : List Value}, Vals xs us → Vals ys us → xs = ys
  | _, _, _, .nil, .nil => rfl
  | _, _, _, .cons r t, .cons r' t' => by rw [r.inj r', Vals.inj t t']
section
variable {X : Cx} {pins : List (Addr × Obj)} {σ : St} {H : Hp} {s : Shared} {a : Addr} {xs ys : List V}
theorem SqL.of {K : PySem.W.Frag} (h : H a = some (.lst xs)) : SqL K H a xs := .inl (.inl h)
theorem SqT.of {K : PySem.W.Frag} (h : H a = some (.tup xs)) : SqT K H a xs := .inl (.inl h)
theorem Inv.list (I : Inv X pins σ H s) (h : SqL X.K H a xs) : ∃ its : List Value, Vals xs its ∧ PlainL s.heap a its.toArray ∧ xs.length ≤ sizeLine := by
  rcases h with h | ⟨o, its, n, hk, hc, hd, hs, hz, r⟩
  · obtain ⟨z, its, n, r, e⟩ := h.ok I.hok
    exact ⟨its, r, ⟨_, n, e, rfl, rfl, rfl⟩, z⟩
  · refine ⟨its.toList, r, ⟨o, n, I.kIn a o hk, hc, hd, by simpa using hs⟩, ?_⟩
    have e := r.length
    simp only [Array.length_toList] at e
    omega
theorem Inv.tuple (I : Inv X pins σ H s) (h : SqT X.K H a xs) : ∃ its : List Value, Vals xs its ∧ IsTup s.heap a its.toArray ∧ xs.length ≤ sizeLine := by
  rcases h with h | ⟨o, its, n, hk, hc, hs, hz, r⟩
  · obtain ⟨z, its, r, p⟩ := h.ok I.hok
    exact ⟨its, r, p, z⟩
  · refine ⟨its.toList, r, ⟨o, I.kIn a o hk, hc, n, by simpa using hs⟩, ?_⟩
    have e := r.length
    simp only [Array.length_toList] at e
    omega
theorem Inv.list_inj (I : Inv X pins σ H s) (h : SqL X.K H a xs) (h' : SqL X.K H a ys) : xs = ys := by
  obtain ⟨its, r, ⟨o, n, e, _, _, d⟩, _⟩ := I.list h
  obtain ⟨its', r', ⟨o', n', e', _, _, d'⟩, _⟩ := I.list h'
  rw [e] at e'; cases e'
  rw [d] at d'
  injection d' with d1 _
  have : its = its' := by simpa using congrArg Array.toList d1
  subst this
  exact r.inj r'
end

abbrev Cx.wish (X : Cx) (E : Value → Shared → Prop) : Cx := { X with xe := E }
/-- no exception leaves -/
abbrev Cx.nox (X : Cx) : Cx := X.wish fun _ _ => False
theorem Cx.Ok.wish {X : Cx} (ok : X.Ok) (E : Value → Shared → Prop) : (X.wish E).Ok :=
  ⟨ok.mod, ok.kind, ok.glob, ok.blt, ok.above, ok.inj, ok.has, ok.cab, ok.hd, ok.frames, ok.stk, ok.exf, ok.bs, ok.bsz, ok.noex, ok.exfs, ok.funs, ok.frf⟩
theorem Cx.Ok.unwish {X : Cx} {E : Value → Shared → Prop} (ok : (X.wish E).Ok) : X.Ok :=
  ⟨ok.mod, ok.kind, ok.glob, ok.blt, ok.above, ok.inj, ok.has, ok.cab, ok.hd, ok.frames, ok.stk, ok.exf, ok.bs, ok.bsz, ok.noex, ok.exfs, ok.funs, ok.frf⟩
section
variable {X : Cx} {pins : List (Addr × Obj)} {σ : St} {H : Hp} {s : Shared} {E : Value → Shared → Prop}
theorem Inv.wish (I : Inv X pins σ H s) (E : Value → Shared → Prop) : Inv (X.wish E) pins σ H s := ⟨I.ok.wish E, I.os, I.bare, I.base, I.loc, I.cell, I.free, I.freeC, I.pin, I.hok, I.len⟩
theorem Inv.unwish (I : Inv (X.wish E) pins σ H s) : Inv X pins σ H s := ⟨I.ok.unwish, I.os, I.bare, I.base, I.loc, I.cell, I.free, I.freeC, I.pin, I.hok, I.len⟩
theorem SP.unwish {D : Ends} {f : Flow} {s' : Shared} (h : SP (X.wish E) pins D f s') : SP X pins D f s' := by
  cases f with
  | next => obtain ⟨σ', H', I, q⟩ := h; exact ⟨σ', H', I.unwish, q⟩
  | brk => obtain ⟨σ', H', I, q⟩ := h; exact ⟨σ', H', I.unwish, q⟩
  | cont => obtain ⟨σ', H', I, q⟩ := h; exact ⟨σ', H', I.unwish, q⟩
  | ret u => obtain ⟨v, σ', H', I, r, q⟩ := h; exact ⟨v, σ', H', I.unwish, r, q⟩
theorem PSs.nox {st : List Stmt} {t : TS} (h : PSs X.nox st t) : PSs X st t := fun pins s σ H D I hw =>
  wpAny_mono (h pins s σ H D (I.wish _) hw) (fun _ _ q => q.unwish) fun _ _ z => False.elim z
end

section
variable {X : Cx} {st : Stmt} {rest : List Stmt} {t u : TS} {e : Expr} {te : TE} {pos : Pos}
def tNext : TS := fun D σ H => D.nx σ H
def tSeq (t u : TS) : TS := fun D σ H => t { D with nx := u D } σ H
theorem pss_nil : PSs X [] tNext := fun _ _ σ H _ I h => wpAny_execs_nil ⟨σ, H, I, h⟩
theorem pss_cons (h1 : PS X st t) (h2 : PSs X rest u) : PSs X (st :: rest) (tSeq t u) := by
  intro pins s σ H D I h
  refine wpAny_execs_cons (thn (h1 pins s σ H { D with nx := u D } I h) fun f s1 q => ?_)
  cases f with
  | next =>
    obtain ⟨σ', H', I', q⟩ := q
    exact h2 pins s1 σ' H' D I' q
  | ret v => exact q
  | brk => exact q
  | cont => exact q
theorem pss_one (h1 : PS X st t) : PSs X [st] t := by
  intro pins s σ H D I h
  refine wpAny_execs_cons (thn (h1 pins s σ H D I h) fun f s1 q => ?_)
  cases f with
  | next => exact wpAny_execs_nil q
  | ret v => exact q
  | brk => exact q
  | cont => exact q
def tBreak : TS := fun D σ H => D.bk σ H
/-- in a def's body nothing is shown -/
theorem Inv.quiet {pins : List (Addr × Obj)} {σ : St} {H : Hp} {s : Shared} (I : Inv X pins σ H s) : interactive X.env = false := by simp [interactive, I.ok.kind]
/-- an expression whose value is dropped -/
def tDrop (te : TE) : TS := fun D σ H => te σ H fun _ H1 => D.nx σ H1
theorem ps_expr (he : PE X e te) (hs : swapsWith e none pos.line X.env = pure false := by rfl) : PS X (.Expr e pos) (tDrop te) := by
  intro pins s σ H D I h
  exact wpAny_Expr_any (thn (he pins s σ H _ I h) fun v s1 ⟨x, H1, I1, r1, q1⟩ => ⟨σ, H1, I1, q1⟩) I.quiet hs
def tRet (te : TE) : TS := fun D σ H => te σ H D.rt
theorem ps_ret (he : PE X e te) : PS X (.Return (some e) pos) (tRet te) := by
  intro pins s σ H D I h
  exact wpAny_Return_some (thn (he pins s σ H _ I h) fun v s1 ⟨x, H1, I1, r1, q1⟩ => ⟨x, σ, H1, I1, r1, q1⟩)
def tRetN : TS := fun D _ H => D.rt .non H
def tIfS (c : TT) (t u : TS) : TS := fun D σ H => c σ H fun b H1 => if b = true then t D σ H1 else u D σ H1
theorem ps_if {c : Expr} {a b : List Stmt} {tc : TT} (hc : PT X c tc) (ha : PSs X a t) (hb : PSs X b u) : PS X (.If c a b pos) (tIfS tc t u) := by
  intro pins s σ H D I h
  refine wpAny_If (thn (hc pins s σ H _ I h) fun d s1 ⟨H1, I1, q1⟩ => ?_)
  cases d with
  | true => exact ha pins s1 σ H1 D I1 q1
  | false => exact hb pins s1 σ H1 D I1 q1
/-- code that the proof never comes to -/
def tNever : TS := fun _ _ _ => False
theorem ps_never : PS X st tNever := fun _ _ _ _ _ _ h => h.elim
end

abbrev TG := V → St → Hp → (St → Hp → Prop) → Prop
abbrev TGs := List V → St → Hp → (St → Hp → Prop) → Prop
def PG (X : Cx) (target : Expr) (t : TG) : Prop :=
  ∀ (pins : List (Addr × Obj)) (s : Shared) (σ : St) (H : Hp) (v : V) (u : Value) (Q : St → Hp → Prop), Inv X pins σ H s → RelV v u → t v σ H Q →
    wpAny (model X.prog X.w) X.A (assign target X.env u) (fun _ s' => ∃ σ' H', Inv X pins σ' H' s' ∧ Q σ' H') X.xe s
/-- several targets, one after another -/
def PGs (X : Cx) (ts : List Expr) (t : TGs) : Prop :=
  ∀ (pins : List (Addr × Obj)) (s : Shared) (σ : St) (H : Hp) (vs : List V) (us : List Value) (Q : St → Hp → Prop), Inv X pins σ H s → Vals vs us → t vs σ H Q →
    wpAny (model X.prog X.w) X.A (assignInOrder ((assignEach ts X.env).map (·.2)) us) (fun _ s' => ∃ σ' H', Inv X pins σ' H' s' ∧ Q σ' H') X.xe s
/-- o[i] = v, by values -/
abbrev TSet := V → V → V → Hp → (Hp → Prop) → Prop
def PSet (X : Cx) (t : TSet) : Prop :=
  ∀ (pins : List (Addr × Obj)) (s : Shared) (σ : St) (H : Hp) (o i v : V) (ov iv u : Value) (Q : Hp → Prop), Inv X pins σ H s → RelV o ov → RelV i iv → RelV v u → t o i v H Q →
    wpAny (model X.prog X.w) X.A (setItem ov iv u) (fun _ s' => ∃ H', Inv X pins σ H' s' ∧ Q H') X.xe s
/-- a op= b, by values -/
abbrev TIp := V → V → Hp → VK → Prop
section
variable {X : Cx} {pos : Pos}
def gName (i : Nat) : TG := fun v σ H Q => Q (σ.set i (some v)) H
theorem pg_name {i : Nat} {x : Str} (hN : X.N.Nodup) (hi : X.N[i]? = some x) (hx : Loc X.env.scope x) (hf : X.fn x = true ∨ X.env.scope.names.lookup x = some .local := by first | exact .inl rfl | exact .inr rfl | assumption) : PG X (.Name x pos) (gName i) := by
  intro pins s σ H v u Q I r h
  exact wpAny_assign_Name (store_ok I hN hi hx r (fun s' I' => ⟨_, H, I', h⟩) hf)
def gNil : TGs := fun vs σ H Q => vs = [] ∧ Q σ H
def gCons (t : TG) (u : TGs) : TGs := fun vs σ H Q => ∃ v r, vs = v :: r ∧ t v σ H fun σ' H' => u r σ' H' Q
theorem pgs_nil : PGs X [] gNil := by
  intro pins s σ H vs us Q I r h
  obtain ⟨e, h⟩ := h
  subst e
  cases r
  exact assignInOrder_nil ⟨σ, H, I, h⟩
theorem pgs_cons {e : Expr} {es : List Expr} {t : TG} {u : TGs} (h1 : PG X e t) (h2 : PGs X es u)
    (hs : (assignEach (e :: es) X.env).map (·.2) = assign e X.env :: (assignEach es X.env).map (·.2) := by rfl) : PGs X (e :: es) (gCons t u) := by
  intro pins s σ H vs us Q I r h
  obtain ⟨v, vr, e1, h⟩ := h
  subst e1
  cases r with
  | cons r rr =>
    rw [hs]
    refine assignInOrder_cons (thn (h1 pins s σ H _ _ _ I r h) fun _ s1 ⟨σ1, H1, I1, q1⟩ => ?_)
    exact h2 pins s1 σ1 H1 _ _ Q I1 rr q1
/-- (a, b, ..) = a tuple of that length -/
def gTup (K : PySem.W.Frag) (n : Nat) (t : TGs) : TG := fun v σ H Q => ∃ a xs, v = .ref a ∧ SqT K H a xs ∧ xs.length = n ∧ t xs σ H Q
theorem pg_tup {es : List Expr} {k : Nat} {t : TGs} {n : Nat} (hc : X.calm = true) (h : PGs X es t)
    (hn : (assignEach es X.env).length = n := by rfl) (hst : (assignEach es X.env).findIdx? (·.1) = none := by rfl) : PG X (.Tuple es k pos) (gTup X.K n t) := by
  intro pins s σ H v u Q I r hw
  obtain ⟨a, xs, e1, hq, hl, hw⟩ := hw
  subst e1
  cases r
  obtain ⟨its, rv, ht, hz⟩ := I.tuple hq
  refine assign_Tuple_tuple (I.ok.hd hc) ht (by simp [hn, ← hl, rv.length]) hst fun h' hx => ?_
  have I1 : Inv X pins σ H { s with heap := h' } := I.kept (t' := s.toks) fun b o e => hx b o (Nat.ne_of_lt (Heap.lt_size e)) e
  exact h pins _ σ H xs _ Q I1 (by simpa using rv) hw
/-- o[i] = .. -/
def gSub (to ti : TE) (t : TSet) : TG := fun v σ H Q => to σ H fun o H1 => ti σ H1 fun i H2 => t o i v H2 fun H3 => Q σ H3
theorem pg_sub {o i : Expr} {to ti : TE} {t : TSet} (ho : PE X o to) (hi : PE X i ti) (hs : PSet X t)
    (ha : ∀ v, assign (.Subscript o i pos) X.env v = (do
      let ov ← holding [v] (eval o X.env)
      let iv ← holding [v, ov] (eval i X.env)
      standAt pos
      holding [v, ov, iv] (setItem ov iv v)
      release [v, ov, iv] []) := by intro _; rfl) : PG X (.Subscript o i pos) (gSub to ti t) := by
  intro pins s σ H v u Q I r h
  rw [ha]
  refine wpAny_bind (wpAny_holding (thn (ho pins s σ H _ I h) fun ov s1 ⟨x, H1, I1, r1, q1⟩ => ?_))
  refine wpAny_bind (wpAny_holding (thn (hi pins s1 σ H1 _ I1 q1) fun iv s2 ⟨y, H2, I2, r2, q2⟩ => ?_))
  refine wpAny_bind (wpAny_standAt (wpAny_bind (wpAny_holding (thn (hs pins s2 σ H2 x y v ov iv u _ I2 r1 r2 r q2) fun _ s3 ⟨H3, I3, q3⟩ => ?_))))
  exact wpAny_release ⟨σ, H3, I3, q3⟩
/-- target = value -/
def tAsg (te : TE) (g : TG) : TS := fun D σ H => te σ H fun x H1 => g x σ H1 D.nx
theorem ps_asg {tg e : Expr} {te : TE} {g : TG} (he : PE X e te) (hg : PG X tg g) (hs : swapsWithSole [tg] e pos.line X.env = pure false := by rfl) (hw : swappedStores [tg] e X.env = pure none := by rfl)
    (h1 : (assignEach [tg] X.env).map (·.2) = [assign tg X.env] := by rfl) : PS X (.Assign [tg] e pos) (tAsg te g) := by
  intro pins s σ H D I h
  refine wpAny_Assign_stores (thn (he pins s σ H _ I h) fun v s1 ⟨x, H1, I1, r1, q1⟩ => ?_) hs hw
  rw [h1]
  exact thn (hg pins s1 σ H1 x v _ I1 r1 q1) fun _ s2 q => q
/-- name = value -/
theorem ps_set {i : Nat} {x : Str} {e : Expr} {te : TE} {pos' : Pos} (hN : X.N.Nodup) (hi : X.N[i]? = some x) (hx : Loc X.env.scope x) (he : PE X e te) (hs : swapsWith e (some (.Name x pos')) pos.line X.env = pure false := by rfl) (hf : X.fn x = true ∨ X.env.scope.names.lookup x = some .local := by first | exact .inl rfl | exact .inr rfl | assumption) :
    PS X (.Assign [.Name x pos'] e pos) (tAsg te (gName i)) := by
  intro pins s σ H D I h
  refine wpAny_Assign_Name (thn (he pins s σ H _ I h) fun v s1 ⟨y, H1, I1, r1, q1⟩ => ?_) hs
  exact store_ok I1 hN hi hx r1 (fun s2 I2 => ⟨_, H1, I2, q1⟩) hf
/-- a, b = x, y with plain local names: stored from the right; the pair itself is not tracked (the opening rows as in PyProof/Rows/TupAssign.lean:23) -/
def tPar (i j : Nat) (ta : TA) : TS := fun D σ H => ta σ H fun vs H1 => ∃ v w, vs = [v, w] ∧ D.nx ((σ.set i (some v)).set j (some w)) H1
/-- name op= e -/
def tAug (i : Nat) (te : TE) (ti : TIp) : TS := fun D σ H => ∃ x, σ[i]? = some (some x) ∧ te σ H fun y H1 => ti x y H1 fun z H2 => D.nx (σ.set i (some z)) H2
/-- ints -/
def ipI (f : Int → Int → Int) : TIp := fun x y H Q => ∃ i j, x = .int i ∧ y = .int j ∧ Q (.int (f i j)) H
end

section
variable {X : Cx} {pos : Pos}
end

/-- at turn i: it yields x (the heap may grow), or it stops -/
structure It where
  go : Nat → Hp → Prop
  yld : Nat → Hp → V → Hp → Prop
  stop : Nat → Hp → Prop
/-- the iterator's own objects may turn: they are not the frame's, not pinned, younger than the entry (or a comprehension's own) -/
def FpOk (X : Cx) (pins : List (Addr × Obj)) (H : Hp) (b : Addr) : Prop :=
  H b = none ∧ b ≠ X.env.locals ∧ b ∉ X.fs ∧ (b ∈ X.ex ∨ X.s₀.heap.objs.size ≤ b) ∧ (∀ x c, X.env.cells.lookup x = some c → c ≠ b) ∧ ∀ p ∈ X.pn ++ pins, p.1 ≠ b
theorem Inv.fpOk {X : Cx} {pins : List (Addr × Obj)} {σ : St} {H H' : Hp} {s : Shared} {b : Addr} (I : Inv X pins σ H s) (hb : s.heap.objs.size ≤ b) (hn : H' b = none) : FpOk X pins H' b := by
  refine ⟨hn, Nat.ne_of_gt (Nat.lt_of_lt_of_le I.lt hb), I.nofs hb, .inr (Nat.le_trans I.sz hb), fun x c e z => ?_, fun p hp z => ?_⟩
  · obtain ⟨v, q⟩ := I.cell x c e
    exact absurd (Nat.lt_of_lt_of_le q.lt (by rw [z]; exact hb)) (Nat.lt_irrefl _)
  · exact absurd (Nat.lt_of_lt_of_le (Heap.lt_size (I.pin p hp).1) (by rw [z]; exact hb)) (Nat.lt_irrefl _)
structure Turn (P : Program) (w : World) (K : PySem.W.Frag) (tg : Expr) (J : It) (fp : List Addr) (it : Addr) (tn : Nat → Heap → Prop) : Prop where
  mem : it ∈ fp
  obj : ∀ i h, tn i h → ∀ b ∈ fp, ∃ o, h.get? b = some o ∧ ∀ v, o.data ≠ .cell v
  keep : ∀ i h h', tn i h → (∀ b ∈ fp, ∀ o, h.get? b = some o → h'.get? b = some o) → tn i h'
  item : ∀ (X : Cx), X.prog = P → X.w = w → X.K = K → X.calm = true → ∀ (i : Nat) (pins : List (Addr × Obj)) (s : Shared) (σ : St) (H : Hp) (E : Value → Shared → Prop), Inv X pins σ H s → (∀ b ∈ fp, FpOk X pins H b) → tn i s.heap → J.go i H →
    wpAny (model P w) X.A (pyNext (.ref it)) (fun r s1 => ∃ u, r = some u ∧
      wpAny (model P w) X.A (letOwnedTupleGo tg (.ref it) u) (fun _ s2 => ∃ x H', Inv X pins σ H' s2 ∧ RelV x u ∧ J.yld i H x H' ∧ tn (i + 1) s2.heap ∧ ∀ b ∈ fp, H' b = none) E s1) E s
  done : ∀ (X : Cx), X.prog = P → X.w = w → X.K = K → X.calm = true → ∀ (i : Nat) (pins : List (Addr × Obj)) (s : Shared) (σ : St) (H : Hp) (E : Value → Shared → Prop), Inv X pins σ H s → (∀ b ∈ fp, FpOk X pins H b) → tn i s.heap → J.stop i H →
    wpAny (model P w) X.A (pyNext (.ref it)) (fun r s1 => r = none ∧ Inv X pins σ H s1) E s
  self : ∀ (A : Around) (i : Nat) (s : Shared) (Q : Value → Shared → Prop) (E : Value → Shared → Prop), tn i s.heap → Q (.ref it) s → wpAny (model P w) A (pyIter (.ref it)) Q E s
abbrev TI := St → Hp → (It → Hp → Prop) → Prop
/-- an iterator has come -/
def PIE (X : Cx) (pins : List (Addr × Obj)) (σ : St) (tg : Expr) (R : It → Hp → Prop) (itv : Value) (s2 : Shared) : Prop :=
  ∃ (it : Addr) (fp : List Addr) (tn : Nat → Heap → Prop) (J : It) (H' : Hp), itv = .ref it ∧ Inv X pins σ H' s2 ∧ Turn X.prog X.w X.K tg J fp it tn ∧ tn 0 s2.heap ∧ (∀ b ∈ fp, FpOk X pins H' b) ∧ R J H'
def PI (X : Cx) (tg iter : Expr) (wi : TI) : Prop :=
  ∀ (pins : List (Addr × Obj)) (s : Shared) (σ : St) (H : Hp) (R : It → Hp → Prop), Inv X pins σ H s → wi σ H R →
    wpAny (model X.prog X.w) X.A (eval iter X.env) (fun v s1 => wpAny (model X.prog X.w) X.A (pyIter v) (PIE X pins σ tg R) X.xe s1) X.xe s

/-- the step ahead of the store is nothing for an iterator that keeps no tuple -/
theorem go_of {M : Model} {A : Around} {E : Value → Shared → Prop} {s : Shared} {tg : Expr} {it : Addr} {u : Value} {o : Obj} {n : String} {vs : Array Value} {Q : Unit → Shared → Prop} (ho : s.heap.get? it = some o) (hc : o.cls = .type n) (hd : o.data = .fields vs)
    (hn : ["enumerate", "zip", "dict_itemiterator", "dict_reverseitemiterator", "odict_iterator", "itertools.zip_longest", "itertools.pairwise"].contains n = false) (hQ : Q () s) : wpAny M A (letOwnedTupleGo tg (.ref it) u) Q E s := by
  unfold letOwnedTupleGo
  cases tg <;> first
    | exact wpAny_pure hQ
    | (cases u <;> first
        | exact wpAny_pure hQ
        | (refine wpAny_bind (wpAny_load ho ?_)
           rw [hc, hd]
           show wpAny M A (if (["enumerate", "zip", "dict_itemiterator", "dict_reverseitemiterator", "odict_iterator", "itertools.zip_longest", "itertools.pairwise"].contains n && vs[0]? == some (rawInt _)) = true then _ else _) Q E s
           rw [if_neg (by intro h; rw [hn, Bool.false_and] at h; cases h)]
           exact wpAny_pure hQ))

/-- the list at a, as it stands at each turn (a loop may append to it) -/
def Itl (K : PySem.W.Frag) (a : Addr) : It :=
  ⟨fun i H => ∃ xs x, SqL K H a xs ∧ xs[i]? = some x, fun i H x H' => H' = H ∧ ∀ xs, SqL K H a xs → xs[i]? = some x, fun i H => ∃ xs, SqL K H a xs ∧ xs.length ≤ i⟩
/-- lo, lo + 1, .. (n of them) -/
def Itr (lo : Int) (n : Nat) : It := ⟨fun i _ => i < n, fun i H x H' => H' = H ∧ x = .int (lo + i), fun i _ => n ≤ i⟩
theorem turn_list {P : Program} {w : World} {K : PySem.W.Frag} {tg : Expr} (a it : Addr) : Turn P w K tg (Itl K a) [it] it (fun i h => h.IsListIter it a i) where
  mem := by simp
  obj := fun i h st b hb => by
    have e : b = it := by simpa using hb
    subst e
    obtain ⟨o, e, c, d⟩ := st
    exact ⟨o, e, fun v z => by rw [d] at z; cases z⟩
  keep := fun i h h' st k => st.at fun o e => k it (by simp) o e
  item := by
    intro X hP hw hK hc i pins s σ H E I hf st hg
    subst hP hw hK
    obtain ⟨xs, x, hq, hx⟩ := hg
    obtain ⟨its, rv, p, hz⟩ := I.list hq
    obtain ⟨u, hu, ru⟩ := rv.get hx
    obtain ⟨f0, f1, f2, f3, f4, f5⟩ := hf it (by simp)
    refine wpAny_pyNext_list_item st p.isList (x := u) (by simpa using hu) fun h' st' sb => ?_
    have I1 : Inv X pins σ H { s with heap := h' } := I.turned (t' := s.toks) (fun b o hb e => (sb.2 b hb).trans e) f0 f1 f3 f4 f5
    obtain ⟨o, e, c, d⟩ := id st'
    exact ⟨u, rfl, go_of (s := { s with heap := h' }) e c d (by decide) ⟨x, H, I1, ru, ⟨rfl, fun ys hy => by rw [I.list_inj hy hq]; exact hx⟩, st', fun b hb => (hf b hb).1⟩⟩
  done := by
    intro X hP hw hK hc i pins s σ H E I hf st hg
    subst hP hw hK
    obtain ⟨xs, hq, hx⟩ := hg
    obtain ⟨its, rv, p, hz⟩ := I.list hq
    obtain ⟨f0, f1, f2, f3, f4, f5⟩ := hf it (by simp)
    have hl := rv.length
    exact wpAny_pyNext_list_end (I.ok.hd hc) st p.isList (by simp; omega) fun h' eb => ⟨rfl, I.turned (t' := s.toks) (fun b o hb e => eb b o hb e) f0 f1 f3 f4 f5⟩
  self := fun _ _ _ _ _ st h => wpAny_pyIter_listiter st h
theorem turn_range {P : Program} {w : World} {K : PySem.W.Frag} {tg : Expr} (it : Addr) (lo : Int) (n : Nat) : Turn P w K tg (Itr lo n) [it] it (fun i h => IsRangeIter h it (lo + (i : Nat) * 1) ((n : Int) - (i : Nat)) 1) where
  mem := by simp
  obj := fun i h st b hb => by
    have e : b = it := by simpa using hb
    subst e
    exact ⟨_, st, fun v z => by
      have z' : Data.fields _ = Data.cell v := z
      cases z'⟩
  keep := fun i h h' st k => k it (by simp) _ st
  item := by
    intro X hP hw hK hc i pins s σ H E I hf st hg
    subst hP hw hK
    obtain ⟨f0, f1, f2, f3, f4, f5⟩ := hf it (by simp)
    have W := Walks.range (prog := X.prog) (w := X.w) (I.ok.hd hc) it lo 1 n
    refine W.item i s _ _ hg st fun v h' tk hv st' kk => ?_
    obtain ⟨t, rfl⟩ := hv
    have I1 : Inv X pins σ H { s with heap := h', toks := tk } := I.turned (fun b o hb e => kk b o (by simpa using hb) e) f0 f1 f3 f4 f5
    refine ⟨_, rfl, go_of (s := { s with heap := h', toks := tk }) (n := "range_iterator") st' rfl rfl (by decide) ⟨.int (lo + i), H, I1, ⟨t, ?_⟩, ⟨rfl, rfl⟩, st', fun b hb => (hf b hb).1⟩⟩
    rw [Int.mul_one]
  done := by
    intro X hP hw hK hc i pins s σ H E I hf st hg
    subst hP hw hK
    obtain ⟨f0, f1, f2, f3, f4, f5⟩ := hf it (by simp)
    exact wpAny_pyNext_range_end (I.ok.hd hc) st (by have : n ≤ i := hg; omega) fun h' eb => ⟨rfl, I.turned (t' := s.toks) (fun b o hb e => eb b o hb e) f0 f1 f3 f4 f5⟩
  self := fun _ _ _ _ _ st h => wpAny_pyIter_rangeiter st h
end L2

namespace L2
open PySem PySem.Spec PyProof.Rows
section
variable {X : Cx} {tg : Expr}
def iList (K : PySem.W.Frag) (tl : TE) : TI := fun σ H R => tl σ H fun x H1 => ∃ a, x = .ref a ∧ (∃ xs, SqL K H1 a xs) ∧ R (Itl K a) H1
theorem pi_list {l : Expr} {tl : TE} (hl : PE X l tl) : PI X tg l (iList X.K tl) := by
  intro pins s σ H R I h
  refine thn (hl pins s σ H _ I h) fun v s1 ⟨x, H1, I1, r1, q1⟩ => ?_
  obtain ⟨a, e, ⟨xs, hq⟩, q⟩ := q1
  subst e
  cases r1
  obtain ⟨its, rv, p, hz⟩ := I1.list hq
  refine wpAny_pyIter_list p.isList ?_
  refine ⟨s1.heap.objs.size, [s1.heap.objs.size], _, _, H1, rfl, I1.kept (t' := s1.toks) fun b o e => Heap.get?_push_of_some _ e, turn_list a _, ⟨_, Heap.get?_push_size _ rfl, rfl, rfl⟩, fun b hb => ?_, q⟩
  have e : b = s1.heap.objs.size := by simpa using hb
  subst e
  exact I1.fpOk (Nat.le_refl _) (I1.hok.fresh (Nat.le_refl _))
/-- a range object just made, walked -/
theorem range_it {pins : List (Addr × Obj)} {σ : St} {H : Hp} {s : Shared} {R : It → Hp → Prop} {E : Value → Shared → Prop} {lo hi : Int} {t u v : Tok} {tk : Nat} (I : Inv X pins σ H s) (h1 : -(2 ^ 62) ≤ lo) (h2 : lo < 2 ^ 62) (h3 : -(2 ^ 62) ≤ hi) (h4 : hi < 2 ^ 62)
    (q : R (Itr lo (hi - lo).toNat) H) : wpAny (model X.prog X.w) X.A (pyIter (.ref s.heap.objs.size)) (PIE X pins σ tg R) E { s with heap := s.heap.push { cls := .type "range", data := .fields #[.int lo t, .int hi u, .int 1 v] }, toks := tk } := by
  refine wpAny_pyIter_range (IsRange.new ..) (small_one h1 h2 h3 h4) ?_
  have I1 : Inv X pins σ H { s with heap := s.heap.push { cls := .type "range", data := .fields #[.int lo t, .int hi u, .int 1 v] }, toks := tk } := I.kept fun b o e => Heap.get?_push_of_some _ e
  refine ⟨(s.heap.push { cls := .type "range", data := .fields #[.int lo t, .int hi u, .int 1 v] }).objs.size, [(s.heap.push { cls := .type "range", data := .fields #[.int lo t, .int hi u, .int 1 v] }).objs.size], _, _, H, rfl,
    I1.kept (t' := tk) fun b o e => Heap.get?_push_of_some _ e, turn_range _ lo (hi - lo).toNat, ?_, fun b hb => ?_, q⟩
  · have e1 : lo + ((0 : Nat) : Int) * 1 = lo := by simp
    have e2 : (((hi - lo).toNat : Nat) : Int) - ((0 : Nat) : Int) = Builtin.Range.rangeSize lo hi 1 := by rw [rangeSize_one]; split <;> omega
    show IsRangeIter _ _ (lo + ((0 : Nat) : Int) * 1) ((((hi - lo).toNat : Nat) : Int) - ((0 : Nat) : Int)) 1
    rw [e1, e2]
    exact Heap.get?_push_size _ rfl
  · have e : b = (s.heap.push { cls := .type "range", data := .fields #[.int lo t, .int hi u, .int 1 v] }).objs.size := by simpa using hb
    subst e
    exact I1.fpOk (Nat.le_refl _) (I1.hok.fresh (Nat.le_refl _))
def iRng1 (ta : TA) : TI := fun σ H R => ta σ H fun vs H1 => ∃ j : Int, vs = [.int j] ∧ -(2 ^ 62) ≤ j ∧ j < 2 ^ 62 ∧ R (Itr 0 j.toNat) H1
def iRng2 (ta : TA) : TI := fun σ H R => ta σ H fun vs H1 => ∃ i j : Int, vs = [.int i, .int j] ∧ (-(2 ^ 62) ≤ i ∧ i < 2 ^ 62 ∧ -(2 ^ 62) ≤ j ∧ j < 2 ^ 62) ∧ R (Itr i (j - i).toNat) H1
theorem pi_range1 {a : Expr} {ta : TA} {p pos : Pos} (hg : Gl X "range") (hm : X.mg "range" = none) (ha : PA X [a] ta) (hs : starEach [a] X.env = [(false, eval a X.env)] := by rfl) : PI X tg (.Call (.Name "range" p) [a] [] pos) (iRng1 ta) := by
  intro pins s σ H R I h
  refine Call_ (ld_blt I hg hm boot_range (PyProof.Rows.callWith_type1 (thn (ha pos pins s σ H _ I h) fun us s1 ⟨vs, H1, I1, r1, q1⟩ => ?_) hs rfl))
  obtain ⟨j, e, q1, q2, q⟩ := q1
  subst e
  cases r1 with
  | cons r rr =>
    cases rr
    obtain ⟨t, rfl⟩ := r
    exact call_range_1 (range_it I1 (by omega) (by omega) q1 q2 (by simpa using q))
/-- W: the invariant by the turn and a measure; N: what the body is to reach -/
def tFor (wi : TI) (g : TG) (tb : TS) : TS := fun D σ H => wi σ H fun J H1 => ∃ W : Nat → Nat → St → Hp → Prop, (∃ m, W 0 m σ H1) ∧ ∀ i m σ H, W i m σ H →
  (J.stop i H ∧ D.nx σ H) ∨ (J.go i H ∧ ∃ N : St → Hp → Prop, (∀ σ' H', N σ' H' → ∃ m', m' < m ∧ W (i + 1) m' σ' H') ∧ ∀ x H', J.yld i H x H' → g x σ H' fun σ2 H2 => tb { D with nx := N, ct := N, bk := D.nx } σ2 H2)
/-- the records at fp as they stand -/
def pinsAt (fp : List Addr) (h : Heap) : List (Addr × Obj) := fp.filterMap fun b => (h.get? b).map fun o => (b, o)
theorem mem_pinsAt {fp : List Addr} {h : Heap} {b : Addr} {o : Obj} (hb : b ∈ fp) (e : h.get? b = some o) : (b, o) ∈ pinsAt fp h := List.mem_filterMap.mpr ⟨b, hb, by rw [e]; rfl⟩
theorem of_pinsAt {fp : List Addr} {h : Heap} {p : Addr × Obj} (hp : p ∈ pinsAt fp h) : p.1 ∈ fp ∧ h.get? p.1 = some p.2 := by
  obtain ⟨b, hb, e⟩ := List.mem_filterMap.mp hp
  cases q : h.get? b with
  | none => rw [q] at e; cases e
  | some o =>
    rw [q] at e
    have e' : (b, o) = p := Option.some.inj e
    subst e'
    exact ⟨hb, q⟩
theorem Inv.pinned {pins : List (Addr × Obj)} {σ : St} {H : Hp} {s : Shared} {fp : List Addr} (I : Inv X pins σ H s) (hf : ∀ b ∈ fp, FpOk X pins H b) (ho : ∀ b ∈ fp, ∃ o, s.heap.get? b = some o ∧ ∀ v, o.data ≠ .cell v) : Inv X (pins ++ pinsAt fp s.heap) σ H s :=
  I.pins_of fun p hp => (List.mem_append.mp hp).elim (fun z => I.pin p (List.mem_append_right _ z)) fun z => by
    obtain ⟨hb, e⟩ := of_pinsAt z
    obtain ⟨f0, f1, f2, _⟩ := hf p.1 hb
    obtain ⟨o, e', d⟩ := ho p.1 hb
    rw [e] at e'; cases e'
    exact ⟨e, f0, f1, f2, d⟩
theorem Inv.unpinned {pins pl : List (Addr × Obj)} {σ : St} {H : Hp} {s : Shared} (I : Inv X (pins ++ pl) σ H s) : Inv X pins σ H s := I.pins_of fun p hp => I.pin p (List.mem_append_right _ (List.mem_append_left _ hp))
theorem ps_for {iter : Expr} {body : List Stmt} {wi : TI} {g : TG} {tb : TS} {pos : Pos} (hp : PassesOwn (model X.prog X.w) X.A X.env X.xe) (hc : X.calm = true) (hi : PI X tg iter wi) (hg : PG X tg g) (hb : PSs X body tb)
    (hs : ∀ x, foldedSetIterable iter X.env x = pure x := by intro _; rfl) : PS X (.For tg iter body [] pos) (tFor wi g tb) := by
  intro pins s σ H D I h
  refine wpAny_For (thn (hi pins s σ H _ I h) fun v s1 h1 => thn h1 fun itv s2 h2 => ?_) hs
  obtain ⟨it, fp, tn, J, H2, e, I2, T, st2, f2, W, ⟨m0, w0⟩, turn⟩ := h2
  subst e
  -- what stays true of the iterator's objects through the loop
  have stat : ∀ {H' : Hp}, (∀ b ∈ fp, H' b = none) → ∀ b ∈ fp, FpOk X pins H' b := fun hn b hb => ⟨hn b hb, (f2 b hb).2⟩
  refine codeAny_forLoop_any (fun n s' => ∃ i σ' H', Inv X pins σ' H' s' ∧ tn i s'.heap ∧ (∀ b ∈ fp, H' b = none) ∧ W i n σ' H') ?_ m0 ⟨0, σ, H2, I2, st2, fun b hb => (f2 b hb).1, w0⟩
  rintro n s3 ⟨i, σ3, H3, I3, st3, fr3, w3⟩
  rcases turn i n σ3 H3 w3 with ⟨stop, qn⟩ | ⟨go, N, hN, step⟩
  · refine wpAny_passesOwn hp (thn (T.done X rfl rfl rfl hc i pins s3 σ3 H3 X.xe I3 (stat fr3) st3 stop) fun r s4 ⟨hr, I4⟩ => ?_)
    subst hr
    exact wpAny_execs_nil ⟨σ3, H3, I4, qn⟩
  · refine wpAny_passesOwn hp (thn (T.item X rfl rfl rfl hc i pins s3 σ3 H3 X.xe I3 (stat fr3) st3 go) fun r s4 ⟨u, hr, h4⟩ => ?_)
    subst hr
    refine wpAny_passesOwn hp (thn h4 fun _ s5 ⟨x, H5, I5, r5, y5, st5, fr5⟩ => ?_)
    have I5' := I5.pinned (stat fr5) (T.obj _ _ st5)
    refine wpAny_passesOwn hp (thn (hg _ s5 σ3 H5 x u _ I5' r5 (step x H5 y5)) fun _ s6 ⟨σ6, H6, I6, q6⟩ => ?_)
    refine wpAny_passesOwn hp (thn (hb _ s6 σ6 H6 _ I6 q6) fun f s7 q7 => ?_)
    have again : ∀ {σ7 : St} {H7 : Hp}, Inv X (pins ++ pinsAt fp s5.heap) σ7 H7 s7 → N σ7 H7 → ∃ m, m < n ∧ ∃ i σ' H', Inv X pins σ' H' s7 ∧ tn i s7.heap ∧ (∀ b ∈ fp, H' b = none) ∧ W i m σ' H' := fun {σ7 H7} I7 n7 => by
      obtain ⟨m', hm, w7⟩ := hN σ7 H7 n7
      refine ⟨m', hm, i + 1, σ7, H7, I7.unpinned, T.keep _ _ _ st5 fun b hb o e => (I7.pin (b, o) (List.mem_append_right _ (List.mem_append_right _ (mem_pinsAt hb e)))).1, fun b hb => ?_, w7⟩
      obtain ⟨o, e, d⟩ := T.obj _ _ st5 b hb
      exact (I7.pin (b, o) (List.mem_append_right _ (List.mem_append_right _ (mem_pinsAt hb e)))).2.1
    cases f with
    | next => obtain ⟨σ7, H7, I7, n7⟩ := q7; exact again I7 n7
    | cont => obtain ⟨σ7, H7, I7, n7⟩ := q7; exact again I7 n7
    | brk => obtain ⟨σ7, H7, I7, q7⟩ := q7; exact ⟨σ7, H7, I7.unpinned, q7⟩
    | ret v => obtain ⟨x7, σ7, H7, I7, r7, q7⟩ := q7; exact ⟨x7, σ7, H7, I7.unpinned, r7, q7⟩
end

/-- over a list that the body leaves as it is -/
theorem for_list {K : PySem.W.Frag} {a : Addr} {xs : List V} {g : TG} {tb : TS} {D : Ends} {σ : St} {H : Hp} (Pv : Nat → St → Hp → Prop) (h0 : Pv 0 σ H) (hl : ∀ i σ H, i ≤ xs.length → Pv i σ H → SqL K H a xs)
    (hs : ∀ i x σ H, xs[i]? = some x → Pv i σ H → g x σ H fun σ2 H2 => tb { D with nx := Pv (i + 1), ct := Pv (i + 1), bk := D.nx } σ2 H2) (hd : ∀ σ H, Pv xs.length σ H → D.nx σ H) :
    ∃ W : Nat → Nat → St → Hp → Prop, (∃ m, W 0 m σ H) ∧ ∀ i m σ H, W i m σ H →
      ((Itl K a).stop i H ∧ D.nx σ H) ∨ ((Itl K a).go i H ∧ ∃ N : St → Hp → Prop, (∀ σ' H', N σ' H' → ∃ m', m' < m ∧ W (i + 1) m' σ' H') ∧ ∀ x H', (Itl K a).yld i H x H' → g x σ H' fun σ2 H2 => tb { D with nx := N, ct := N, bk := D.nx } σ2 H2) := by
  refine ⟨fun i m σ H => m = xs.length - i ∧ i ≤ xs.length ∧ Pv i σ H, ⟨xs.length, by simp, Nat.zero_le _, h0⟩, ?_⟩
  rintro i m σ H ⟨rfl, hi, p⟩
  have q := hl i σ H hi p
  by_cases hlt : i < xs.length
  · refine .inr ⟨⟨xs, xs[i], q, by simp [hlt]⟩, Pv (i + 1), fun σ' H' p' => ⟨xs.length - (i + 1), by omega, rfl, hlt, p'⟩, fun x H' y => ?_⟩
    obtain ⟨e, y⟩ := y
    subst e
    exact hs i x σ _ (y xs q) p
  · have e : i = xs.length := by omega
    subst e
    exact .inl ⟨⟨xs, q, Nat.le_refl _⟩, hd σ H p⟩
theorem for_range {lo : Int} {n : Nat} {g : TG} {tb : TS} {D : Ends} {σ : St} {H : Hp} (Pv : Nat → St → Hp → Prop) (h0 : Pv 0 σ H)
    (hs : ∀ i σ H, i < n → Pv i σ H → g (.int (lo + i)) σ H fun σ2 H2 => tb { D with nx := Pv (i + 1), ct := Pv (i + 1), bk := D.nx } σ2 H2) (hd : ∀ σ H, Pv n σ H → D.nx σ H) :
    ∃ W : Nat → Nat → St → Hp → Prop, (∃ m, W 0 m σ H) ∧ ∀ i m σ H, W i m σ H →
      ((Itr lo n).stop i H ∧ D.nx σ H) ∨ ((Itr lo n).go i H ∧ ∃ N : St → Hp → Prop, (∀ σ' H', N σ' H' → ∃ m', m' < m ∧ W (i + 1) m' σ' H') ∧ ∀ x H', (Itr lo n).yld i H x H' → g x σ H' fun σ2 H2 => tb { D with nx := N, ct := N, bk := D.nx } σ2 H2) := by
  refine ⟨fun i m σ H => m = n - i ∧ i ≤ n ∧ Pv i σ H, ⟨n, by simp, Nat.zero_le _, h0⟩, ?_⟩
  rintro i m σ H ⟨rfl, hi, p⟩
  by_cases hlt : i < n
  · refine .inr ⟨hlt, Pv (i + 1), fun σ' H' p' => ⟨n - (i + 1), by omega, rfl, hlt, p'⟩, fun x H' y => ?_⟩
    obtain ⟨e, y⟩ := y
    subst e y
    exact hs i σ _ hlt p
  · have e : i = n := by omega
    subst e
    exact .inl ⟨Nat.le_refl _, hd σ H p⟩
end L2

namespace L2
open PySem PySem.Spec PyProof.Rows

abbrev R2 := V → V → Hp → VK → Prop
/-- a two-place operation on values: f is binaryOp op, inplaceOp op or compareOp op -/
def OpR (X : Cx) (f : Value → Value → Sem Value) (r : R2) : Prop :=
  ∀ (pins : List (Addr × Obj)) (s : Shared) (σ : St) (H : Hp) (x y : V) (v u : Value) (Q : VK), Inv X pins σ H s → RelV x v → RelV y u → r x y H Q →
    wpAny (model X.prog X.w) X.A (f v u) (EP X pins σ Q) X.xe s
/-- a call of a value that is known (a builtin, a type) with values -/
def CallR (X : Cx) (f : Value) (r : List V → Hp → VK → Prop) : Prop :=
  ∀ (pins : List (Addr × Obj)) (s : Shared) (σ : St) (H : Hp) (xs : List V) (us : List Value) (Q : VK), Inv X pins σ H s → Vals xs us → r xs H Q →
    wpAny (model X.prog X.w) X.A (call f us) (EP X pins σ Q) X.xe s
def tOp (r : R2) (ta tb : TE) : TE := fun σ H Q => ta σ H fun x H1 => tb σ H1 fun y H2 => r x y H2 Q
def tUn (r : V → Hp → VK → Prop) (ta : TE) : TE := fun σ H Q => ta σ H fun x H1 => r x H1 Q
/-- ints in, under C, and a value out -/
def rI (C : Int → Int → Prop) (g : Int → Int → V) : R2 := fun x y H Q => ∃ i j, x = .int i ∧ y = .int j ∧ C i j ∧ Q (g i j) H
def rI0 (g : Int → Int → V) : R2 := fun x y H Q => ∃ i j, x = .int i ∧ y = .int j ∧ Q (g i j) H
def rU (g : Int → V) : V → Hp → VK → Prop := fun x H Q => ∃ i, x = .int i ∧ Q (g i) H

section
variable {X : Cx} {a b c : Expr} {ta tb tc : TE} {pos : Pos}

theorem binT (ha : PE X a ta) (hb : PE X b tb) {pins : List (Addr × Obj)} {s : Shared} {σ : St} {H : Hp} {R : V → V → Hp → Prop} (I : Inv X pins σ H s)
    (h : ta σ H fun x H1 => tb σ H1 fun y H2 => R x y H2) {Q : Value → Shared → Prop} {f : Value → Value → Sem Value}
    (hf : ∀ v u s2 x y H2, Inv X pins σ H2 s2 → RelV x v → RelV y u → R x y H2 → wpAny (model X.prog X.w) X.A (f v u) Q X.xe s2) :
    wpAny (model X.prog X.w) X.A (eval a X.env) (fun v s₁ => wpAny (model X.prog X.w) X.A (eval b X.env) (fun u s₂ => wpAny (model X.prog X.w) X.A (f v u) Q X.xe s₂) X.xe s₁) X.xe s := by
  refine thn (ha pins s σ H _ I h) fun v s1 ⟨x, H1, I1, r1, q1⟩ => ?_
  refine thn (hb pins s1 σ H1 _ I1 q1) fun u s2 ⟨y, H2, I2, r2, q2⟩ => ?_
  exact hf v u s2 x y H2 I2 r1 r2 q2

theorem pe_op {op : Operator} {r : R2} (ho : OpR X (binaryOp op) r) (ha : PE X a ta) (hb : PE X b tb) : PE X (.BinOp a op b pos) (tOp r ta tb) := by
  intro pins s σ H Q I h
  exact wpAny_BinOp (binT ha hb I h fun v u s2 x y H2 I2 rx ry q => ho pins s2 σ H2 x y v u Q I2 rx ry q)
theorem opI {f : Value → Value → Sem Value} {C : Int → Int → Prop} {g : Int → Int → Int}
    (rule : ∀ (i j : Int) (t u : Tok) (s : Shared) (Q : Value → Shared → Prop) (E : Value → Shared → Prop), C i j → Q (.int (g i j) s.toks) { s with toks := s.toks + 1 } → wpAny (model X.prog X.w) X.A (f (.int i t) (.int j u)) Q E s) :
    OpR X f (rI C fun i j => .int (g i j)) := by
  intro pins s σ H x y v u Q I rx ry h
  obtain ⟨i, j, rfl, rfl, hc, q⟩ := h
  obtain ⟨t, rfl⟩ := rx
  obtain ⟨t', rfl⟩ := ry
  exact rule i j t t' s _ _ hc ⟨.int (g i j), H, I.tok _, ⟨_, rfl⟩, q⟩
theorem opI0 {f : Value → Value → Sem Value} {g : Int → Int → Int}
    (rule : ∀ (i j : Int) (t u : Tok) (s : Shared) (Q : Value → Shared → Prop) (E : Value → Shared → Prop), Q (.int (g i j) s.toks) { s with toks := s.toks + 1 } → wpAny (model X.prog X.w) X.A (f (.int i t) (.int j u)) Q E s) :
    OpR X f (rI0 fun i j => .int (g i j)) := by
  intro pins s σ H x y v u Q I rx ry h
  obtain ⟨i, j, rfl, rfl, q⟩ := h
  obtain ⟨t, rfl⟩ := rx
  obtain ⟨t', rfl⟩ := ry
  exact rule i j t t' s _ _ ⟨.int (g i j), H, I.tok _, ⟨_, rfl⟩, q⟩
theorem opB0 {f : Value → Value → Sem Value} {g : Int → Int → Bool}
    (rule : ∀ (i j : Int) (t u : Tok) (s : Shared) (Q : Value → Shared → Prop) (E : Value → Shared → Prop), Q (.bool (g i j)) s → wpAny (model X.prog X.w) X.A (f (.int i t) (.int j u)) Q E s) :
    OpR X f (rI0 fun i j => .bl (g i j)) := by
  intro pins s σ H x y v u Q I rx ry h
  obtain ⟨i, j, rfl, rfl, q⟩ := h
  obtain ⟨t, rfl⟩ := rx
  obtain ⟨t', rfl⟩ := ry
  exact rule i j t t' s _ _ ⟨.bl (g i j), H, I, rfl, q⟩

def CDiv (i j : Int) : Prop := 0 < j ∧ j < 1073741824
def CMul (i j : Int) : Prop := (-(2 ^ 64) < i ∧ i < 2 ^ 64) ∨ (-(2 ^ 64) < j ∧ j < 2 ^ 64)
theorem CMul.ok {i j : Int} (h : CMul i j) : IntMulOk i j := by
  rcases h with ⟨h1, h2⟩ | ⟨h1, h2⟩
  · exact .of_left (intBits_le_64 h1 h2)
  · exact .of_right (intBits_le_64 h1 h2)
theorem op_add : OpR X (binaryOp .Add) (rI0 fun i j => .int (i + j)) := opI0 fun _ _ _ _ _ _ _ q => add_int q
theorem op_sub : OpR X (binaryOp .Sub) (rI0 fun i j => .int (i - j)) := opI0 fun _ _ _ _ _ _ _ q => sub_int q
theorem op_mul : OpR X (binaryOp .Mult) (rI CMul fun i j => .int (i * j)) := opI fun _ _ _ _ _ _ _ hc q => mul_int q hc.ok
/-- // by a positive divisor -/
theorem op_fdiv : OpR X (binaryOp .FloorDiv) (rI CDiv fun i j => .int (i / j)) := opI fun i j _ _ _ _ _ hc q => by
  have h1 : (0 : Int) < j := hc.1
  have h2 : j < 1073741824 := hc.2
  exact floordiv_int (by omega) (by rw [Int.fdiv_eq_ediv_of_nonneg i (by omega)]; exact q) (.inl (PyProof.noPylong_small (by omega)))
/-- % by a positive divisor of any size -/
theorem op_mod : OpR X (binaryOp .Mod) (rI (fun _ j => 0 < j) fun i j => .int (i % j)) := opI fun i j _ _ _ _ _ hc q => by
  have h1 : (0 : Int) < j := hc
  exact mod_int' (by omega) (by rw [Int.fmod_eq_emod_of_nonneg i (by omega)]; exact q)
end

/-- the scalars that == tells apart as data does -/
def scal : V → V → Bool
  | .non, .non => true | .non, .int _ => true | .int _, .non => true | .non, .bl _ => true | .bl _, .non => true | .non, .str _ => true | .str _, .non => true
  | .int _, .int _ => true | .bl _, .bl _ => true | .str _, .str _ => true | .byt _, .byt _ => true
  | .int _, .str _ => true | .str _, .int _ => true | .bl _, .str _ => true | .str _, .bl _ => true
  | _, _ => false
def rEq : R2 := fun x y H Q => scal x y = true ∧ Q (.bl (decide (x = y))) H
def rNe : R2 := fun x y H Q => scal x y = true ∧ Q (.bl (!decide (x = y))) H

theorem dec_int {i j : Int} : decide (V.int i = V.int j) = (i == j) := by
  rw [Bool.eq_iff_iff]
  simp
theorem dec_bl {i j : Bool} : decide (V.bl i = V.bl j) = (i == j) := by
  rw [Bool.eq_iff_iff]
  simp
theorem dec_str {i j : Str} : decide (V.str i = V.str j) = (i == j) := by
  rw [Bool.eq_iff_iff]
  simp
theorem dec_byt {i j : Array UInt8} : decide (V.byt i = V.byt j) = (i.toList == j.toList) := by
  rw [Bool.eq_iff_iff]
  cases i
  cases j
  simp

section
variable {X : Cx} {a b c : Expr} {ta tb tc : TE} {pos : Pos}
theorem fin_bl {pins : List (Addr × Obj)} {σ : St} {H : Hp} {s : Shared} {Q : VK} {k k' : Bool} (I : Inv X pins σ H s) (q : Q (.bl k) H) (e : k = k') : EP X pins σ Q (.bool k') s := by
  subst e
  exact ⟨.bl k, H, I, rfl, q⟩
theorem op_eq : OpR X (compareOp .Eq) rEq := by
  intro pins s σ H x y v u Q I rx ry h
  obtain ⟨hs, q⟩ := h
  cases x with
  | non =>
    cases rx
    cases y with
    | non => cases ry; exact PySem.EqNone.eq_none_none (fin_bl I q (by simp))
    | bl j => cases ry; exact PySem.EqNone.eq_none_bool (fin_bl I q (by simp))
    | int j => obtain ⟨t', rfl⟩ := ry; exact PySem.EqNone.eq_none_int (fin_bl I q (by simp))
    | str j => obtain ⟨t', rfl⟩ := ry; exact PySem.EqNone.eq_none_str (fin_bl I q (by simp))
    | _ => exact absurd (show false = true from hs) Bool.false_ne_true
  | bl i =>
    cases rx
    cases y with
    | non => cases ry; exact PySem.EqNone.eq_bool_none (fin_bl I q (by simp))
    | bl j => cases ry; exact eq_bool (fin_bl I q dec_bl)
    | str j => obtain ⟨t', rfl⟩ := ry; exact PySem.EqMixed.eq_bool_str (fin_bl I q (by simp))
    | _ => exact absurd (show false = true from hs) Bool.false_ne_true
  | int i =>
    obtain ⟨t, rfl⟩ := rx
    cases y with
    | non => cases ry; exact PySem.EqNone.eq_int_none (fin_bl I q (by simp))
    | int j => obtain ⟨t', rfl⟩ := ry; exact eq_int (fin_bl I q dec_int)
    | str j => obtain ⟨t', rfl⟩ := ry; exact PySem.EqMixed.eq_int_str (fin_bl I q (by simp))
    | _ => exact absurd (show false = true from hs) Bool.false_ne_true
  | str i =>
    obtain ⟨t, rfl⟩ := rx
    cases y with
    | non => cases ry; exact PySem.EqNone.eq_str_none (fin_bl I q (by simp))
    | bl j => cases ry; exact PySem.EqMixed.eq_str_bool (fin_bl I q (by simp))
    | int j => obtain ⟨t', rfl⟩ := ry; exact PySem.EqMixed.eq_str_int (fin_bl I q (by simp))
    | str j => obtain ⟨t', rfl⟩ := ry; exact eq_str (fin_bl I q dec_str)
    | _ => exact absurd (show false = true from hs) Bool.false_ne_true
  | byt i =>
    obtain ⟨t, rfl⟩ := rx
    cases y with
    | byt j => obtain ⟨t', rfl⟩ := ry; exact PySem.W.eq_bytes (fin_bl I q dec_byt)
    | _ => exact absurd (show false = true from hs) Bool.false_ne_true
  | _ => cases y <;> exact absurd (show false = true from hs) Bool.false_ne_true
theorem op_ne : OpR X (compareOp .NotEq) rNe := by
  intro pins s σ H x y v u Q I rx ry h
  obtain ⟨hs, q⟩ := h
  cases x with
  | non =>
    cases rx
    cases y with
    | non => cases ry; exact PySem.EqNone.ne_none_none (fin_bl I q (by simp))
    | bl j => cases ry; exact PySem.EqNone.ne_none_bool (fin_bl I q (by simp))
    | int j => obtain ⟨t', rfl⟩ := ry; exact PySem.EqNone.ne_none_int (fin_bl I q (by simp))
    | str j => obtain ⟨t', rfl⟩ := ry; exact PySem.EqNone.ne_none_str (fin_bl I q (by simp))
    | _ => exact absurd (show false = true from hs) Bool.false_ne_true
  | bl i =>
    cases rx
    cases y with
    | non => cases ry; exact PySem.EqNone.ne_bool_none (fin_bl I q (by simp))
    | bl j => cases ry; exact ne_bool (fin_bl I q (congrArg not dec_bl))
    | str j => obtain ⟨t', rfl⟩ := ry; exact PySem.EqMixed.ne_bool_str (fin_bl I q (by simp))
    | _ => exact absurd (show false = true from hs) Bool.false_ne_true
  | int i =>
    obtain ⟨t, rfl⟩ := rx
    cases y with
    | non => cases ry; exact PySem.EqNone.ne_int_none (fin_bl I q (by simp))
    | int j => obtain ⟨t', rfl⟩ := ry; exact ne_int (fin_bl I q (congrArg not dec_int))
    | str j => obtain ⟨t', rfl⟩ := ry; exact PySem.EqMixed.ne_int_str (fin_bl I q (by simp))
    | _ => exact absurd (show false = true from hs) Bool.false_ne_true
  | str i =>
    obtain ⟨t, rfl⟩ := rx
    cases y with
    | non => cases ry; exact PySem.EqNone.ne_str_none (fin_bl I q (by simp))
    | bl j => cases ry; exact PySem.EqMixed.ne_str_bool (fin_bl I q (by simp))
    | int j => obtain ⟨t', rfl⟩ := ry; exact PySem.EqMixed.ne_str_int (fin_bl I q (by simp))
    | str j => obtain ⟨t', rfl⟩ := ry; exact ne_str (fin_bl I q (congrArg not dec_str))
    | _ => exact absurd (show false = true from hs) Bool.false_ne_true
  | byt i =>
    obtain ⟨t, rfl⟩ := rx
    cases y with
    | byt j => obtain ⟨t', rfl⟩ := ry; exact PySem.W.ne_bytes (fin_bl I q (congrArg not dec_byt))
    | _ => exact absurd (show false = true from hs) Bool.false_ne_true
  | _ => cases y <;> exact absurd (show false = true from hs) Bool.false_ne_true

theorem op_lt : OpR X (compareOp .Lt) (rI0 fun i j => .bl (decide (i < j))) := opB0 fun _ _ _ _ _ _ _ q => lt_int q
theorem op_gt : OpR X (compareOp .Gt) (rI0 fun i j => .bl (decide (j < i))) := opB0 fun _ _ _ _ _ _ _ q => gt_int q
theorem op_ge : OpR X (compareOp .GtE) (rI0 fun i j => .bl (decide (j ≤ i))) := opB0 fun _ _ _ _ _ _ _ q => ge_int q
theorem nomark (b : Expr) {op : CmpOp} (h : op ≠ .In := by decide) (h2 : op ≠ .NotIn := by decide) : behindInMarks op b = false := by
  have e1 : (op == CmpOp.In) = false := by cases op <;> first | rfl | exact absurd rfl h
  have e2 : (op == CmpOp.NotIn) = false := by cases op <;> first | rfl | exact absurd rfl h2
  cases b <;> simp [behindInMarks, e1, e2]
/-- a comparison as a value; hm: nomark b, or (for in, not in) by with_unfolding_all rfl -/
theorem pe_cmpR {op : CmpOp} {r : R2} (ho : OpR X (compareOp op) r) (ha : PE X a ta) (hb : PE X b tb) (hm : behindInMarks op b = false) : PE X (.Compare a [op] [b] pos) (tOp r ta tb) := by
  intro pins s σ H Q I h
  exact wpAny_Compare1 (binT ha hb I h fun v u s2 x y H2 I2 rx ry q => ho pins s2 σ H2 x y v u Q I2 rx ry q) hm
/-- a reading of a value as a test -/
def tTest (t : TE) : TT := fun σ H Q => t σ H fun x H' => ∃ k, x = .bl k ∧ Q k H'
theorem pt_cmpR {op : CmpOp} {r : R2} (ho : OpR X (compareOp op) r) (ha : PE X a ta) (hb : PE X b tb) (hm : behindInMarks op b = false) : PT X (.Compare a [op] [b] pos) (tTest (tOp r ta tb)) := by
  intro pins s σ H Q I h
  refine wpAny_isTrue_Compare1 (thn (ha pins s σ H _ I h) fun v s1 ⟨x, H1, I1, r1, q1⟩ => thn (hb pins s1 σ H1 _ I1 q1) fun u s2 ⟨y, H2, I2, r2, q2⟩ =>
    thn (ho pins s2 σ H2 x y v u _ I2 r1 r2 q2) fun c s3 ⟨z, H3, I3, r3, k, e, q3⟩ => ?_) hm
  subst e
  cases r3
  exact wpAny_truthy_bool ⟨H3, I3, q3⟩
/-- a op1 b op2 c -/
def tChain (r r' : R2) (ta tb tc : TE) : TE := fun σ H Q => ta σ H fun x H1 => tb σ H1 fun y H2 => r x y H2 fun z H3 => ∃ k, z = .bl k ∧
  (if k = true then tc σ H3 fun w' H4 => r' y w' H4 Q else Q (.bl false) H3)
theorem line63 : (sizeLine : Nat) < 2 ^ 63 := by rw [sizeLine_eq]; decide
theorem vals1 {x : V} {us : List Value} (r : Vals [x] us) : ∃ u, us = [u] ∧ RelV x u := by
  cases r with
  | cons r1 r2 => cases r2; exact ⟨_, rfl, r1⟩
theorem vals2 {x y : V} {us : List Value} (r : Vals [x, y] us) : ∃ u w', us = [u, w'] ∧ RelV x u ∧ RelV y w' := by
  cases r with
  | cons r1 r2 =>
    cases r2 with
    | cons r3 r4 => cases r4; exact ⟨_, _, rfl, r1, r3⟩
theorem call_max2 (hc : X.calm = true) : CallR X (.builtin "max") (fun xs H Q => ∃ i j, xs = [.int i, .int j] ∧ Q (.int (if j > i then j else i)) H) := by
  intro pins s σ H xs us Q I r h
  obtain ⟨i, j, rfl, q⟩ := h
  obtain ⟨u, w', rfl, ⟨t, rfl⟩, ⟨t', rfl⟩⟩ := vals2 r
  refine max_two_ints (I.ok.hd hc) fun h' tk k => ⟨_, H, I.kept k, ?_, q⟩
  by_cases hj : j > i
  · rw [if_pos hj, if_pos hj]; exact ⟨_, rfl⟩
  · rw [if_neg hj, if_neg hj]; exact ⟨_, rfl⟩
theorem call_min2 (hc : X.calm = true) : CallR X (.builtin "min") (fun xs H Q => ∃ i j, xs = [.int i, .int j] ∧ Q (.int (if j < i then j else i)) H) := by
  intro pins s σ H xs us Q I r h
  obtain ⟨i, j, rfl, q⟩ := h
  obtain ⟨u, w', rfl, ⟨t, rfl⟩, ⟨t', rfl⟩⟩ := vals2 r
  refine min_two_ints (I.ok.hd hc) fun h' tk k => ⟨_, H, I.kept k, ?_, q⟩
  by_cases hj : j < i
  · rw [if_pos hj, if_pos hj]; exact ⟨_, rfl⟩
  · rw [if_neg hj, if_neg hj]; exact ⟨_, rfl⟩
end
end L2

namespace L2
open PySem PySem.Spec PyProof.Rows

structure ObjM (h : Heap) (x dx C : Addr) (mA : Str → Option Value) : Prop where
  obj : h.get? x = some (PySem.W.instObj C dx)
  ns : h.Ns1 dx mA
  ne : dx ≠ x

theorem lookIn_ns {h : Heap} {dx : Addr} {mA : Str → Option Value} (n : h.Ns1 dx mA) : ∃ od, h.get? dx = some od ∧ ∀ name, PySem.W.lookIn name od = some (mA name) := by
  obtain ⟨o, es, ep, ho, hd, hk, _, hm⟩ := n
  refine ⟨o, ho, fun name => ?_⟩
  have e := hm name
  unfold nsFind findBy at e
  rw [← Array.find?_toList] at e
  unfold PySem.W.lookIn
  rw [hd]
  dsimp only
  split
  · rename_i y q
    rw [q] at e
    exact congrArg some e
  · rename_i q
    rw [q] at e
    have a : es.toList.any (·.refKey) = false := by
      rw [List.any_eq_false]
      intro y hy
      obtain ⟨z, t, hkey⟩ := hk y (Array.mem_toList_iff.mp hy)
      simp [DictEntry.refKey, hkey]
    have a' : ¬ es.toList.any (·.refKey) = true := by rw [a]; exact Bool.false_ne_true
    rw [if_neg a']
    exact congrArg some e

theorem ObjM.look {h : Heap} {x dx C : Addr} {mA : Str → Option Value} (I : ObjM h x dx C mA) : ∃ od, PySem.W.InstAt h x (PySem.W.instObj C dx) C (some od) ∧ ∀ name, PySem.W.lookIn name od = some (mA name) :=
  let ⟨od, ho, hl⟩ := lookIn_ns I.ns
  ⟨od, ⟨I.obj, rfl, rfl, ho⟩, hl⟩

section
variable {prog : Program} {w : World} {A : Around} {E : Value → Shared → Prop} {s : Shared} {K : PySem.W.Frag} {x dx C f : Addr} {mA : Str → Option Value} {name : Str} {v : Value}

end

def putF (f : Str) (v : V) : List (Str × V) → List (Str × V)
  | [] => [(f, v)]
  | (g, x) :: r => if g = f then (g, v) :: r else (g, x) :: putF f v r
section
variable {P : Program} {w : World} {H H' : Hp} {h h' : Heap} {a C dx : Addr} {fs fs' : List (Str × V)}
theorem ins_get (hok : HOk P w H h) (e : H a = some (.ins C dx fs)) : ∃ mA, ObjM h a dx C mA ∧ (∀ f, RelO (fs.lookup f) (mA f)) ∧ PySem.Within mA (fs.map (·.1)) ∧ fs.length ≤ 1000 ∧ H dx = some (.own a) := by
  obtain ⟨d, z, ne, ob, mA, n, r, q⟩ := (show ObjOk P w H h a (.ins C dx fs) from hok a _ e)
  exact ⟨mA, ⟨ob, n, ne⟩, r, q, z, d⟩
end

structure Cls (K : PySem.W.Frag) (C : Addr) : Prop where
  pg : PySem.W.plainGet K C Str.empty = true
  hd : PySem.W.hasDictIn K C = true
  po : PySem.W.plainOver K C = true
  sa : PySem.W.findIn K (.ref C) "__setattr__" = some (some (.builtin "object.__setattr__"))
theorem Cls.get {K : PySem.W.Frag} {C : Addr} (c : Cls K C) (f : Str) : PySem.W.plainGet K C f = true := c.pg
/-- no class of it has the name -/
def NoAttr (K : PySem.W.Frag) (C : Addr) (f : Str) : Prop := PySem.W.findIn K (.ref C) f = some none
section
variable {X : Cx} {pins : List (Addr × Obj)} {σ : St} {H : Hp} {s : Shared} {a C dx : Addr} {fs : List (Str × V)} {f : Str} {v : V} {A : Around} {E : Value → Shared → Prop}

end

/-- e.f, an attribute of the instance -/
def tFld (K : PySem.W.Frag) (ta : TE) (f : Str) : TE := fun σ H Q => ta σ H fun x H1 => ∃ a C dx fs v, x = .ref a ∧ H1 a = some (.ins C dx fs) ∧ Cls K C ∧ NoAttr K C f ∧ fs.lookup f = some v ∧ Q v H1
/-- e.f = value -/
def sFld (K : PySem.W.Frag) (ta tv : TE) (f : Str) : TS := fun D σ H => tv σ H fun y H1 => ta σ H1 fun x H2 => ∃ a C dx fs, x = .ref a ∧ H2 a = some (.ins C dx fs) ∧ Cls K C ∧ NoAttr K C f ∧ fs.length < 1000 ∧
  D.nx σ (upd H2 a (.ins C dx (putF f y fs)))
/-- e.f op= value -/
def sFldAug (K : PySem.W.Frag) (ta tv : TE) (rd : V → V → Hp → VK → Prop) (f : Str) : TS := fun D σ H => ta σ H fun x H1 => ∃ a C dx fs v, x = .ref a ∧ H1 a = some (.ins C dx fs) ∧ Cls K C ∧ NoAttr K C f ∧ fs.lookup f = some v ∧
  tv σ H1 fun y H2 => rd v y H2 fun z H3 => ∃ dx' fs', H3 a = some (.ins C dx' fs') ∧ fs'.length < 1000 ∧ D.nx σ (upd H3 a (.ins C dx' (putF f z fs')))

section
variable {X : Cx} {o e value : Expr} {f : Str} {pos pos' tpos : Pos} {ta tv : TE}
end

section
variable {X : Cx} {pins : List (Addr × Obj)} {σ : St} {H : Hp} {s : Shared} {A : Around} {E : Value → Shared → Prop} {Q : Value → Shared → Prop} {c : Value} {b : Bool}
/-- the type of a value, as the fragment's deciders take it; for an instance its class -/
inductive TyOf (K : PySem.W.Frag) (H : Hp) : V → Value → Prop where
  | non : TyOf K H .non (.type "NoneType")
  | bl (x : Bool) : TyOf K H (.bl x) (.type "bool")
  | int (i : Int) : TyOf K H (.int i) (.type "int")
  | str (x : Str) : TyOf K H (.str x) (.type "str")
  | flt (x : UInt64) : TyOf K H (.flt x) (.type "float")
  | lst {a : Addr} {xs : List V} (e : H a = some (.lst xs)) : TyOf K H (.ref a) (.type "list")
  | frz {a : Addr} {o : Obj} {xs : List V} (e : H a = some (.frz o (.lst xs))) : TyOf K H (.ref a) (.type "list")
  | tup {a : Addr} {xs : List V} (e : H a = some (.tup xs)) : TyOf K H (.ref a) (.type "tuple")
  | dK {a : Addr} {kvs : List (Key × V)} (e : H a = some (.dK kvs)) : TyOf K H (.ref a) (.type "dict")
  | dT {a : Addr} {kvs : List (List Key × V)} (e : H a = some (.dT kvs)) : TyOf K H (.ref a) (.type "dict")
  | ins {a C dx : Addr} {fs : List (Str × V)} (e : H a = some (.ins C dx fs)) (cl : Cls K C) (ha : PySem.W.findIn K (.ref C) "__class__" = some (some (.builtin "object.__class__")))
      (hn : PySem.W.specialIn K (.builtin "object.__class__") "__get__" = some (some (.builtin "getset_descriptor.__get__"))) (htk : PySem.W.takesIn K (.builtin "object.__class__") = some true)
      (hm : PySem.W.mroIn K C (.type "object") = some true) : TyOf K H (.ref a) (.ref C)
/-- isinstance(x, c) for one class c, a built-in or an own one: kitOne's answer -/
theorem isinst_ok {x : V} {u t : Value} (I : Inv X pins σ H s) (rx : RelV x u) (ty : TyOf X.K H x t) (e : PySem.W.kitOne X.K t c = some b) (h : ∀ tk, Q (.bool b) { s with toks := tk }) :
    wpAny (model X.prog X.w) A (call (.builtin "isinstance") [u, c]) Q E s := by
  cases ty with
  | non => cases (show u = Value.none from rx); exact PySem.W.kia_one PySem.W.kitx_none I.kIn True.intro e (fun z => nomatch z) h
  | bl y => cases (show u = Value.bool y from rx); exact PySem.W.kia_one PySem.W.kitx_bool I.kIn True.intro e (fun z => nomatch z) h
  | int i => obtain ⟨t, q⟩ := (show ∃ t, u = Value.int i t from rx); cases q; exact PySem.W.kia_one PySem.W.kitx_int I.kIn True.intro e (fun z => nomatch z) h
  | str y => obtain ⟨t, q⟩ := (show ∃ t, u = Value.str y t from rx); cases q; exact PySem.W.kia_one PySem.W.kitx_str I.kIn True.intro e (fun z => nomatch z) h
  | flt y => obtain ⟨t, q⟩ := (show ∃ t, u = Value.float y t from rx); cases q; exact PySem.W.kia_one PySem.W.kitx_float I.kIn True.intro e (fun z => nomatch z) h
  | @lst a xs ea =>
    cases (show u = Value.ref a from rx)
    obtain ⟨_, _, n, _, h1⟩ := (show ObjOk X.prog X.w H s.heap a (.lst xs) from I.hok a _ ea)
    exact PySem.W.kia_one PySem.W.kitx_list I.kIn ⟨_, h1, rfl⟩ e (fun z => nomatch z) h
  | @frz a ob xs ea =>
    cases (show u = Value.ref a from rx)
    obtain ⟨_, _, _, n, _, h1⟩ := (show ObjOk X.prog X.w H s.heap a (.frz ob (.lst xs)) from I.hok a _ ea)
    exact PySem.W.kia_one PySem.W.kitx_list I.kIn ⟨_, h1, rfl⟩ e (fun z => nomatch z) h
  | @tup a xs ea =>
    cases (show u = Value.ref a from rx)
    obtain ⟨_, _, _, p⟩ := (show ObjOk X.prog X.w H s.heap a (.tup xs) from I.hok a _ ea)
    obtain ⟨o, h1, h2, _⟩ := p
    exact PySem.W.kia_one PySem.W.kitx_tuple I.kIn ⟨o, h1, h2⟩ e (fun z => nomatch z) h
  | @dK a kvs ea =>
    cases (show u = Value.ref a from rx)
    obtain ⟨_, _, vs, _, p⟩ := (show ObjOk X.prog X.w H s.heap a (.dK kvs) from I.hok a _ ea)
    obtain ⟨o, es, ep, h1, h2, _⟩ := p
    exact PySem.W.kia_one PySem.W.kitx_dict I.kIn ⟨o, h1, h2.1⟩ e (fun z => nomatch z) h
  | @dT a kvs ea =>
    cases (show u = Value.ref a from rx)
    obtain ⟨_, _, xs, _, o, es, ep, h1, h2, _⟩ := (show ObjOk X.prog X.w H s.heap a (.dT kvs) from I.hok a _ ea)
    exact PySem.W.kia_one PySem.W.kitx_dict I.kIn ⟨o, h1, h2.1⟩ e (fun z => nomatch z) h
  | @ins a C dx fs ea cl ha hn htk hm =>
    cases (show u = Value.ref a from rx)
    obtain ⟨mA, O, _⟩ := ins_get I.hok ea
    obtain ⟨od, J, _⟩ := O.look
    exact PySem.W.kia_one (PySem.W.kitx_own (cl.get _) cl.hd ha hn htk hm) I.kIn J e (fun z => nomatch z) h
end
end L2

namespace L2
open PySem PySem.Spec PyProof.Rows

structure Room (k : Nat) (A : Around) : Prop where
  hd : A.handled = none
  dp : A.depth + 3 * k + 5 < recursionLimit
  un : A.units + 16 * k + 200 < cLine
theorem Room.mono {j k : Nat} {A : Around} (r : Room k A) (h : j ≤ k) : Room j A := ⟨r.hd, by have := r.dp; omega, by have := r.un; omega⟩
theorem Room.deeper {k : Nat} {A : Around} (r : Room (k + 1) A) (env : Env) : Room k (A.deeper env) :=
  ⟨r.hd, by have := r.dp; show A.depth + 1 + 3 * k + 5 < _; omega, by have := r.un; show A.units + 3 + 16 * k + 200 < _; omega⟩
theorem Room.depth {k : Nat} {A : Around} (r : Room k A) : A.depth < recursionLimit := by have := r.dp; omega
theorem Room.units {k : Nat} {A : Around} (r : Room k A) : A.units + 64 < cLine := by have := r.un; omega
def tNil : TA := fun _ H Q => Q [] H
def tCons (ta : TE) (tr : TA) : TA := fun σ H Q => ta σ H fun x H1 => tr σ H1 fun xs H2 => Q (x :: xs) H2
section
variable {X : Cx} {e : Expr} {es : List Expr} {te : TE} {t : TA} {pos : Pos}
theorem pa_nil : PA X [] tNil := fun _ _ _ _ H Q I h => Calls.spliced_nil ⟨[], H, I, .nil, h⟩
theorem pa_cons (ha : PE X e te) (hr : PA X es t) (hs : starEach (e :: es) X.env = (false, eval e X.env) :: starEach es X.env := by rfl) : PA X (e :: es) (tCons te t) := by
  intro pos pins s σ H Q I h
  rw [hs]
  show wpAny _ _ (spliced ((false, eval e X.env) :: backTo pos (starEach es X.env))) _ _ s
  refine Calls.spliced_cons (thn (ha pins s σ H _ I h) fun u s1 ⟨x, H1, I1, r1, q1⟩ => ?_)
  exact thn (hr pos pins s1 σ H1 _ I1 q1) fun us s2 ⟨xs, H2, I2, r2, q2⟩ => ⟨x :: xs, H2, I2, .cons r1 r2, q2⟩

/-- a tuple, a list of written items -/
def tTup (t : TA) : TE := fun σ H Q => t σ H fun xs H1 => xs.length ≤ sizeLine ∧ ∀ p, H1 p = none → Q (.ref p) (upd H1 p (.tup xs))
def tLst (t : TA) : TE := fun σ H Q => t σ H fun xs H1 => xs.length ≤ sizeLine ∧ ∀ p, H1 p = none → Q (.ref p) (upd H1 p (.lst xs))
theorem pe_tup {x1} (h : PA X es t) : PE X (.Tuple es x1 pos) (tTup t) := by
  intro pins s σ H Q I hq
  refine wpAny_Tuple_spliced (thn (h pos pins s σ H _ I hq) fun us s1 ⟨xs, H1, I1, r, z, q⟩ => ⟨by rw [← r.length]; exact z, ?_⟩)
  have hf : H1 s1.heap.objs.size = none := I1.hok.fresh (Nat.le_refl _)
  refine ⟨.ref s1.heap.objs.size, upd H1 s1.heap.objs.size (.tup xs), I1.laid (t' := s1.toks) (fun b u e => Heap.get?_push_of_some _ e) (Nat.le_refl _) ?_, rfl, q _ hf⟩
  exact ⟨z, us, r, ⟨_, Heap.get?_push_size _ rfl, rfl, _, rfl⟩⟩
theorem pe_lst (h : PA X es t) : PE X (.List es pos) (tLst t) := by
  intro pins s σ H Q I hq
  refine wpAny_List_spliced (thn (h pos pins s σ H _ I hq) fun us s1 ⟨xs, H1, I1, r, z, q⟩ => ⟨by rw [← r.length]; exact z, ?_⟩)
  have hf : H1 s1.heap.objs.size = none := I1.hok.fresh (Nat.le_refl _)
  refine ⟨.ref s1.heap.objs.size, upd H1 s1.heap.objs.size (.lst xs), I1.laid (t' := s1.toks) (fun b u e => Heap.get?_push_of_some _ e) (Nat.le_refl _) ?_, rfl, q _ hf⟩
  exact ⟨z, us, 0, r, Heap.get?_push_size _ rfl⟩
end

/-- a def's promise: the bound arguments in the parameters' order, the heap, the wanted end, the wanted exception -/
abbrev Sp := List V → Hp → VK → XK → Prop
/-- how an exception lies behind a call (file 08 gives it): the callers' frames, abstract heap and state ahead of the call, the wish, the exception, the state -/
abbrev CXT := List Env → Hp → Shared → XK → Value → Shared → Prop

/-- the state at a call -/
structure Env0 (P : Program) (w : World) (K : PySem.W.Frag) (mg : Str → Option Value) (base : Heap) (A : Around) (outer : List Env) (s : Shared) (H : Hp) : Prop where
  frames : A.frames = some outer
  mod : Mod K mg base
  bs : ∀ b o, base.get? b = some o → s.heap.get? b = some o ∧ H b = none
  bsz : base.objs.size ≤ s.heap.objs.size
  funs : s.heap.FunFrames base outer
  frf : ∀ b ∈ frs outer, H b = none
  hok : HOk P w H s.heap
  bare : AllBare s.gens
/-- a call's end -/
def CE (outer : List Env) (P : Program) (w : World) (H : Hp) (s : Shared) (Q : VK) (u : Value) (s' : Shared) : Prop :=
  ∃ v H', s'.os = s.os ∧ AllBare s'.gens ∧ Un (frs outer) [] H H' s.heap s'.heap ∧ HOk P w H' s'.heap ∧ RelV v u ∧ Q v H'
def CR (CX : CXT) (outer : List Env) (P : Program) (w : World) (H : Hp) (s : Shared) (Q : VK) (E : XK) (r : Result) (s' : Shared) : Prop :=
  match r with
  | .ok (.ret u) => CE outer P w H s Q u s'
  | .ok _ => False
  | .error e => CX outer H s E e s'
structure FnOk (P : Program) (w : World) (K : PySem.W.Frag) (mg : Str → Option Value) (base : Heap) (CX : CXT) (k : Nat) (f : Addr) (fd : FuncData) (ps : List Str) (sp : Sp) : Prop where
  len : ∀ vs H Q E, sp vs H Q E → vs.length = ps.length
  run : ∀ (A : Around) (outer : List Env) (s : Shared) (H : Hp) (args : Args) (us : List Value) (vs : List V) (Q : VK) (E : XK), Room k A → Env0 P w K mg base A outer s H → BindsTo s fd args (ps.zip us) → Vals vs us → sp vs H Q E →
    codeAny (model P w) A (.call (.ref f) args) (CR CX outer P w H s Q E) s
section
variable {X : Cx} {pins : List (Addr × Obj)} {σ : St} {H : Hp} {s s' : Shared}
/-- from a body: what a callee wants -/
theorem Inv.env0 (I : Inv X pins σ H s) : Env0 X.prog X.w X.K X.mg X.base X.A X.stack s H :=
  ⟨I.ok.frames, I.ok.mod, I.bs, Nat.le_trans I.ok.bsz I.sz, I.stack, I.stkFree, I.hok, I.bare⟩
/-- behind a call -/
theorem Inv.after {Q : VK} {u : Value} (I : Inv X pins σ H s) (h : CE X.stack X.prog X.w H s Q u s') : EP X pins σ Q u s' := by
  obtain ⟨v, H', os, bare, un, hok, r, q⟩ := h
  obtain ⟨hh, g, d, t, os'⟩ := s'
  obtain rfl : os' = s.os := os
  exact ⟨v, H', I.call (h' := hh) (g' := g) (d' := d) (t' := t) (ch := []) un hok bare (fun b z => absurd z (by simp)), r, q⟩
end

/-- f(..): the written arguments, then the defaults dvs; E: what is wanted of an exception -/
def tCall (sp : Sp) (dvs : List V) (E : XK) (t : TA) : TE := fun σ H Q => t σ H fun vs H1 => sp (vs ++ dvs) H1 Q E
/-- o.m(..) of an instance of the class at C -/
def tMeth (C : Addr) (m : Str) (sp : Sp) (dvs : List V) (E : XK) (ta : TE) (t : TA) : TE := fun σ H Q => ta σ H fun x H1 => ∃ a dx fs, x = .ref a ∧ H1 a = some (.ins C dx fs) ∧ fs.lookup m = none ∧
  t σ H1 fun vs H2 => sp (x :: (vs ++ dvs)) H2 Q E
/-- C(..): a new instance and its dict, then __init__ -/
def tMake (C : Addr) (sp : Sp) (dvs : List V) (E : XK) (t : TA) : TE := fun σ H Q => t σ H fun vs H1 => ∀ x dx, H1 x = none → H1 dx = none → dx ≠ x →
  sp (.ref x :: (vs ++ dvs)) (upd (upd H1 dx (.own x)) x (.ins C dx [])) (fun v H2 => v = .non ∧ Q (.ref x) H2) E

/-- how the parameters are bound: us the positional arguments, kw the keywords' values by name, ds the defaults that fill up -/
def Binds (K : PySem.W.Frag) (fd : FuncData) (ps : List Str) (ds : List Value) : Prop :=
  ∀ (s : Shared) (us : List Value), K.In s.heap → (us ++ ds).length = ps.length → BindsTo s fd ⟨us, []⟩ (ps.zip (us ++ ds))
/-- every parameter is given -/
theorem Binds.all {K : PySem.W.Frag} {fd : FuncData} {ps : List Str} (h : ∀ us : List Value, us.length = ps.length → bindArgs fd ⟨us, []⟩ = pure (ps.zip us)) : Binds K fd ps [] := fun s us _ hl => by
  rw [List.append_nil] at hl ⊢
  exact .of_eq (h us hl)

/-- an exception of a callee reaches what this body wants of exceptions -/
def Passes (CX : CXT) (X : Cx) (E : XK) : Prop := ∀ (pins : List (Addr × Obj)) (σ : St) (H : Hp) (s : Shared) (e : Value) (s' : Shared), Inv X pins σ H s → CX X.stack H s E e s' → X.xe e s'

section
variable {X : Cx} {CX : CXT} {k : Nat} {f C : Addr} {fd : FuncData} {ps : List Str} {sp : Sp} {dvs : List V} {ds : List Value} {E : XK} {x m : Str} {p pos apos : Pos} {e o : Expr} {es : List Expr} {ta : TE} {t : TA}

/-- the callee runs -/
theorem run_fn {pins : List (Addr × Obj)} {σ : St} {H : Hp} {s : Shared} {Q : VK} {us : List Value} {vs : List V} (F : FnOk X.prog X.w X.K X.mg X.base CX k f fd ps sp) (hr : Room k X.A) (hb : Binds X.K fd ps ds) (hd : Vals dvs ds) (hx : Passes CX X E)
    (I : Inv X pins σ H s) (r : Vals vs us) (h : sp (vs ++ dvs) H Q E) : wpAny (model X.prog X.w) X.A (call (.ref f) us) (EP X pins σ Q) X.xe s := by
  have r2 : Vals (vs ++ dvs) (us ++ ds) := r.append hd
  have hl : (us ++ ds).length = ps.length := by rw [← r2.length]; exact F.len _ _ _ _ h
  refine wpAny_call (codeAny_mono (F.run X.A X.stack s H ⟨us, []⟩ (us ++ ds) (vs ++ dvs) Q E hr I.env0 (hb s us I.kIn hl) r2 h) fun r s' hq => ?_)
  cases r with
  | error e => exact hx pins σ H s e s' I hq
  | ok fl =>
    cases fl with
    | ret u => exact I.after hq
    | next => exact False.elim hq
    | brk => exact False.elim hq
    | cont => exact False.elim hq

theorem pe_call (F : FnOk X.prog X.w X.K X.mg X.base CX k f fd ps sp) (hr : Room k X.A) (hg : Gl X x) (hm : X.mg x = some (.ref f)) (hk : PySem.W.keepIn X.K (.ref f) = true) (hb : Binds X.K fd ps ds) (hd : Vals dvs ds) (hx : Passes CX X E)
    (ha : PA X (e :: es) t) (hdb : (x == ("__debug__" : Str)) = false := by decide) (he : starEach (e :: es) X.env = (false, eval e X.env) :: starEach es X.env := by rfl) (hpl : (backTo pos (starEach es X.env)).any (·.1) = false := by rfl) :
    PE X (.Call (.Name x p) (e :: es) [] pos) (tCall sp dvs E t) := by
  intro pins s σ H Q I h
  refine wpAny_Call_Name_kw (ld_glob I hg hm ?_ hdb)
  refine PySem.W.callWith_K (h₀ := X.base) I.ok.mod.kin hk (thn (ha pos pins s σ H _ I h) fun us s1 ⟨vs, H1, I1, r, q⟩ => ⟨I1.kIn, ?_⟩) he hpl
  exact run_fn F hr hb hd hx I1 r q
end

section
variable {X : Cx} {CX : CXT} {k : Nat} {f C : Addr} {fd : FuncData} {ps ks : List Str} {sp : Sp} {E : XK} {x m : Str} {p pos apos kpos : Pos} {e o : Expr} {es : List Expr} {kws : List Keyword} {te ta : TE} {t tk : TA} {nm : Option Str}
variable {g : List Value → List Value → List Value} {gV : List V → List V → List V}
end

/-- names: the parameters first -/
structure FnScope (N P : List Str) (sc : Scope) : Prop where
  kind : sc.kind = .function
  co : sc.isCoroutine = false
  gen : sc.isGenerator = false
  nd : N.Nodup
  pre : N.take P.length = P
  par : ∀ x ∈ P, sc.names.lookup x = some .local ∨ sc.names.lookup x = some .cell
  nofree : ∀ y ∈ sc.names, y.2 ≠ .free

theorem bindL_out {kindOf : Str → Option NameKind} {x : Str} : ∀ {binds : List (Str × Value)} {m : Str → Option Value}, (∀ v, (x, v) ∉ binds) → bindL kindOf binds m x = m x
  | [], _, _ => rfl
  | (n, v) :: r, m, h => by
    unfold bindL
    rw [bindL_out fun w hw => h w (List.mem_cons_of_mem _ hw)]
    split
    · have : x ≠ n := by rintro rfl; exact h v List.mem_cons_self
      simp [this]
    · rfl
theorem bindC_out {kindOf : Str → Option NameKind} {x : Str} : ∀ {binds : List (Str × Value)} {m : Str → Option Value}, (∀ v, (x, v) ∉ binds) → bindC kindOf binds m x = m x
  | [], _, _ => rfl
  | (n, v) :: r, m, h => by
    unfold bindC
    rw [bindC_out fun w hw => h w (List.mem_cons_of_mem _ hw)]
    split
    · rfl
    · have : x ≠ n := by rintro rfl; exact h v List.mem_cons_self
      simp [this]
theorem bindL_get {kindOf : Str → Option NameKind} {x : Str} {v : Value} : ∀ {P : List Str} {vs : List Value} {i : Nat} {m : Str → Option Value}, P.Nodup → P[i]? = some x → vs[i]? = some v → kindOf x = some .local →
    bindL kindOf (P.zip vs) m x = some v
  | [], _, _, _, _, h, _, _ => by simp at h
  | _ :: _, [], _, _, _, _, h, _ => by simp at h
  | p :: P, w :: vs, 0, m, nd, h1, h2, hk => by
    simp at h1 h2; subst h1; subst h2
    show bindL kindOf ((p, w) :: P.zip vs) m p = _
    unfold bindL
    rw [bindL_out fun v hv => (List.nodup_cons.mp nd).1 (List.of_mem_zip hv).1, if_pos hk]
    simp
  | p :: P, w :: vs, i + 1, m, nd, h1, h2, hk => by
    show bindL kindOf ((p, w) :: P.zip vs) m x = _
    unfold bindL
    exact bindL_get (i := i) (List.nodup_cons.mp nd).2 (by simpa using h1) (by simpa using h2) hk
theorem bindC_get {kindOf : Str → Option NameKind} {x : Str} {v : Value} : ∀ {P : List Str} {vs : List Value} {i : Nat} {m : Str → Option Value}, P.Nodup → P[i]? = some x → vs[i]? = some v → kindOf x ≠ some .local →
    bindC kindOf (P.zip vs) m x = some v
  | [], _, _, _, _, h, _, _ => by simp at h
  | _ :: _, [], _, _, _, _, h, _ => by simp at h
  | p :: P, w :: vs, 0, m, nd, h1, h2, hk => by
    simp at h1 h2; subst h1; subst h2
    show bindC kindOf ((p, w) :: P.zip vs) m p = _
    unfold bindC
    rw [bindC_out fun v hv => (List.nodup_cons.mp nd).1 (List.of_mem_zip hv).1, if_neg hk]
    simp
  | p :: P, w :: vs, i + 1, m, nd, h1, h2, hk => by
    show bindC kindOf ((p, w) :: P.zip vs) m x = _
    unfold bindC
    exact bindC_get (i := i) (List.nodup_cons.mp nd).2 (by simpa using h1) (by simpa using h2) hk

/-- the names' values at the entry -/
def start (N : List Str) (vs : List V) : St := vs.map some ++ List.replicate (N.length - vs.length) none

/-- the context of a def's body, at its entry; an exception leaves the frame, then lies as CX says -/
def cxOf (CX : CXT) (P : Program) (w : World) (K : PySem.W.Frag) (mg : Str → Option Value) (base : Heap) (N : List Str) (qual : Str) (scope : Scope) (f : Addr) (cd : Value) (A : Around) (outer : List Env) (s : Shared) (H : Hp) (E : XK) : Cx where
  prog := P
  w := w
  K := K
  mg := mg
  base := base
  A := A.deeper (envOfC qual scope s.heap.objs.size f cd)
  N := N
  s₀ := s
  H₀ := H
  env := envOfC qual scope s.heap.objs.size f cd
  outer := outer
  stack := envOfC qual scope s.heap.objs.size f cd :: outer
  ex := []
  calm := true
  fn := fun _ => true
  pn := []
  xe := fun e s' => wpAny (model P w) (A.deeper (envOfC qual scope s.heap.objs.size f cd)) (leaving (envOfC qual scope s.heap.objs.size f cd) e) (fun _ s'' => CX outer H s E e s'') (fun e' s'' => CX outer H s E e' s'') s'

theorem cell_has {sc : Scope} {n : Nat} {x : Str} (h : sc.names.lookup x = some .cell) : ∃ c, (cellsFrom n sc.names []).lookup x = some c := by
  have q := PySem.W.cellsFrom_some sc.names n [] (.inl h)
  exact Option.isSome_iff_exists.mp q

theorem inv_start {CX : CXT} {P : Program} {w : World} {K : PySem.W.Frag} {mg : Str → Option Value} {base : Heap} {N ps : List Str} {qual : Str} {scope : Scope} {f : Addr} {cd : Value} {A : Around} {outer : List Env} {s s1 : Shared} {H : Hp} {E : XK} {us : List Value} {vs : List V}
    (S : FnScope N ps scope) (hd : A.handled = none) (e0 : Env0 P w K mg base A outer s H) (hl : vs.length = ps.length) (r : Vals vs us)
    (x : InCallC s s.heap.objs.size (bindL (envOfC qual scope s.heap.objs.size f cd).kindOf (ps.zip us) fun _ => none) (cellsFrom (s.heap.objs.size + 1) scope.names []) (bindC (envOfC qual scope s.heap.objs.size f cd).kindOf (ps.zip us) fun _ => none) s1) :
    Inv (cxOf CX P w K mg base N qual scope f cd A outer s H E) [] (start N vs) H s1 := by
  have hpl : ps.length ≤ N.length := by have := congrArg List.length S.pre; rw [List.length_take] at this; omega
  obtain ⟨h1, tk, rfl, hk⟩ := x.done
  have noA : ∀ b : Addr, b ∉ (cxOf CX P w K mg base N qual scope f cd A outer s H E).ex := fun b z => absurd (show b ∈ ([] : List Addr) from z) (by simp)
  refine ⟨⟨e0.mod, S.kind, rfl, rfl, Nat.le_refl _, fun y z c h1 h2 => ?_, fun y hy => ?_, fun y c _ h => ?_, fun _ => hd, Around.frames_deeper e0.frames, .inr ⟨rfl, rfl⟩, fun b z => absurd z (noA b), e0.bs, e0.bsz, fun b _ _ => noA b, fun b z => absurd z (noA b), e0.funs, e0.frf⟩,
    rfl, e0.bare, Un.kept hk, ⟨_, x.toInCall.ns, fun i y v h1 h2 h3 => ?_⟩, fun y c h => ⟨_, x.cell y c h⟩, e0.hok.fresh (Nat.le_refl _), fun y c h => ?_, fun p hp => absurd (show p ∈ ([] : List (Addr × Obj)) from hp) (by simp), e0.hok.kept hk, ?_⟩
  · exact name_of_addr x.apart (PySem.mem_of_lookup h1) (PySem.mem_of_lookup h2)
  · have hy : scope.names.lookup y = some .cell ∨ scope.names.lookup y = some .free := hy
    rcases hy with hy | hy
    · exact cell_has hy
    · exact absurd rfl (S.nofree _ (PySem.mem_of_lookup hy))
  · exact Nat.le_of_lt (x.above y c (PySem.mem_of_lookup h))
  · have hi : i < vs.length := by
      unfold start at h2
      by_cases hi : i < vs.length
      · exact hi
      · rw [List.getElem?_append_right (by simpa using hi)] at h2
        rw [List.getElem?_replicate] at h2
        split at h2 <;> cases h2
    have ha : vs[i]? = some v := by
      unfold start at h2
      rw [List.getElem?_append_left (by simpa using hi), List.getElem?_map] at h2
      cases e : vs[i]? with
      | none => rw [e] at h2; cases h2
      | some a => rw [e] at h2; cases h2; rfl
    obtain ⟨u, hu, rv⟩ := r.get ha
    have hp : ps[i]? = some y := by
      rw [← S.pre, List.getElem?_take_of_lt (by omega)]; exact h1
    have ndP : ps.Nodup := by rw [← S.pre]; exact S.nd.sublist (List.take_sublist _ _)
    refine ⟨u, rv, ?_⟩
    rcases S.par y (List.mem_of_getElem? hp) with k | k
    · exact .inl ⟨k, bindL_get ndP hp hu k⟩
    · obtain ⟨c, e⟩ := cell_has (n := s.heap.objs.size + 1) k
      refine .inr ⟨.inl k, c, e, ?_⟩
      have q := x.cell y c e
      rw [bindC_get ndP hp hu (by show scope.names.lookup y ≠ _; rw [k]; decide)] at q
      exact q
  · exact e0.hok.fresh (Nat.le_of_lt (x.above y c (PySem.mem_of_lookup h)))
  · unfold start
    show _ = N.length
    rw [List.length_append, List.length_map, List.length_replicate]
    omega

/-- THE RULE: a def (or a method) of the text, by its body. The body's reading t is chosen for each entry; it is run at the parameters' values -/
theorem fn_of {CX : CXT} {P : Program} {w : World} {K : PySem.W.Frag} {mg : Str → Option Value} {base : Heap} {k : Nat} {f : Addr} {name qual : Str} {params : Arguments} {body : List Stmt} {scope : Scope} {dV kV doc pm cdv ct oc : Value} {an od : Option Addr}
    {osl : Array (Option Value)} {N ps : List Str} {sp : Sp} (lk : K.lookup f = some ⟨oc, od, .func (PySem.W.fnOf name qual params body scope dV kV doc pm an cdv ct), osl⟩) (hcd : PySem.W.codeIn K cdv qual = true) (S : FnScope N ps scope)
    (len : ∀ vs H Q E, sp vs H Q E → vs.length = ps.length)
    (hbody : ∀ (A : Around) (outer : List Env) (s : Shared) (H : Hp) (vs : List V) (Q : VK) (E : XK), Room k (A.deeper (envOfC qual scope s.heap.objs.size f cdv)) → sp vs H Q E →
      ∃ t, PSs (cxOf CX P w K mg base N qual scope f cdv A outer s H E) body t ∧ t { nx := fun _ H' => Q .non H', rt := Q } (start N vs) H) :
    FnOk P w K mg base CX (k + 1) f (PySem.W.fnOf name qual params body scope dV kV doc pm an cdv ct) ps sp := by
  refine ⟨len, fun A outer s H args us vs Q E hr e0 hb r hsp => ?_⟩
  have hl := len _ _ _ _ hsp
  have KX : K.In s.heap := e0.mod.kin.keeps fun b o e => (e0.bs b o e).1
  have lim : s.heap.NoLimit := e0.mod.nolimit.keeps fun b o e => (e0.bs b o e).1
  have hkind : ∀ y ∈ ps.zip us, scope.names.lookup y.1 = some .local ∨ (scope.names.lookup y.1 = some .cell ∧ ((cellsFrom (s.heap.objs.size + 1) scope.names []).lookup y.1).isSome = true) := fun ⟨n, v⟩ hy => by
    rcases S.par n (List.of_mem_zip hy).1 with q | q
    · exact .inl q
    · exact .inr ⟨q, PySem.W.cellsFrom_some _ _ _ (.inl q)⟩
  refine codeAny_call_function hr.depth (KX _ _ lk) rfl S.co S.gen rfl (PySem.W.codeRec_of KX hcd) (hb _ _ _ _ ?_)
  refine wpAny_newFunctionEnv_cells S.kind hkind fun env he s1 x => ?_
  subst he
  refine ⟨lim.keeps x.toInCall.keep, codeAny_func ?_⟩
  obtain ⟨t, ht, hq⟩ := hbody A outer s H vs Q E (hr.deeper _) hsp
  have I : Inv (cxOf CX P w K mg base N qual scope f cdv A outer s H E) [] (start N vs) H s1 := inv_start S hr.hd e0 hl r x
  refine wpAny_mono (ht [] s1 (start N vs) H _ I hq) (fun fl s' hs => ?_) fun e s' hs => hs
  have fin : ∀ {σ' : St} {H' : Hp} {v : V} {u : Value}, Inv (cxOf CX P w K mg base N qual scope f cdv A outer s H E) [] σ' H' s' → RelV v u → Q v H' → CE outer P w H s Q u s' :=
    fun {σ' H' v u} J rv q => ⟨v, H', J.os, J.bare, J.base, J.hok, rv, q⟩
  cases fl with
  | ret u =>
    obtain ⟨v, σ', H', J, rv, q⟩ := hs
    exact fin J rv q
  | next =>
    obtain ⟨σ', H', J, q⟩ := hs
    exact fin (v := V.non) (u := Value.none) J rfl q
  | brk =>
    obtain ⟨_, _, _, q⟩ := hs
    exact False.elim q
  | cont =>
    obtain ⟨_, _, _, q⟩ := hs
    exact False.elim q
end L2

namespace L2
open PySem PySem.Spec PyProof.Rows
section
variable {X : Cx} {x : Str} {p pos : Pos} {e : Expr} {es : List Expr} {t : TA} {id T : String} {r : List V → Hp → VK → Prop}

def tCB (r : List V → Hp → VK → Prop) (t : TA) : TE := fun σ H Q => t σ H fun vs H1 => r vs H1 Q
/-- f(e, ..), f a built-in function -/
theorem pe_callB (hc : CallR X (.builtin id) r) (hg : Gl X x) (hm : X.mg x = none) (hv : bootBuiltins x = some (.builtin id)) (ha : PA X (e :: es) t) (hn : x ≠ "__name__" := by decide) (hdb : (x == ("__debug__" : Str)) = false := by decide)
    (he : starEach (e :: es) X.env = (false, eval e X.env) :: starEach es X.env := by rfl) (hpl : (backTo pos (starEach es X.env)).any (·.1) = false := by rfl) : PE X (.Call (.Name x p) (e :: es) [] pos) (tCB r t) := by
  intro pins s σ H Q I h
  refine wpAny_Call_Name_kw (ld_blt I hg hm hv ?_ hn hdb)
  exact PyProof.Rows.callWith_builtin1 (thn (ha pos pins s σ H _ I h) fun us s1 ⟨vs, H1, I1, r1, q1⟩ => hc pins s1 σ H1 vs us Q I1 r1 q1) he hpl
/-- T(e, ..), T a built-in type -/
theorem pe_callTy (hc : CallR X (.type T) r) (hg : Gl X x) (hm : X.mg x = none) (hv : bootBuiltins x = some (.type T)) (ha : PA X (e :: es) t) (hn : x ≠ "__name__" := by decide) (hdb : (x == ("__debug__" : Str)) = false := by decide)
    (he : starEach (e :: es) X.env = (false, eval e X.env) :: starEach es X.env := by rfl) (hpl : (backTo pos (starEach es X.env)).any (·.1) = false := by rfl) : PE X (.Call (.Name x p) (e :: es) [] pos) (tCB r t) := by
  intro pins s σ H Q I h
  refine wpAny_Call_Name_kw (ld_blt I hg hm hv ?_ hn hdb)
  exact PyProof.Rows.callWith_type1 (thn (ha pos pins s σ H _ I h) fun us s1 ⟨vs, H1, I1, r1, q1⟩ => hc pins s1 σ H1 vs us Q I1 r1 q1) he hpl
end
end L2

namespace HT
open PySem PyProof.Rows

section
open PySem.SeqAt
open PySem.AutoSeq1 (wpAny_loadPart')
open PySem.MeetsSeq PySem.MeetsSeq2 PySem.MeetsSeq3

end

section
variable {prog : Program} {w : World} {A : Around} {E : Value → Shared → Prop} {s : Shared}

/-- a slice's bound as a place among n (d where it is left out) -/
def sIx (n d : Nat) : Option Int → Nat
  | none => d
  | some v => if v < 0 then (v + (n : Int)).toNat else min v.toNat n
theorem sIx_none (n d : Nat) : sIx n d none = d := rfl
theorem sIx_nat (n d k : Nat) : sIx n d (some (k : Int)) = min k n := by
  show (if (k : Int) < 0 then ((k : Int) + (n : Int)).toNat else min (k : Int).toNat n) = min k n
  rw [if_neg (by omega), Int.toNat_natCast]
end
end HT

namespace L2
open PySem PySem.Spec PyProof.Rows

abbrev TO := St → Hp → (Option Int → Hp → Prop) → Prop
/-- a slice's part (left out, or an int) -/
def PO (X : Cx) (e : Option Expr) (t : TO) : Prop :=
  ∀ (pins : List (Addr × Obj)) (s : Shared) (σ : St) (H : Hp) (Q : Option Int → Hp → Prop), Inv X pins σ H s → t σ H Q →
    wpAny (model X.prog X.w) X.A (evalPart e X.env) (fun u s' => ∃ o H', Inv X pins σ H' s' ∧ IsPart u o ∧ Q o H') X.xe s
def tNoPart : TO := fun _ H Q => Q none H
def tPart (t : TE) : TO := fun σ H Q => t σ H fun x H1 => ∃ i, x = .int i ∧ Q (some i) H1

theorem intsAre_of {ns : List Int} : ∀ {us : List Value}, Vals (ns.map V.int) us → IntsAre us ns := by
  induction ns with
  | nil => intro us r; rw [List.map_nil] at r; cases r; exact .nil
  | cons n ns ih =>
    intro us r
    rw [List.map_cons] at r
    cases r with
    | cons r1 r2 =>
      obtain ⟨t, e⟩ := r1
      subst e
      exact .cons n t (ih r2)

section
variable {X : Cx} {e : Expr} {te : TE} {lo hi : Option Expr} {tl th : TO} {pos p2 : Pos}

theorem po_none : PO X none tNoPart := by
  intro pins s σ H Q I h
  rw [evalPart_none]
  exact wpAny_pure ⟨none, H, I, .none, h⟩
theorem po_some (h : PE X e te) : PO X (some e) (tPart te) := by
  intro pins s σ H Q I hw
  rw [evalPart_some]
  refine thn (h pins s σ H _ I hw) fun u s1 ⟨x, H1, I1, r1, q1⟩ => ?_
  obtain ⟨i, rfl, q⟩ := q1
  obtain ⟨t, rfl⟩ := r1
  exact ⟨some i, H1, I1, .int i t, q⟩

/-- what a slice of a value is, by values: the slice object stands at sl -/
def SlR (X : Cx) (r : V → Option Int → Option Int → Hp → VK → Prop) : Prop :=
  ∀ (pins : List (Addr × Obj)) (s : Shared) (σ : St) (H : Hp) (x : V) (v vl vu : Value) (lo hi : Option Int) (sl : Addr) (Q : VK), Inv X pins σ H s → RelV x v → s.heap.IsSliceOf sl vl vu .none → IsPart vl lo → IsPart vu hi → r x lo hi H Q →
    ∃ T id, typeLookup (.type T) "__getitem__" = pure (some (.builtin id)) ∧ s.TypeIs v T ∧ wpAny (model X.prog X.w) X.A (getItem v (.ref sl)) (EP X pins σ Q) X.xe s
def tSl (r : V → Option Int → Option Int → Hp → VK → Prop) (te : TE) (tl th : TO) : TE := fun σ H Q => te σ H fun x H1 => tl σ H1 fun l H2 => th σ H2 fun u H3 => r x l u H3 Q
/-- a[lo:hi], any a -/
theorem pe_slice {r : V → Option Int → Option Int → Hp → VK → Prop} (hr : SlR X r) (he : PE X e te) (hl : PO X lo tl) (hu : PO X hi th) : PE X (.Subscript e (.Slice lo hi none p2) pos) (tSl r te tl th) := by
  intro pins s σ H Q I h
  refine Subscript_ (thn (he pins s σ H _ I h) fun v s1 ⟨x, H1, I1, r1, q1⟩ => ?_)
  refine wpAny_Slice (thn (hl pins s1 σ H1 _ I1 q1) fun vl s2 ⟨l, H2, I2, pl, q2⟩ => thn (hu pins s2 σ H2 _ I2 q2) fun vu s3 ⟨u, H3, I3, pu, q3⟩ => ?_)
  rw [evalPart_none]
  refine wpAny_pure ?_
  have I4 : Inv X pins σ H3 { s3 with heap := s3.heap.push { cls := .type "slice", data := .fields #[vl, vu, .none] } } := I3.kept (t' := s3.toks) fun b ob q => Heap.get?_push_of_some _ q
  obtain ⟨T, id, hT, ht, hg⟩ := hr pins { s3 with heap := s3.heap.push { cls := .type "slice", data := .fields #[vl, vu, .none] } } σ H3 x v vl vu l u s3.heap.objs.size Q I4 r1 (Heap.IsSliceOf.new ..) pl pu q3
  show wpAny (model X.prog X.w) X.A (subscriptTail e (.Slice lo hi none p2) v (.ref s3.heap.objs.size)) (EP X pins σ Q) X.xe { s3 with heap := s3.heap.push { cls := .type "slice", data := .fields #[vl, vu, .none] } }
  exact tail_any (ops := [.ref s3.heap.objs.size, v]) ht hT hg (by with_unfolding_all rfl)

/-- the items of xs[lo:hi] -/
def cutV (xs : List V) (lo hi : Option Int) : List V := (xs.drop (HT.sIx xs.length 0 lo)).take (HT.sIx xs.length xs.length hi - HT.sIx xs.length 0 lo)
theorem cutV_length (xs : List V) (lo hi : Option Int) : (cutV xs lo hi).length ≤ xs.length := by
  unfold cutV
  rw [List.length_take, List.length_drop]
  omega
end
end L2

namespace L2
open PySem PySem.Spec PyProof.Rows

/-- the place that an index of any sign means -/
def ixN (n : Nat) (i : Int) : Option Nat := if 0 ≤ i then (if i < n then some i.toNat else none) else if -(n : Int) ≤ i then some (i + n).toNat else none
def atI {α : Type} (xs : List α) (i : Int) : Option α := (ixN xs.length i).bind fun j => xs[j]?
theorem ixN_seq {n : Nat} {i : Int} {j : Nat} (h : ixN n i = some j) : seqIndex? i n = some j ∧ j < n ∧ -(n : Int) ≤ i ∧ i < n := by
  unfold ixN at h
  by_cases h0 : 0 ≤ i
  · rw [if_pos h0] at h
    by_cases h1 : i < n
    · rw [if_pos h1] at h
      have e : i.toNat = j := Option.some.inj h
      exact ⟨by rw [seqIndex_of h0 h1, e], by omega, by omega, h1⟩
    · rw [if_neg h1] at h; cases h
  · rw [if_neg h0] at h
    by_cases h1 : -(n : Int) ≤ i
    · rw [if_pos h1] at h
      have e : (i + n).toNat = j := Option.some.inj h
      exact ⟨by rw [seqIndex_neg (by omega) h1, e], by omega, h1, by omega⟩
    · rw [if_neg h1] at h; cases h
theorem atI_get {α : Type} {xs : List α} {i : Int} {v : α} (h : atI xs i = some v) : ∃ j, seqIndex? i xs.length = some j ∧ xs[j]? = some v ∧ j < xs.length ∧ -(xs.length : Int) ≤ i ∧ i < xs.length := by
  unfold atI at h
  cases e : ixN xs.length i with
  | none => rw [e] at h; cases h
  | some j =>
    rw [e] at h
    obtain ⟨h1, h2, h3, h4⟩ := ixN_seq e
    exact ⟨j, h1, h, h2, h3, h4⟩
theorem atI_nat {α : Type} {xs : List α} {j : Nat} {v : α} (h : xs[j]? = some v) : atI xs (j : Int) = some v := by
  have hj : j < xs.length := (List.getElem?_eq_some_iff.mp h).1
  have e : ixN xs.length (j : Int) = some j := by
    unfold ixN
    rw [if_pos (by omega), if_pos (by omega)]; simp
  unfold atI; rw [e]; exact h
/-- what stands as an index of a plain subscript -/
def PlainIx (b : Expr) : Prop := ∀ o i, subscripted b false o i = operate [o, i] (getItem o i)
/-- a subscript by values -/
def IxR (X : Cx) (r : R2) : Prop :=
  ∀ (value slice : Expr) (pins : List (Addr × Obj)) (s : Shared) (σ : St) (H : Hp) (x y : V) (v u : Value) (Q : VK), Inv X pins σ H s → RelV x v → RelV y u → r x y H Q →
    subscripted slice false v u = operate [v, u] (getItem v u) → wpAny (model X.prog X.w) X.A (subscriptTail value slice v u) (EP X pins σ Q) X.xe s
/-- a call of a builtin's method by values: the receiver, the arguments -/
def MtR (X : Cx) (id : String) (r : V → List V → Hp → VK → Prop) : Prop :=
  ∀ (pins : List (Addr × Obj)) (s : Shared) (σ : St) (H : Hp) (x : V) (xs : List V) (v : Value) (us : List Value) (Q : VK), Inv X pins σ H s → RelV x v → Vals xs us → r x xs H Q →
    wpAny (model X.prog X.w) X.A (call (.builtin id) (v :: us)) (EP X pins σ Q) X.xe s
section
variable {X : Cx} {a b : Expr} {ta tb : TE} {pos : Pos}
/-- a[b] -/
theorem pe_ix {r : R2} (hr : IxR X r) (ha : PE X a ta) (hb : PE X b tb) (hs : PlainIx b) : PE X (.Subscript a b pos) (tOp r ta tb) := by
  intro pins s σ H Q I h
  exact Subscript_ (binT ha hb I h fun v u s2 x y H2 I2 rx ry q => hr a b pins s2 σ H2 x y v u Q I2 rx ry q (hs _ _))

def rIxL (K : PySem.W.Frag) : R2 := fun x y H Q => ∃ p xs i v, x = .ref p ∧ y = .int i ∧ SqL K H p xs ∧ atI xs i = some v ∧ Q v H
def rIxT (K : PySem.W.Frag) : R2 := fun x y H Q => ∃ p xs i v, x = .ref p ∧ y = .int i ∧ SqT K H p xs ∧ atI xs i = some v ∧ Q v H
theorem ix_list : IxR X (rIxL X.K) := by
  intro value slice pins s σ H x y v u Q I rx ry h hs
  obtain ⟨p, xs, i, z, rfl, rfl, hq, he, q⟩ := h
  cases rx
  obtain ⟨t, rfl⟩ := ry
  obtain ⟨its, r, pl, hz⟩ := I.list hq
  obtain ⟨j, h1, h2, h3, h4, h5⟩ := atI_get he
  obtain ⟨w, ew, rw'⟩ := r.get h2
  have hl := r.length
  have hn := line63
  have fin : EP X pins σ Q w s := ⟨z, H, I, rw', q⟩
  by_cases h0 : 0 ≤ i
  · have hj : i.toNat = j := by
      rw [seqIndex_of h0 h5] at h1
      exact Option.some.inj h1
    exact item_listR pl.isList h0 (by omega) (by rw [hj]; simpa using ew) fin hs
  · have hj : (i + (its.toArray.size : Int)).toNat = j := by
      rw [seqIndex_neg (by omega) h4] at h1
      rw [List.size_toArray, ← hl]
      exact Option.some.inj h1
    exact subscriptTail_builtinR (x := w) pl.isList.typeIs slot_list_getitem.lookup
      (wpAny_getItem_list_neg (Q := fun r s' => r = w ∧ EP X pins σ Q r s') pl.isList (by omega) (by rw [List.size_toArray] <;> omega) (by omega) (by rw [hj]; simpa using ew) ⟨rfl, fin⟩) hs
theorem ix_tup : IxR X (rIxT X.K) := by
  intro value slice pins s σ H x y v u Q I rx ry h hs
  obtain ⟨p, xs, i, z, rfl, rfl, hq, he, q⟩ := h
  cases rx
  obtain ⟨t, rfl⟩ := ry
  obtain ⟨its, r, pl, hz⟩ := I.tuple hq
  obtain ⟨j, h1, h2, h3, h4, h5⟩ := atI_get he
  obtain ⟨w, ew, rw'⟩ := r.get h2
  have hl := r.length
  have hn := line63
  have fin : EP X pins σ Q w s := ⟨z, H, I, rw', q⟩
  exact subscriptTail_builtinR (x := w) pl.typeIs slot_tuple_getitem.lookup
    (getItem_tuple (j := j) (Q := fun r s' => r = w ∧ EP X pins σ Q r s') pl (by omega) (by omega) (by rw [List.size_toArray, ← hl]; exact h1) (by simpa using ew) ⟨rfl, fin⟩) hs
/-- the list's object behind a store -/
theorem mapSeq_set (its : List Value) (n j : Nat) (u : Value) : Obj.mapSeq (·.setIfInBounds j u) { cls := .type "list", data := .seq its.toArray n } = { cls := .type "list", data := .seq (its.set j u).toArray n } := by
  simp [Obj.mapSeq]
theorem Inv.lst {pins : List (Addr × Obj)} {σ : St} {H : Hp} {s : Shared} {p : Addr} {xs : List V} (I : Inv X pins σ H s) (h : H p = some (.lst xs)) :
    ∃ (its : List Value) (n : Nat), Vals xs its ∧ s.heap.get? p = some { cls := .type "list", data := .seq its.toArray n } ∧ xs.length ≤ sizeLine := by
  obtain ⟨z, its, n, r, e⟩ := I.hok p _ h
  exact ⟨its, n, r, e, z⟩
/-- the list at p is written by an update of its object -/
theorem Inv.lstUpd {pins : List (Addr × Obj)} {σ : St} {H : Hp} {s : Shared} {p : Addr} {xs ys : List V} {its its' : List Value} {n n' : Nat} {f : Obj → Obj} (I : Inv X pins σ H s) (h : H p = some (.lst xs))
    (ho : s.heap.get? p = some { cls := .type "list", data := .seq its.toArray n }) (hf : f { cls := .type "list", data := .seq its.toArray n } = { cls := .type "list", data := .seq its'.toArray n' }) (r : Vals ys its') (hz : ys.length ≤ sizeLine) (t : Nat) :
    Inv X pins σ (upd H p (.lst ys)) { s with heap := s.heap.update p f, toks := t } := by
  have e : (s.heap.update p f).get? p = some { cls := .type "list", data := .seq its'.toArray n' } := by
    rw [Heap.get?_update_self f ho (by rw [hf] <;> rfl), hf]
  refine I.write (x := p) (e := p) (by rw [h]; trivial) (.inl rfl) (fun b u hb q => (Heap.get?_update_other _ _ (Ne.symm hb)).trans q) ⟨_, e⟩ ?_
  exact ⟨hz, its', n', r, e⟩
def rSetL : V → V → V → Hp → (Hp → Prop) → Prop := fun o i v H Q => ∃ p xs k j, o = .ref p ∧ i = .int k ∧ H p = some (.lst xs) ∧ ixN xs.length k = some j ∧ Q (upd H p (.lst (xs.set j v)))
theorem set_list : PSet X rSetL := by
  intro pins s σ H o i v ov iv u Q I ro ri rv h
  obtain ⟨p, xs, k, j, rfl, rfl, hp, hj, q⟩ := h
  cases ro
  obtain ⟨t, rfl⟩ := ri
  obtain ⟨its, n, r, ho, hz⟩ := I.lst hp
  obtain ⟨h1, h2, h3, h4⟩ := ixN_seq hj
  have hl := r.length
  have hn := line63
  have I' : Inv X pins σ (upd H p (.lst (xs.set j v))) { s with heap := s.heap.update p (Obj.mapSeq (·.setIfInBounds j u)) } :=
    I.lstUpd hp ho (mapSeq_set its n j u) (r.set rv j) (by rw [List.length_set]; exact hz) s.toks
  by_cases h0 : 0 ≤ k
  · have hk : k.toNat = j := by
      rw [seqIndex_of h0 h4] at h1
      exact Option.some.inj h1
    exact PySem.W.ki_setAt ho h0 (by omega) (by rw [List.size_toArray, ← hl]; exact h4) (by rw [hk]; exact ⟨_, I', q⟩)
  · have hk : (k + (its.toArray.size : Int)).toNat = j := by
      rw [seqIndex_neg (by omega) h3] at h1
      rw [List.size_toArray, ← hl]
      exact Option.some.inj h1
    exact PySem.W.ki_setBack ho (by omega) (by rw [List.size_toArray, ← hl]; exact h3) (by omega) (by rw [hk]; exact ⟨_, I', q⟩)

theorem slice_bounds (lo hi : Option Int) (n : Nat) : (sliceBounds lo hi none n).1 = ((HT.sIx n 0 lo : Nat) : Int) ∧ (sliceBounds lo hi none n).2.1 = ((HT.sIx n n hi : Nat) : Int) ∧ (sliceBounds lo hi none n).2.2 = 1 := by
  refine ⟨?_, ?_, rfl⟩
  · cases lo with
    | none => simp [sliceBounds, HT.sIx]
    | some i =>
      simp only [sliceBounds, HT.sIx, Option.getD_none, show (1 : Int) > 0 by decide, if_true]
      by_cases h : i < 0
      · simp only [h, if_true] <;> omega
      · simp only [h, if_false] <;> omega
  · cases hi with
    | none => simp [sliceBounds, HT.sIx]
    | some i =>
      simp only [sliceBounds, HT.sIx, Option.getD_none, show (1 : Int) > 0 by decide, if_true]
      by_cases h : i < 0
      · simp only [h, if_true] <;> omega
      · simp only [h, if_false] <;> omega
theorem slicePick_cut (its : List Value) (lo hi : Option Int) : slicePick its.toArray lo hi none = ((its.drop (HT.sIx its.length 0 lo)).take (HT.sIx its.length its.length hi - HT.sIx its.length 0 lo)).toArray := by
  obtain ⟨h1, h2, h3⟩ := slice_bounds lo hi its.toArray.size
  unfold slicePick
  rw [h1, h2, h3]
  simp only [sliceRange_one, pick_run, List.size_toArray] <;> rfl
/-- xs[lo:hi] of a list: a new list -/
def rSlL (K : PySem.W.Frag) : V → Option Int → Option Int → Hp → VK → Prop := fun x lo hi H Q => ∃ a xs, x = .ref a ∧ SqL K H a xs ∧ ∀ p, H p = none → Q (.ref p) (upd H p (.lst (cutV xs lo hi)))
theorem sl_list : SlR X (rSlL X.K) := by
  intro pins s σ H x v vl vu lo hi sl Q I rx hs pl pu h
  obtain ⟨a, xs, rfl, hx, q⟩ := h
  cases rx
  obtain ⟨its, r, ht, hz⟩ := I.list hx
  have hlen := r.length
  refine ⟨"list", _, slot_list_getitem.lookup, ht.isList.typeIs, ?_⟩
  refine wpAny_getItem_list_slice ht.isList hs pl pu .none (by simp) ?_ (by rw [List.size_toArray] <;> omega)
  rw [slicePick_cut, ← hlen]
  refine ⟨.ref s.heap.objs.size, _, I.laid (t' := s.toks) (o := .lst (cutV xs lo hi)) (fun b ob q => Heap.get?_push_of_some _ q) (Nat.le_refl _) ?_, rfl, q _ (I.hok.fresh (Nat.le_refl _))⟩
  exact ⟨Nat.le_trans (cutV_length xs lo hi) hz, _, 0, (r.drop (HT.sIx xs.length 0 lo)).take (HT.sIx xs.length xs.length hi - HT.sIx xs.length 0 lo), Heap.get?_push_size _ rfl⟩

theorem call_len_seq : CallR X (.builtin "len") (fun xs H Q => ∃ p ys, xs = [.ref p] ∧ (SqL X.K H p ys ∨ SqT X.K H p ys) ∧ Q (.int ys.length) H) := by
  intro pins s σ H xs us Q I r h
  obtain ⟨p, ys, rfl, hq, q⟩ := h
  obtain ⟨u, rfl, rx⟩ := vals1 r
  cases rx
  have hn := line63
  rcases hq with hq | hq
  · obtain ⟨its, r', pl, hz⟩ := I.list hq
    have hlen := r'.length
    exact Calls.call_len_list pl.isList (by simp only [List.size_toArray] <;> omega) ⟨.int ys.length, H, I.tok _, ⟨s.toks + 1, by rw [List.size_toArray, hlen]⟩, q⟩
  · obtain ⟨its, r', pl, hz⟩ := I.tuple hq
    have hlen := r'.length
    exact len_tuple pl (by simp only [List.size_toArray] <;> omega) ⟨.int ys.length, H, I.tok _, ⟨s.toks + 1, by rw [List.size_toArray, hlen]⟩, q⟩
theorem call_list_of : CallR X (.type "list") (fun xs H Q => ∃ p ys, xs = [.ref p] ∧ (SqL X.K H p ys ∨ SqT X.K H p ys) ∧ ∀ l, H l = none → Q (.ref l) (upd H l (.lst ys))) := by
  intro pins s σ H xs us Q I r h
  obtain ⟨p, ys, rfl, hq, q⟩ := h
  obtain ⟨u, rfl, rx⟩ := vals1 r
  cases rx
  have fin : ∀ (its : List Value), Vals ys its → ys.length ≤ sizeLine → ∀ (h' : Heap) (c' : Nat), (∀ b o', s.heap.get? b = some o' → h'.get? b = some o') →
      h'.get? s.heap.objs.size = some { cls := .type "list", dict := none, data := .seq its.toArray c', slots := #[] } → EP X pins σ Q (.ref s.heap.objs.size) { s with heap := h' } := fun its r' hz h' c' kp e =>
    ⟨.ref s.heap.objs.size, _, I.laid (t' := s.toks) kp (Nat.le_refl _) (show ObjOk X.prog X.w _ h' _ (.lst ys) from ⟨hz, its, c', r', e⟩), rfl, q _ (I.hok.fresh (Nat.le_refl _))⟩
  rcases hq with hq | hq
  · obtain ⟨its, r', pl, hz⟩ := I.list hq
    have hlen := r'.length
    obtain ⟨o, ho, hc, n, hd⟩ := pl.isList
    exact call_list_seq p (.inl rfl) ho hc hd (fun h' c' kp e => fin its r' hz h' c' kp e) (by simp only [List.size_toArray] <;> omega)
  · obtain ⟨its, r', pl, hz⟩ := I.tuple hq
    have hlen := r'.length
    obtain ⟨o, ho, hc, n, hd⟩ := pl
    exact call_list_seq p (.inr rfl) ho hc hd (fun h' c' kp e => fin its r' hz h' c' kp e) (by simp only [List.size_toArray] <;> omega)
/-- the value is of that builtin type -/
def tyV (K : PySem.W.Frag) (T : String) (x : V) (H : Hp) : Prop := match x with
  | .str _ => T = "str"
  | .int _ => T = "int"
  | .ref p => (T = "list" ∧ ∃ xs, SqL K H p xs) ∨ (T = "tuple" ∧ ∃ o, K.lookup p = some o ∧ o.cls = .type "tuple" ∧ o.dict = none) ∨
      (T = "dict" ∧ ((∃ kvs, H p = some (.dK kvs)) ∨ ∃ kvs, H p = some (.dT kvs))) ∨ (T = "set" ∧ ∃ S n, H p = some (.set S n))
  | _ => False
theorem tyV_is {pins : List (Addr × Obj)} {σ : St} {H : Hp} {s : Shared} {T : String} {x : V} {v : Value} (I : Inv X pins σ H s) (r : RelV x v) (ty : tyV X.K T x H) :
    s.TypeIs v T ∧ ∀ a, v = .ref a → ∃ ob, s.heap.get? a = some ob ∧ ob.dict = none := by
  cases x with
  | str z =>
    obtain ⟨t, rfl⟩ := r
    cases (show T = "str" from ty)
    exact ⟨typeIs_str s z t, fun _ e => nomatch e⟩
  | int i =>
    obtain ⟨t, rfl⟩ := r
    cases (show T = "int" from ty)
    exact ⟨typeIs_int s i t, fun _ e => nomatch e⟩
  | ref p =>
    cases r
    rcases ty with ⟨rfl, xs, hq⟩ | ⟨rfl, o, hk, hc, hd⟩ | ⟨rfl, hk⟩ | ⟨rfl, S, n, hk⟩
    · obtain ⟨its, _, pl, _⟩ := I.list hq
      refine ⟨pl.isList.typeIs, fun a e => ?_⟩
      cases e
      obtain ⟨o, n, e, c, hd, _⟩ := pl
      exact ⟨o, e, hd⟩
    · refine ⟨⟨o, I.kIn p o hk, hc⟩, fun a e => ?_⟩
      cases e
      exact ⟨o, I.kIn _ o hk, hd⟩
    · have z : ∃ o, s.heap.get? p = some o ∧ o.ExactDict := by
        rcases hk with ⟨kvs, hk⟩ | ⟨kvs, hk⟩
        · obtain ⟨_, _, _, _, o, _, _, e, ex, _⟩ := I.hok p _ hk
          exact ⟨o, e, ex⟩
        · obtain ⟨_, _, _, _, o, _, _, e, ex, _⟩ := I.hok p _ hk
          exact ⟨o, e, ex⟩
      obtain ⟨o, e, ex⟩ := z
      refine ⟨⟨o, e, ex.1⟩, fun a e2 => ?_⟩
      cases e2
      exact ⟨o, e, ex.2.1⟩
    · obtain ⟨o, _, _, _, e, ex, _⟩ := I.hok p _ hk
      refine ⟨⟨o, e, ex.1⟩, fun a e2 => ?_⟩
      cases e2
      exact ⟨o, e, ex.2.1⟩
  | _ => exact False.elim ty
def tBM0 (K : PySem.W.Frag) (T : String) (r : V → List V → Hp → VK → Prop) (to : TE) : TE := fun σ H Q => to σ H fun x H1 => tyV K T x H1 ∧ r x [] H1 Q
def tBM (K : PySem.W.Frag) (T : String) (r : V → List V → Hp → VK → Prop) (to : TE) (t : TA) : TE := fun σ H Q => to σ H fun x H1 => tyV K T x H1 ∧ t σ H1 fun xs H2 => r x xs H2 Q
variable {o e : Expr} {es : List Expr} {to : TE} {t : TA} {name : Str} {apos cpos : Pos} {T id : String} {r : V → List V → Hp → VK → Prop}
theorem pe_bm0 (pa : PlainAttrs T) (slot : Slot T name id) (hty : typeOf (.builtin id) = pure (.type "method_descriptor")) (hm : MtR X id r) (ho : PE X o to)
    (hbase : attributeBase o name X.env (eval o X.env) = eval o X.env := by rfl) (hline : (apos.endLine == cpos.line) = true := by rfl) : PE X (.Call (.Attribute o name apos) [] [] cpos) (tBM0 X.K T r to) := by
  intro pins s σ H Q I h
  refine wpAny_Call_method0_late hbase hline (thn (ho pins s σ H _ I h) fun v s1 ⟨x, H1, I1, r1, ty, q1⟩ => ?_)
  obtain ⟨h1, h2⟩ := tyV_is I1 r1 ty
  exact ⟨T, id, pa, slot, hty, h1, h2, Calls.callWith_builtin rfl (PySem.evalArgs_none (hm pins s1 σ H1 x [] v [] Q I1 r1 .nil q1))⟩
theorem pe_bm (pa : PlainAttrs T) (slot : Slot T name id) (hty : typeOf (.builtin id) = pure (.type "method_descriptor")) (hm : MtR X id r) (ho : PE X o to) (ha : PA X (e :: es) t)
    (hbase : attributeBase o name X.env (eval o X.env) = eval o X.env := by rfl)
    (hfew : ((backTo cpos (starEach (e :: es) X.env)).all (fun x => !x.1) && (backToKw cpos (keywordEach [] X.env)).all (fun x => x.1.isSome)
      && decide ((e :: es).length + ([] : List Keyword).length + (if ([] : List Keyword).isEmpty then 0 else 1) < 30)) = true := by rfl)
    (hline : (apos.endLine == cpos.line) = true := by rfl) (hs : starEach (e :: es) X.env = (false, eval e X.env) :: starEach es X.env := by rfl) (hplain : (backTo cpos (starEach es X.env)).any (·.1) = false := by rfl) :
    PE X (.Call (.Attribute o name apos) (e :: es) [] cpos) (tBM X.K T r to t) := by
  intro pins s σ H Q I h
  refine wpAny_Call_method_late hbase hfew hline rfl (thn (ho pins s σ H _ I h) fun v s1 ⟨x, H1, I1, r1, ty, q1⟩ => ?_)
  obtain ⟨h1, h2⟩ := tyV_is I1 r1 ty
  refine ⟨T, id, pa, slot, hty, h1, h2, ?_⟩
  have hA := ha cpos pins s1 σ H1 _ I1 q1
  rw [hs] at hA ⊢
  refine Calls.callWith_builtin (by show (false || (backTo cpos (starEach es X.env)).any (·.1)) = false; rw [hplain] <;> rfl) (Calls.evalArgs_plain ?_)
  exact thn hA fun us s2 ⟨vs, H2, I2, r2, q2⟩ => hm pins s2 σ H2 x vs v us Q I2 r1 r2 q2
/- xs.append(e), list.index on a module's tuple .. are MtR facts of 06m -/
end
end L2

namespace L2
open PySem PySem.Spec PyProof.Rows

def MtM (X : Cx) (id : String) (r : V → List V → Hp → VK → Prop) : Prop :=
  ∀ (pins : List (Addr × Obj)) (s : Shared) (σ : St) (H : Hp) (x : V) (xs : List V) (v : Value) (us : List Value) (Q : VK), Inv X pins σ H s → RelV x v → Vals xs us → r x xs H Q →
    wpAny (model X.prog X.w) X.A (call (.builtin id) (v :: us)) (EP X pins σ Q) X.xe s

theorem Vals.one : ∀ {x : V} {us : List Value}, Vals [x] us → ∃ u, us = [u] ∧ RelV x u
  | _, _, .cons r .nil => ⟨_, rfl, r⟩
theorem Vals.two : ∀ {x y : V} {us : List Value}, Vals [x, y] us → ∃ u v, us = [u, v] ∧ RelV x u ∧ RelV y v
  | _, _, _, .cons r (.cons q .nil) => ⟨_, _, rfl, r, q⟩
theorem Vals.zero : ∀ {us : List Value}, Vals [] us → us = []
  | _, .nil => rfl
theorem Vals.reverse {xs : List V} {us : List Value} (h : Vals xs us) : Vals xs.reverse us.reverse := by
  induction h with
  | nil => exact .nil
  | cons r t ih => rw [List.reverse_cons, List.reverse_cons]; exact Vals.append ih (.cons r .nil)
theorem Vals.rep {xs : List V} {us : List Value} (h : Vals xs us) : ∀ k : Nat, Vals (List.replicate k xs).flatten (List.replicate k us).flatten
  | 0 => .nil
  | k + 1 => by
    rw [List.replicate_succ, List.replicate_succ, List.flatten_cons, List.flatten_cons]
    exact Vals.append h (Vals.rep h k)
theorem foldl_rep (its : List Value) : ∀ (k : Nat) (acc : List Value),
    List.foldl (fun x1 x2 => x1 ++ x2) acc.toArray (List.replicate k its.toArray) = (acc ++ (List.replicate k its).flatten).toArray
  | 0, acc => by simp
  | k + 1, acc => by
    have e : acc.toArray ++ its.toArray = (acc ++ its).toArray := by simp
    have e2 : (acc ++ its) ++ (List.replicate k its).flatten = acc ++ (List.replicate (k + 1) its).flatten := by
      rw [List.replicate_succ, List.flatten_cons, List.append_assoc]
    rw [← e2, ← foldl_rep its k (acc ++ its), ← e, List.replicate_succ, List.foldl_cons]

section
variable {X : Cx} {pins : List (Addr × Obj)} {σ : St} {H : Hp} {s : Shared} {l b : Addr} {xs ys zs : List V}

theorem Inv.lset {its its' : List Value} {n : Nat} {f : Array Value → Array Value} {t' : Nat} (I : Inv X pins σ H s) (hH : H l = some (.lst xs))
    (e : s.heap.get? l = some { cls := .type "list", data := .seq its.toArray n }) (hf : f its.toArray = its'.toArray) (hv : Vals ys its') (hz : ys.length ≤ sizeLine) :
    Inv X pins σ (upd H l (.lst ys)) { s with heap := s.heap.update l (Obj.mapSeq f), toks := t' } := by
  have q := PySem.IsL.update e f
  rw [hf] at q
  refine I.write (x := l) (e := l) (by rw [hH]; exact trivial) (.inl rfl) (fun b' u hb hu => (Heap.get?_update_other s.heap (Obj.mapSeq f) (Ne.symm hb)).trans hu) ⟨_, q⟩ ?_
  exact ⟨hz, its', _, hv, q⟩
theorem Inv.lnew {its : List Value} {t' : Nat} (I : Inv X pins σ H s) (hv : Vals ys its) (hz : ys.length ≤ sizeLine) :
    Inv X pins σ (upd H s.heap.objs.size (.lst ys)) { s with heap := s.heap.push { cls := .type "list", data := .seq its.toArray }, toks := t' } :=
  I.laid (fun _ _ q => Heap.get?_push_of_some _ q) (Nat.le_refl _) ⟨hz, its, 0, hv, Heap.get?_push_size _ rfl⟩
theorem Inv.fresh (I : Inv X pins σ H s) : H s.heap.objs.size = none := I.hok.fresh (Nat.le_refl _)
theorem Inv.lstM (I : Inv X pins σ H s) (hH : H l = some (.lst xs)) : xs.length ≤ sizeLine ∧ ∃ (its : List Value) (n : Nat), Vals xs its ∧ xs.length = its.length ∧ s.heap.get? l = some { cls := .type "list", data := .seq its.toArray n } := by
  obtain ⟨z, its, n, r, e⟩ := I.hok l _ hH
  exact ⟨z, its, n, r, r.length, e⟩

theorem notLongL {n : Nat} (h : n ≤ sizeLine) : Builtin.List.listTooLong n = false := by
  unfold Builtin.List.listTooLong
  exact decide_eq_false (by omega)
end

section
variable {X : Cx}

def rAppend : V → List V → Hp → VK → Prop := fun x vs H Q => ∃ l xs y, x = .ref l ∧ vs = [y] ∧ H l = some (.lst xs) ∧ xs.length < sizeLine ∧ Q .non (upd H l (.lst (xs ++ [y])))
theorem mt_append : MtM X "list.append" rAppend := by
  intro pins s σ H x vs v us Q I rx rv h
  obtain ⟨l, xs, y, rfl, rfl, hH, hz, q⟩ := h
  cases rx
  obtain ⟨u, rfl, ru⟩ := rv.one
  obtain ⟨z, its, n, r, hl, e⟩ := I.lstM hH
  refine call_meets F.slot_list_append ⟨_, e, rfl⟩ F.entry_list_append (F.args_list_append_2 _ _) (PySem.list_append l its.toArray n u (by rw [List.size_toArray]; omega)) ⟨e, ?_⟩
  refine ⟨.non, _, I.lset (its' := its ++ [u]) hH e (by simp) (r.append (.cons ru .nil)) ?_, rfl, q⟩
  rw [List.length_append, List.length_singleton]
  omega

def rReverse : V → List V → Hp → VK → Prop := fun x vs H Q => ∃ l xs, x = .ref l ∧ vs = [] ∧ H l = some (.lst xs) ∧ Q .non (upd H l (.lst xs.reverse))
theorem mt_reverse : MtM X "list.reverse" rReverse := by
  intro pins s σ H x vs v us Q I rx rv h
  obtain ⟨l, xs, rfl, rfl, hH, q⟩ := h
  cases rx
  have hus := rv.zero
  subst hus
  obtain ⟨z, its, n, r, hl, e⟩ := I.lstM hH
  refine call_meets F.slot_list_reverse ⟨_, e, rfl⟩ F.entry_list_reverse (F.args_list_reverse_1 _) (AutoSeq1.list_reverse_list_0 l its.toArray n (by rw [List.size_toArray]; omega)) ⟨e, ?_⟩
  refine ⟨.non, _, I.lset (its' := its.reverse) hH e (by simp) r.reverse ?_, rfl, q⟩
  rw [List.length_reverse]
  omega

def rCat : R2 := fun x y H Q => ∃ l b xs zs, x = .ref l ∧ y = .ref b ∧ H l = some (.lst xs) ∧ H b = some (.lst zs) ∧ xs.length + zs.length ≤ sizeLine ∧ ∀ p, H p = none → Q (.ref p) (upd H p (.lst (xs ++ zs)))
theorem op_cat : OpR X (binaryOp .Add) rCat := by
  intro pins s σ H x y v u Q I rx ry h
  obtain ⟨l, b, xs, zs, rfl, rfl, hH, hB, hz, q⟩ := h
  cases rx
  cases ry
  obtain ⟨z, its, n, r, hl, e⟩ := I.lstM hH
  obtain ⟨z2, its2, n2, r2, hl2, e2⟩ := I.lstM hB
  refine PySem.P.add_list e e2 ?_ (by rw [List.size_toArray, List.size_toArray]; omega)
  have ea : its.toArray ++ its2.toArray = (its ++ its2).toArray := by simp
  rw [ea]
  exact ⟨.ref _, _, I.lnew (t' := s.toks) (r.append r2) (by rw [List.length_append]; omega), rfl, q _ I.fresh⟩
/-- a list times an int (a negative one is nothing) -/
def rRep : R2 := fun x y H Q => ∃ l k xs, x = .ref l ∧ y = .int k ∧ H l = some (.lst xs) ∧ -(2 ^ 63) ≤ k ∧ k < 2 ^ 63 ∧ xs.length * k.toNat ≤ sizeLine ∧
  ∀ p, H p = none → Q (.ref p) (upd H p (.lst (List.replicate k.toNat xs).flatten))
theorem len_rep {α : Type} (xs : List α) (k : Nat) : (List.replicate k xs).flatten.length = k * xs.length := by
  induction k with
  | zero => simp
  | succ k ih => rw [List.replicate_succ, List.flatten_cons, List.length_append, ih, Nat.succ_mul, Nat.add_comm]
theorem op_rep : OpR X (binaryOp .Mult) rRep := by
  intro pins s σ H x y v u Q I rx ry h
  obtain ⟨l, k, xs, rfl, rfl, hH, h1, h2, hz, q⟩ := h
  cases rx
  obtain ⟨t, rfl⟩ := ry
  obtain ⟨z, its, n, r, hl, e⟩ := I.lstM hH
  have hlen : its.toArray.size * k.toNat ≤ sizeLine := by rw [List.size_toArray, ← hl]; exact hz
  have hcap : ¬ its.toArray.size * k.toNat > (2 ^ 63 - 1) / 8 := by
    have : (sizeLine : Nat) ≤ (2 ^ 63 - 1) / 8 := by decide
    omega
  have hfit : ¬ (!Builtin.List.listFitsIndex k) = true := by
    rw [fitsIndex_both h1 h2]
    exact Bool.false_ne_true
  have hlong : ¬ Builtin.List.listTooLong (its.toArray.size * k.toNat) = true := by
    rw [notLongL hlen]
    exact Bool.false_ne_true
  have hnew : List.foldl (fun x1 x2 => x1 ++ x2) #[] (List.replicate (if its.toArray.isEmpty = true then 0 else k.toNat) its.toArray) = (List.replicate k.toNat its).flatten.toArray := by
    have f0 : ∀ m : Nat, List.foldl (fun x1 x2 => x1 ++ x2) #[] (List.replicate m its.toArray) = (List.replicate m its).flatten.toArray := fun m => by
      have := foldl_rep its m []
      rw [List.nil_append] at this
      exact this
    rw [f0]
    cases its with
    | nil => simp
    | cons a r' => rw [if_neg (by simp)]
  refine wpAny_binaryOp_repeat_ref (T := "list") (U := "int") (by decide) ⟨_, e, rfl⟩ (fun s' => typeIs_int s' k t) noFill_list_mul F.fills_int_mul F.slot_int_rmul repeat_list F.slot_int_index.lookup
    (call_meets F.slot_int_rmul (typeIs_int s k t) F.entry_int_rmul (F.args_int_rmul_2 _ _) (int___rmul___int_list k t l its.toArray n)
      ⟨e, rfl, ⟨_, e, rfl⟩, call_meets F.slot_list_mul ⟨_, e, rfl⟩ F.entry_list_mul (F.args_list_mul_2 _ _) (AutoListH.list___mul___list_int_3 l its.toArray n k t hfit hcap hlong) ⟨e, ?_⟩⟩)
  rw [hnew]
  exact ⟨.ref _, _, I.lnew (t' := s.toks) (r.rep k.toNat) (by rw [len_rep, Nat.mul_comm]; exact hz), rfl, q _ I.fresh⟩

end

section
variable {prog : Program} {w : World} {A : Around} {E : Value → Shared → Prop} {s : Shared}
set_option maxRecDepth 100000 in
end

section
variable {X : Cx}
end
end L2

namespace Att
open PySem PySem.W PySem.Calls PyProof.Rows

theorem ints_of_wellAll {P : Params} {h : Heap} : ∀ (ns : List Int) (vs : List Value), WellAll P h vs (ns.map WData.int) → IntsAre vs ns := by
  intro ns
  induction ns with
  | nil =>
    intro vs w
    rw [List.map_nil] at w
    cases w
    exact .nil
  | cons n ns ih =>
    intro vs w
    rw [List.map_cons] at w
    cases w with
    | cons a b =>
      cases a
      exact .cons _ _ (ih _ b)

theorem script_of {l : OpenLaw} {n : Nat} (hn : l.most = some n) {P : Params} {h : Heap} {args : List WData} {vals : List Value}
    (hpre : l.row.toRowW.claim.pre args = true) (hwl : WellAll P h vals args) :
    ∃ a vs ns, vals = [Value.ref a] ∧ args = [WData.list (ns.map WData.int)] ∧ h.get? a = some { cls := .type "list", data := .seq vs.toArray } ∧ IntsAre vs ns ∧ ns.length ≤ n := by
  have hsh : WShape.hasAll [] args [.list .int] = true := (pre_splitW hpre).1
  have hc : l.pre.holds [] { args := args } = true := (pre_splitW hpre).2
  obtain ⟨d, r, rfl, h1, h2⟩ := hasAllW_cons hsh
  obtain rfl := hasAllW_nil h2
  obtain ⟨xs, rfl, h3⟩ := hasW_list h1
  obtain ⟨ns, rfl⟩ := items_int h3
  have hlen : ns.length ≤ n := by
    unfold OpenLaw.pre at hc
    have h4 : (WTm.not (.lt (.lit (.int (n : Int))) (.len (.arg 0)))).holds [] { args := [.list (ns.map .int)] } = true := by
      have h4 := (holds_andW hc).1
      rw [hn] at h4
      exact h4
    have h5 := condW_of h4 (w_not (w_lt w_lit (w_len_list (w_arg rfl))))
    rw [List.length_map] at h5
    refine Nat.le_of_not_lt fun q => ?_
    have q' : (n : Int) < ((ns.length : Nat) : Int) := by omega
    first
      | (rw [decide_eq_true q'] at h5; exact absurd h5 (by decide))
      | (simp at h5; omega)
  cases hwl with
  | cons w1 w2 =>
    cases w2
    cases w1 with
    | list ho hall => exact ⟨_, _, ns, rfl, rfl, ho, ints_of_wellAll ns _ hall, hlen⟩

theorem post_true (l : OpenLaw) (args : List WData) : l.row.toRowW.claim.post args (.bool true) args = true :=
  postW_of (r := l.row.toRowW) (X := (true == true))
    (show WShape.has [] (.bool true) .bool = true by first | rfl | decide | simp [WShape.has, WShape.arms, WShape.armsAll])
    (show (WTm.eq .res (.lit (.bool true))).value [] { args := args, res := some (.bool true), after := args } = some (.bool (true == true)) from w_eq_bool (w_res rfl) w_lit) rfl

/-- the same from a codeAny of the CALL (for a layer whose function contracts speak of calls) -/
theorem attach_call {l : OpenLaw} {n : Nat} {q : Program} {loose : List Str} {XP : (Str → Option Value) → Heap → Prop} {YP : World → Heap → Prop} {d : DefRec}
    (hn : l.most = some n) (hdf : d.params.defaults = [])
    (call : ∀ (w : World) (s₀ s₁ : Shared) (mg mb : Str → Option Value) (fa : Addr) (o : Obj) (pm cd doc : Value) (a : Addr) (vs : List Value) (ns : List Int),
      Ground q loose [] XP w s₀ mg mb s₁.heap → YP w s₁.heap →
      s₁.heap.get? fa = some o → o.data = .func (docDef d.name d.params d.body d.scope pm cd doc) → s₁.heap.CodeRec cd d.name → mg d.name = some (.ref fa) →
      s₁.heap.get? a = some { cls := .type "list", data := .seq vs.toArray } → IntsAre vs ns → ns.length ≤ n → s₁.gens = #[] →
      codeAny (model l.prog w) callerA (.call (.ref fa) ⟨[.ref a], []⟩) (fun r s' => r = .ok (.ret (.bool true)) ∧ OldK s₁.heap s'.heap ∧ s'.os = s₁.os ∧ AllBare s'.gens) s₁) :
    WalkO q loose XP YP l.row.toRowW d [] (fun f vs => PySem.call f vs) := by
  intro w s₀ s₁ mg mb G Y fa o pm cd doc dV kV ho hd hcd hD hmg hg args vals as hpre hlay hrd hwl hlo
  obtain rfl : dV = .none := Dflts.none hD hdf
  obtain rfl : kV = .none := Dflts.noKw hD
  obtain ⟨a, vs, ns, rfl, rfl, hobj, hints, hlen⟩ := script_of hn hpre hwl
  refine enter_call (codeAny_mono (call w s₀ s₁ mg mb fa o pm cd doc a vs ns G Y ho (fd_plain hd) hcd hmg hobj hints hlen hg) fun r s' hq => ?_)
  obtain ⟨rfl, h2, h3, h4⟩ := hq
  exact ⟨.inl ⟨.bool true, .bool true, [], rfl, fun _ => rfl, .bool true, post_true l _, fun _ => ⟨List.Pairwise.nil, fun _ hm => (nomatch hm)⟩⟩, h2, h3, h4⟩

section
variable {prog : Program} {w : World} {A : Around} {E : Value → Shared → Prop} {s : Shared} {K : Frag}

end
end Att

namespace L2
open PySem PySem.Spec PyProof.Rows

theorem vals_ints : ∀ {vs : List Value} {ns : List Int}, IntsAre vs ns → Vals (ns.map V.int) vs
  | _, _, .nil => .nil
  | _, _, .cons n t h => .cons ⟨t, rfl⟩ (vals_ints h)

/-- nothing is tracked but the script, known to the object (or it is an object of the module) -/
def Only (H : Hp) : Prop := ∀ b, H b = none ∨ ∃ o xs, H b = some (.frz o (.lst xs))

/-- THE HEAD: the law's promise, at the heap behind the top. F, the promise of the law's def, may use that base is part of the heap (so K.In base, base.Ns mainGlobals mg stand in Mod) -/
theorem law_call {P : Program} {w : World} {K : PySem.W.Frag} {mg mb : Str → Option Value} {CX : CXT} {k : Nat} {fa a : Addr} {fd : FuncData} {x : Str} {sp : Sp} {s₁ : Shared} {vs : List Value} {ns : List Int}
    (KX : K.In s₁.heap) (hns : s₁.heap.Ns mainGlobals mg) (hb : s₁.heap.Ns builtinsNs mb) (hbb : ∀ x : Str, x ≠ "__name__" → mb x = bootBuiltins x) (hlim : s₁.heap.NoLimit) (hg : s₁.gens = #[])
    (ha : s₁.heap.get? a = some { cls := .type "list", data := .seq vs.toArray }) (hi : IntsAre vs ns) (hl : ns.length ≤ sizeLine) (hr : Room k callerA)
    (F : ∀ base : Heap, K.In base → base.Ns mainGlobals mg → FnOk P w K mg base CX k fa fd [x] sp) (hbind : ∀ (s : Shared) (u : Value), BindsTo s fd ⟨[u], []⟩ [(x, u)])
    (hsp : ∀ H : Hp, Only H → SqL K H a (ns.map V.int) → sp [.ref a] H (fun v _ => v = .bl true) fun _ _ _ => False)
    (hCX : ∀ H e s', CX [] H s₁ (fun _ _ _ => False) e s' → False) :
    codeAny (model P w) callerA (.call (.ref fa) ⟨[.ref a], []⟩) (fun r s' => r = .ok (.ret (.bool true)) ∧ OldK s₁.heap s'.heap ∧ s'.os = s₁.os ∧ AllBare s'.gens) s₁ := by
  have rv := vals_ints hi
  have lenV := hi.length
  -- from an abstract heap in which nothing but the script may be tracked
  have core : ∀ H : Hp, Only H → SqL K H a (ns.map V.int) → HOk P w H s₁.heap → (∀ b, H b ≠ none → b = a) → (H a ≠ none → K.lookup a = none) →
      codeAny (model P w) callerA (.call (.ref fa) ⟨[.ref a], []⟩) (fun r s' => r = .ok (.ret (.bool true)) ∧ OldK s₁.heap s'.heap ∧ s'.os = s₁.os ∧ AllBare s'.gens) s₁ := by
    intro H hO hS hok hA hK
    have base_of : ∀ {b : Addr} {o : Obj}, s₁.heap.get? b = some o → H b = none → (hidT s₁.heap H).get? b = some o := fun e n => hidT_get e n
    have noA : ∀ {b : Addr} {o : Obj} {es : Array DictEntry} {ep : Nat}, s₁.heap.get? b = some o → o.data = .dict es ep → H b = none := fun {b o es ep} e d => by
      cases q : H b with
      | none => rfl
      | some u =>
        have e' : b = a := hA b (by rw [q]; simp)
        subst e'
        rw [ha] at e; cases e
        have d' : Data.seq vs.toArray _ = Data.dict es ep := d
        cases d'
    have nsK : ∀ {b : Addr} {m : Str → Option Value}, s₁.heap.Ns b m → (hidT s₁.heap H).Ns b m := fun {b m} ⟨o, es, ep, e, d, r⟩ => ⟨o, es, ep, base_of e (noA e d), d, r⟩
    have hKb : K.In (hidT s₁.heap H) := fun b o e => base_of (KX b o e) (by
      cases q : H b with
      | none => rfl
      | some u =>
        have e' : b = a := hA b (by rw [q]; simp)
        subst e'
        rw [hK (by rw [q]; simp)] at e; cases e)
    have hM : Mod K mg (hidT s₁.heap H) := ⟨hKb, nsK hns, ⟨mb, nsK hb, hbb⟩, let ⟨mc, h1, h2⟩ := hlim; ⟨mc, nsK h1, h2⟩⟩
    have e0 : Env0 P w K mg (hidT s₁.heap H) callerA [] s₁ H := ⟨rfl, hM, fun b o e => of_hidT e, Nat.le_of_eq (hidT_size _ _), trivial, fun b hb => absurd (show b ∈ ([] : List Addr) from hb) (by simp), hok, .of_eq hg⟩
    refine codeAny_mono ((F _ hKb (nsK hns)).run callerA [] s₁ H ⟨[.ref a], []⟩ [.ref a] [.ref a] _ _ hr e0 (hbind s₁ (.ref a)) (.cons rfl .nil) (hsp H hO hS)) fun r s' h => ?_
    cases r with
    | error e => exact (hCX H e s' h).elim
    | ok fl =>
      cases fl with
      | next => exact False.elim h
      | brk => exact False.elim h
      | cont => exact False.elim h
      | ret u =>
        obtain ⟨v, H', os, bare, un, hok', r', q⟩ := h
        have q' : v = .bl true := q
        subst q'
        obtain rfl : u = Value.bool true := r'
        refine ⟨rfl, OldK.of_keep fun b o e => ?_, os, bare⟩
        cases q : H b with
        | none => exact un.keep b o e q (by intro z; exact absurd (show b ∈ ([] : List Addr) from z) (by simp)) (by simp)
        | some u =>
          rcases hO b with z | ⟨ob, xs, z⟩
          · rw [q] at z; cases z
          · have z2 := un.frzs b ob _ z
            obtain ⟨e1, _⟩ := hok b _ z
            obtain ⟨e2, _⟩ := hok' b _ z2
            rw [e] at e1; cases e1
            exact e2
  cases hk : K.lookup a with
  | some o =>
    -- the script is one of the module's own objects
    have e := KX a o hk
    rw [ha] at e
    cases e
    refine core (fun _ => none) (fun _ => .inl rfl) (.inr ⟨_, vs.toArray, _, hk, rfl, rfl, rfl, by rw [List.size_toArray, lenV]; exact hl, by simpa using rv⟩) (fun b u z => by have z' : (none : Option HO) = some u := z; cases z') (fun b z => absurd rfl z) fun z => absurd rfl z
  | none =>
    refine core (fun b => if b = a then some (.frz { cls := .type "list", data := .seq vs.toArray } (.lst (ns.map V.int))) else none) (fun b => ?_) (.inl (.inr ⟨{ cls := .type "list", data := .seq vs.toArray }, if_pos rfl⟩)) (fun b u z => ?_) (fun b z => ?_) fun _ => hk
    · by_cases hb : b = a
      · exact .inr ⟨_, _, if_pos hb⟩
      · exact .inl (if_neg hb)
    · by_cases hb : b = a
      · have z' := (if_pos hb).symm.trans z
        cases z'
        subst hb
        exact ⟨ha, by rw [List.length_map]; exact hl, vs, _, rv, ha⟩
      · have z' := (if_neg hb).symm.trans z
        cases z'
    · by_cases hb : b = a
      · exact hb
      · exact absurd (if_neg hb) z
end L2

namespace L2
open PySem PySem.Spec PyProof.Rows

/-- the goal that k_head leaves (case hc), from the law's promise. F gives the function object fd (K's own) once, then the promise over every base -/
theorem walk_of {l : PySem.W.OpenLaw} {n k : Nat} {q : Program} {loose : List Str} {XP : (Str → Option Value) → Heap → Prop} {YP : World → Heap → Prop} {d : DefRec} {K : Params → PySem.W.Frag} {CX : World → CXT} {sp : World → Sp} {x : Str}
    (hn : l.most = some n) (hn2 : n ≤ sizeLine) (hdf : d.params.defaults = []) (hr : Room k callerA)
    (hY : ∀ (w : World) (h : Heap), YP w h → (K w.params).In h)
    (F : ∀ (w : World) (mg : Str → Option Value) (fa : Addr) (h : Heap), (K w.params).In h → h.Ns mainGlobals mg → mg d.name = some (.ref fa) →
      ∃ fd : FuncData, (∀ (s : Shared) (u : Value), BindsTo s fd ⟨[u], []⟩ [(x, u)]) ∧
        ∀ base : Heap, (K w.params).In base → base.Ns mainGlobals mg → FnOk l.prog w (K w.params) mg base (CX w) k fa fd [x] (sp w))
    (hsp : ∀ (w : World) (H : Hp) (a : Addr) (ns : List Int), ns.length ≤ n → Only H → SqL (K w.params) H a (ns.map V.int) → sp w [.ref a] H (fun v _ => v = .bl true) fun _ _ _ => False)
    (hCX : ∀ (w : World) (H : Hp) (s : Shared) (e : Value) (s' : Shared), CX w [] H s (fun _ _ _ => False) e s' → False) :
    PySem.W.WalkO q loose XP YP l.row.toRowW d [] (fun f vs => PySem.call f vs) := by
  refine Att.attach_call hn hdf fun w s₀ s₁ mg mb fa o pm cd doc a vs ns G Y ho hd hcd hmg hobj hints hlen hg => ?_
  have KX := hY w _ Y
  obtain ⟨fd, hb, hF⟩ := F w mg fa _ KX G.T.g hmg
  exact law_call KX G.T.g G.T.b G.T.builtins G.T.nolimit hg hobj hints (Nat.le_trans hlen hn2) hr hF hb (fun H hO hS => hsp w H a ns hlen hO hS) fun H e s' => hCX w H s₁ e s'
end L2

/- THE LAST THEOREM (shape; LID, My.* are yours):
   My.Adr: a structure of the addresses that your layer names (classes, functions); My.Txt K t: a structure (Prop) of the equations over K;
   My.txt_mk : {K} {implicit addresses ..} (e1 : nsIn K mainGlobals "law" = some (some (.ref f))) (e2 : K.lookup f = some ⟨oc, od, .func (fnOf "law" "law" params body scope dV kV doc pm an cdv ct), sl⟩) (e3 : codeIn K cdv "law" = true) .. : ∃ t, My.Txt K t

set_option maxRecDepth 100000 in
set_option maxHeartbeats 0 in
theorem PySem.Challenge.cw_LID_holds : PySem.Challenge.rw_LID.Holds := by
  w_on; o_law; k_head; (case hw => w_witness2)
  k_fill
  refine L2.walk_of (l := PySem.Challenge.rw_LID) (n := 63) (k := 40) (x := "script") (CX := fun w => ..) (sp := fun _ => My.sp_law) rfl (by decide) rfl ⟨rfl, by decide, by decide⟩ (fun w h Y => PySem.W.kIn_of Y) ?F ?S ?C
  case F =>
    intro w mg fa h KX G hmg
    have T : ∃ t, My.Txt (L2.KOf KX) t := by
      dsimp only [L2.KOf]                          -- K must stand as «<heap const> w.params» for k_is
      refine' My.txt_mk ?e1 ?e2 ?e3 ..
      (case e1 => PySem.W.k_is)                    -- in the order: a name -> its address -> its object -> its parts
      (case e2 => PySem.W.k_is)
      ..
    obtain ⟨t, T⟩ := T
    have e0 := hmg.symm.trans (PySem.W.mg_of KX G T.law)
    cases e0                                       -- fa is the law's own address
    exact ⟨_, fun s u => .of_eq rfl, fun base kb nb => My.law_fn T kb nb⟩     -- if «.of_eq rfl» comes too early: refine' ⟨_, ?b, fun base kb nb => My.law_fn T kb nb⟩; exact fun s u => .of_eq rfl
  case S => exact fun w H a ns hl hO hS => ..
  case C => exact ..
(the tactic k_is has no namespace: write k_is) -/

namespace L2
open PySem PySem.Spec PyProof.Rows

def defArgs (s : Stmt) : Arguments := match s with
  | .FunctionDef _ a _ _ _ _ _ _ _ _ => a
  | _ => { posonlyargs := [], args := [], vararg := none, kwonlyargs := [], kw_defaults := [], kwarg := none, defaults := [] }
def defBody (s : Stmt) : List Stmt := match s with
  | .FunctionDef _ _ b _ _ _ _ _ _ _ => b
  | _ => []
def defScope (s : Stmt) : Scope := match s with
  | .FunctionDef _ _ _ _ _ _ sc _ _ _ => sc
  | _ => { kind := .function, names := [], isGenerator := false, isCoroutine := false }

abbrev CX0 : CXT := fun _ _ _ _ _ _ => False
abbrev E0 : XK := fun _ _ _ => False
theorem pass0 {X : Cx} : Passes CX0 X E0 := fun _ _ _ _ _ _ _ h => h.elim

structure Fun (K : PySem.W.Frag) (x qual : Str) (st : Stmt) (f : Addr) (fd : FuncData) : Prop where
  ex : ∃ (oc : Value) (od : Option Addr) (kV doc pm : Value) (an : Option Addr) (cdv ct : Value) (osl : Array (Option Value)),
    fd = PySem.W.fnOf x qual (defArgs st) (defBody st) (defScope st) .none kV doc pm an cdv ct ∧ K.lookup f = some ⟨oc, od, .func fd, osl⟩ ∧ PySem.W.codeIn K cdv qual = true
  kp : PySem.W.keepIn K (.ref f) = true
section
variable {P : Program} {w : World} {K : PySem.W.Frag} {mg : Str → Option Value} {base : Heap}
/-- THE RULE for a def: its body as a term of rules, and the reading of that term -/
theorem Fun.ok {x qual : Str} {st : Stmt} {f : Addr} {fd : FuncData} {N ps : List Str} {k : Nat} {sp : Sp} (F : Fun K x qual st f fd) (S : FnScope N ps (defScope st)) (len : ∀ vs H Q E, sp vs H Q E → vs.length = ps.length)
    (hbody : ∀ (cdv : Value) (A : Around) (outer : List Env) (s : Shared) (H : Hp) (vs : List V) (Q : VK) (E : XK), Room k (A.deeper (envOfC qual (defScope st) s.heap.objs.size f cdv)) → sp vs H Q E →
      ∃ t, PSs (cxOf CX0 P w K mg base N qual (defScope st) f cdv A outer s H E).nox (defBody st) t ∧ t { nx := fun _ H' => Q .non H', rt := Q } (start N vs) H) : FnOk P w K mg base CX0 (k + 1) f fd ps sp := by
  obtain ⟨oc, od, kV, doc, pm, an, cdv, ct, osl, rfl, lk, hcd⟩ := F.ex
  refine fn_of lk hcd S len fun A outer s H vs Q E hr hsp => ?_
  obtain ⟨t, h, q⟩ := hbody cdv A outer s H vs Q E hr hsp
  exact ⟨t, h.nox, q⟩
/-- how its arguments bind (no defaults): h is «fun _ _ _ _ _ _ us hl => match us, hl with | [_, _], _ => rfl», one _ a parameter -/
theorem Fun.binds {x qual : Str} {st : Stmt} {f : Addr} {fd : FuncData} {ps : List Str} (F : Fun K x qual st f fd)
    (h : ∀ (kV doc pm : Value) (an : Option Addr) (cdv ct : Value) (us : List Value), us.length = ps.length → bindArgs (PySem.W.fnOf x qual (defArgs st) (defBody st) (defScope st) .none kV doc pm an cdv ct) ⟨us, []⟩ = pure (ps.zip us)) : Binds K fd ps [] := by
  obtain ⟨oc, od, kV, doc, pm, an, cdv, ct, osl, rfl, lk, hcd⟩ := F.ex
  exact .all (h kV doc pm an cdv ct)
theorem fun_mk {x qual : Str} {st : Stmt} {f : Addr} {oc : Value} {od an : Option Addr} {osl : Array (Option Value)} {kV doc pm cdv ct : Value} (l : K.lookup f = some ⟨oc, od, .func (PySem.W.fnOf x qual (defArgs st) (defBody st) (defScope st) .none kV doc pm an cdv ct), osl⟩)
    (c : PySem.W.codeIn K cdv qual = true) (k : PySem.W.keepIn K (.ref f) = true) : Fun K x qual st f (PySem.W.fnOf x qual (defArgs st) (defBody st) (defScope st) .none kV doc pm an cdv ct) := ⟨⟨oc, od, kV, doc, pm, an, cdv, ct, osl, rfl, l, c⟩, k⟩
end
theorem hu_of {A : Around} {k : Nat} (hr : Room k A) : A.units + 1 < cLine := Nat.lt_of_le_of_lt (Nat.add_le_add_left (by decide : 1 ≤ 64) _) hr.units
theorem small1000 {n : Nat} (h : n ≤ 1000) : n < sizeLine := Nat.lt_of_le_of_lt h (by decide)

section
variable {X : Cx}
theorem pv (i : Nat) {x : Str} {pos : Pos} (hN : X.N[i]? = some x := by rfl) (hv : Vis X.env.scope x := by first | exact Or.inl rfl | exact Or.inr (Or.inl rfl) | exact Or.inr (Or.inr rfl)) (hd : (x == ("__debug__" : Str)) = false := by decide)
    (hcd : (x == ("__classdict__" : Str)) = false := by decide) : PE X (.Name x pos) (tVar i) := pe_var hN hv hd hcd
end

/-- all that was tracked is as it was -/
def Same (H H' : Hp) : Prop := ∀ b o, H b = some o → H' b = some o
theorem Same.refl (H : Hp) : Same H H := fun _ _ h => h
theorem Same.trans {H H1 H2 : Hp} (a : Same H H1) (b : Same H1 H2) : Same H H2 := fun c o h => b c o (a c o h)
theorem Same.free {H H' : Hp} (e : Same H H') {l : Addr} (h : H' l = Option.none) : H l = Option.none := by
  cases q : H l with
  | none => rfl
  | some o =>
    rw [e l o q] at h
    cases h
theorem Same.seq {K : PySem.W.Frag} {H H' : Hp} {a : Addr} {xs : List V} (e : Same H H') (h : SqL K H a xs) : SqL K H' a xs := by
  rcases h with (h | ⟨o, h⟩) | h
  · exact .inl (.inl (e _ _ h))
  · exact .inl (.inr ⟨o, e _ _ h⟩)
  · exact .inr h

end L2

set_option Elab.async false
set_option linter.all false
set_option maxRecDepth 100000
set_option maxHeartbeats 4000000

namespace L2
open PySem PySem.Spec PyProof.Rows

theorem natlt {a b : Addr} (h : a < b) : @LT.lt Nat _ a b := h
theorem ne_lt {a b : Addr} {n : Nat} (h : a < n) (k : n ≤ b) : a ≠ b := Nat.ne_of_lt (Nat.lt_of_lt_of_le h k)
theorem cellsFrom_app : ∀ (names : List (Str × NameKind)) (n : Nat) (acc : List (Str × Addr)), cellsFrom n names acc = cellsFrom n names [] ++ acc
  | [], _, _ => rfl
  | (x, k) :: r, n, acc => by
    unfold cellsFrom
    split
    · rw [cellsFrom_app r (n + 1) ((x, n) :: acc), cellsFrom_app r (n + 1) [(x, n)], List.append_assoc]; rfl
    · exact cellsFrom_app r n acc
theorem cellsFrom_mem : ∀ (names : List (Str × NameKind)) (n : Nat) (acc : List (Str × Addr)) (y : Str) (c : Addr), (y, c) ∈ cellsFrom n names acc → (y, c) ∈ acc ∨ ((y, NameKind.cell) ∈ names ∧ n ≤ c)
  | [], _, _, _, _, h => .inl h
  | (x, k) :: r, n, acc, y, c, h => by
    unfold cellsFrom at h
    split at h
    · rename_i hk
      have hk' : k = .cell := by simpa using hk
      rcases cellsFrom_mem r (n + 1) _ y c h with h | ⟨h, l⟩
      · rcases List.mem_cons.mp h with e | h
        · cases e; subst hk'; exact .inr ⟨List.mem_cons_self, Nat.le_refl _⟩
        · exact .inl h
      · exact .inr ⟨List.mem_cons_of_mem _ h, Nat.le_of_succ_le l⟩
    · rcases cellsFrom_mem r n _ y c h with h | ⟨h, l⟩
      · exact .inl h
      · exact .inr ⟨List.mem_cons_of_mem _ h, l⟩
def closFrom (cells : List (Str × Addr)) : List (Str × NameKind) → List (Str × Addr) → List (Str × Addr)
  | [], acc => acc
  | (x, k) :: r, acc => if k == .free then closFrom cells r ((x, (cells.lookup x).getD 0) :: acc) else closFrom cells r acc
theorem closFrom_mem {cells : List (Str × Addr)} : ∀ (names : List (Str × NameKind)) (acc : List (Str × Addr)) (y : Str) (c : Addr), (y, c) ∈ closFrom cells names acc → (y, c) ∈ acc ∨ ((y, NameKind.free) ∈ names ∧ c = (cells.lookup y).getD 0)
  | [], _, _, _, h => .inl h
  | (x, k) :: r, acc, y, c, h => by
    unfold closFrom at h
    split at h
    · rename_i hk
      have hk' : k = .free := by simpa using hk
      rcases closFrom_mem r _ y c h with h | ⟨h, l⟩
      · rcases List.mem_cons.mp h with e | h
        · cases e; subst hk'; exact .inr ⟨List.mem_cons_self, rfl⟩
        · exact .inl h
      · exact .inr ⟨List.mem_cons_of_mem _ h, l⟩
    · rcases closFrom_mem r _ y c h with h | ⟨h, l⟩
      · exact .inl h
      · exact .inr ⟨List.mem_cons_of_mem _ h, l⟩
theorem closFrom_acc {cells : List (Str × Addr)} : ∀ (names : List (Str × NameKind)) (acc : List (Str × Addr)) (p : Str × Addr), p ∈ acc → p ∈ closFrom cells names acc
  | [], _, _, h => h
  | (x, k) :: r, acc, p, h => by
    unfold closFrom
    split
    · exact closFrom_acc r _ p (List.mem_cons_of_mem _ h)
    · exact closFrom_acc r _ p h
theorem closFrom_has {cells : List (Str × Addr)} : ∀ (names : List (Str × NameKind)) (acc : List (Str × Addr)) (y : Str), (y, NameKind.free) ∈ names → (y, (cells.lookup y).getD 0) ∈ closFrom cells names acc
  | [], _, _, h => nomatch h
  | (x, k) :: r, acc, y, h => by
    unfold closFrom
    rcases List.mem_cons.mp h with e | h
    · cases e
      rw [if_pos (by rfl)]
      exact closFrom_acc r _ _ List.mem_cons_self
    · split
      · exact closFrom_has r _ y h
      · exact closFrom_has r _ y h
theorem lookup_of_mem {α : Type} : ∀ {l : List (Str × α)} {y : Str} {c : α}, (y, c) ∈ l → ∃ c', l.lookup y = some c'
  | (k, v) :: r, y, c, h => by
    rw [List.lookup_cons]
    cases hb : y == k with
    | true => exact ⟨v, rfl⟩
    | false =>
      rcases List.mem_cons.mp h with e | h
      · cases e; rw [beq_self_eq_true] at hb; cases hb
      · exact lookup_of_mem h
theorem closureFor_go {env : Env} (f : Str × NameKind → List (Str × Addr) → Sem (ForInStep (List (Str × Addr))))
    (hf : ∀ name kind cs, f (name, kind) cs = if kind == .free then (do let a ← cellOf env name; pure (.yield ((name, a) :: cs))) else pure (.yield cs)) :
    ∀ (names : List (Str × NameKind)) (acc : List (Str × Addr)), (∀ x, (x, NameKind.free) ∈ names → ∃ c, env.cells.lookup x = some c) → forIn names acc f = (pure (closFrom env.cells names acc) : Sem (List (Str × Addr)))
  | [], acc, _ => by rw [List.forIn_nil]; rfl
  | (x, k) :: r, acc, h => by
    have hr : ∀ x, (x, NameKind.free) ∈ r → ∃ c, env.cells.lookup x = some c := fun y hy => h y (List.mem_cons_of_mem _ hy)
    rw [List.forIn_cons, hf]
    unfold closFrom
    split
    · rename_i hk
      have hk' : k = .free := by simpa using hk
      subst hk'
      obtain ⟨c, hc⟩ := h x List.mem_cons_self
      have e : cellOf env x = (pure c : Sem Addr) := by unfold cellOf; rw [hc]
      rw [e, hc]
      exact closureFor_go f hf r ((x, c) :: acc) hr
    · exact closureFor_go f hf r acc hr
theorem closureFor_eq {scope : Scope} {env : Env} (h : ∀ x, (x, NameKind.free) ∈ scope.names → ∃ c, env.cells.lookup x = some c) : closureFor scope env = pure (closFrom env.cells scope.names []) := by
  simp only [closureFor]
  rw [closureFor_go _ (fun name kind cs => by cases hk : kind == NameKind.free <;> simp [hk]) scope.names [] h]
  rfl
section
variable {M : Model} {A : Around} {E : Value → Shared → Prop} {s : Shared}
/-- the block's own frame and cells, over a closure -/
theorem newEnv_comp {scope : Scope} {globals : Addr} {cl : List (Str × Addr)} {qual : Str} {env : Env} {Q : Env → Shared → Prop}
    (hQ : Q { scope := scope, locals := s.heap.objs.size, globals := globals, cells := cellsFrom (s.heap.objs.size + 1) scope.names cl, qual := qual, func := none, code := env.code, frame := env.frame, builtins := env.builtins }
      { s with heap := pushCells (s.heap.push { cls := .type "dict", data := .dict #[] }) scope.names }) :
    wpAny M A (newFunctionEnv scope globals cl [] qual none .none (some env)) Q E s := by
  simp only [newFunctionEnv, Option.isSome_some, if_true]
  refine wpAny_bind (wpAny_alloc ?_)
  refine wpAny_bind (wpAny_layCells _ (fun name kind cells => by cases hkc : kind == NameKind.cell <;> simp [hkc]) _ _ _ _ ?_)
  rw [show ({ s with heap := s.heap.push { cls := .type "dict", data := .dict #[] } } : Shared).heap.objs.size = s.heap.objs.size + 1 from Heap.size_push ..]
  rw [List.forIn_nil]
  exact wpAny_bind (wpAny_pure (wpAny_pure hQ))
end
theorem relabel_lookup {scope : Scope} {env : Env} (x : Str) : (relabel scope env).names.lookup x = (scope.names.lookup x).map fun k => if (k == .free && env.scope.kind == .function && env.kindOf x == some .cell) = true then NameKind.cell else k := by
  unfold relabel
  dsimp only
  generalize scope.names = names
  induction names with
  | nil => rfl
  | cons p r ih =>
    obtain ⟨n, k⟩ := p
    rw [List.map_cons, List.lookup_cons (as := r)]
    cases hx : x == n with
    | true =>
      have e : x = n := beq_iff_eq.mp hx
      subst e
      by_cases hc : (k == NameKind.free && env.scope.kind == .function && env.kindOf x == some .cell) = true
      · simp only [hc, if_true, List.lookup_cons, hx, Option.map_some]
      · simp only [hc, Bool.false_eq_true, if_false, List.lookup_cons, hx, Option.map_some]
    | false =>
      by_cases hc : (k == NameKind.free && env.scope.kind == .function && env.kindOf n == some .cell) = true
      · simp only [hc, if_true, List.lookup_cons, hx]; exact ih
      · simp only [hc, Bool.false_eq_true, if_false, List.lookup_cons, hx]; exact ih

/-- the block's names: its own k first, then those that it takes from the outer slots js -/
def cmpCheck (N : List Str) (osc : Scope) (k : Nat) (js : List Nat) (N' : List Str) (sc : Scope) : Bool :=
  decide (sc.kind = .function) && decide (N'.length = k + js.length) && decide N'.Nodup &&
  sc.names.all (fun p => decide (sc.names.lookup p.1 = some p.2) && (decide (p.2 ≠ .free) || decide (osc.names.lookup p.1 = some .cell) || decide (osc.names.lookup p.1 = some .free))) &&
  (List.range js.length).all (fun i => decide (js[i]?.bind (fun j => N[j]?) = N'[k + i]?) && decide ((N'[k + i]?).bind (fun y => sc.names.lookup y) = some .free))
structure CmpOk (N : List Str) (osc : Scope) (k : Nat) (js : List Nat) (N' : List Str) (sc : Scope) : Prop where
  kind : sc.kind = .function
  len : N'.length = k + js.length
  nd : N'.Nodup
  look : ∀ p ∈ sc.names, sc.names.lookup p.1 = some p.2
  fr : ∀ y, (y, NameKind.free) ∈ sc.names → osc.names.lookup y = some .cell ∨ osc.names.lookup y = some .free
  js : ∀ i j, js[i]? = some j → ∃ y, N'[k + i]? = some y ∧ N[j]? = some y ∧ sc.names.lookup y = some .free
theorem cmpOk {N : List Str} {osc : Scope} {k : Nat} {js : List Nat} {N' : List Str} {sc : Scope} (h : cmpCheck N osc k js N' sc = true) : CmpOk N osc k js N' sc := by
  unfold cmpCheck at h
  simp only [Bool.and_eq_true, decide_eq_true_eq, List.all_eq_true, Bool.or_eq_true, List.mem_range] at h
  obtain ⟨⟨⟨⟨h1, h2⟩, h3⟩, h4⟩, h5⟩ := h
  refine ⟨h1, h2, h3, fun p hp => (h4 p hp).1, fun y hy => ?_, fun i j hj => ?_⟩
  · rcases (h4 _ hy).2 with (z | z) | z
    · exact absurd rfl z
    · exact .inl z
    · exact .inr z
  · have hi : i < js.length := (List.getElem?_eq_some_iff.mp hj).1
    obtain ⟨a, b⟩ := h5 i hi
    rw [hj] at a
    cases e : N'[k + i]? with
    | none => rw [e] at b; cases b
    | some y =>
      rw [e] at a b
      exact ⟨y, rfl, a, b⟩

def compEnv (scope : Scope) (cl : List (Str × Addr)) (C : Addr) (env : Env) : Env :=
  { scope := relabel scope env, locals := C, globals := env.globals, cells := cellsFrom (C + 1) scope.names cl, qual := env.qual, func := none, code := env.code, frame := env.frame, builtins := env.builtins }
/-- the block's context -/
def cxComp (X : Cx) (N' : List Str) (scope : Scope) (C : Addr) (fp : List Addr) (s2 : Shared) (H2 : Hp) : Cx where
  prog := X.prog
  w := X.w
  K := X.K
  mg := X.mg
  base := X.base
  A := X.A
  N := N'
  s₀ := s2
  H₀ := H2
  env := compEnv scope (closFrom X.env.cells scope.names []) C X.env
  outer := X.stack
  stack := X.stack
  ex := fp
  fn := fun x => decide (scope.names.lookup x = some .cell)
  calm := X.calm
  pn := []
  xe := fun _ _ => False
/-- the block's slots at its start -/
def up (k : Nat) (js : List Nat) (σ : St) : St := List.replicate k none ++ js.map fun j => (σ[j]?).getD none

section
variable {X : Cx} {pins : List (Addr × Obj)} {σ : St} {H : Hp} {s2 : Shared} {k : Nat} {js : List Nat} {N' : List Str} {scope : Scope} {fp : List Addr}
theorem comp_inv (hc : CmpOk X.N X.env.scope k js N' scope) (I : Inv X pins σ H s2) (hfp : ∀ b ∈ fp, FpOk X pins H b) (hlt : ∀ b ∈ fp, b < s2.heap.objs.size) {h3 : Heap} (hz : h3.objs.size = s2.heap.objs.size + 1) (hk3 : ∀ b o, s2.heap.get? b = some o → h3.get? b = some o) :
    Inv (cxComp X N' scope (s2.heap.objs.size + 1) fp s2 H) [] (up k js σ) H { s2 with heap := pushCells (h3.push { cls := .type "dict", data := .dict #[] }) scope.names } := by
  have frLook : ∀ y, (y, NameKind.free) ∈ scope.names → ∃ c, X.env.cells.lookup y = some c := fun y hy => I.ok.has y (hc.fr y hy)
  have ok0 := cellsFrom_ok scope.names (h3.push { cls := .type "dict", data := .dict #[] }) (s2.heap.objs.size + 2) [] ⟨fun _ _ hm => (nomatch hm), List.Pairwise.nil⟩ (by rw [Heap.size_push, hz]; exact Nat.le_refl _)
  rw [Heap.size_push, hz] at ok0
  -- the cells of the block
  have parts : ∀ y c, (compEnv scope (closFrom X.env.cells scope.names []) (s2.heap.objs.size + 1) X.env).cells.lookup y = some c →
      ((y, c) ∈ cellsFrom (s2.heap.objs.size + 2) scope.names [] ∧ (y, NameKind.cell) ∈ scope.names ∧ s2.heap.objs.size + 2 ≤ c) ∨ ((y, NameKind.free) ∈ scope.names ∧ X.env.cells.lookup y = some c) := fun y c e => by
    have m := PySem.mem_of_lookup e
    change (y, c) ∈ cellsFrom (s2.heap.objs.size + 1 + 1) scope.names _ at m
    rw [cellsFrom_app] at m
    rcases List.mem_append.mp m with m | m
    · rcases cellsFrom_mem _ _ _ _ _ m with z | ⟨z, l⟩
      · cases z
      · exact .inl ⟨m, z, l⟩
    · rcases closFrom_mem _ _ _ _ m with z | ⟨z, l⟩
      · cases z
      · obtain ⟨c', e'⟩ := frLook y z
        rw [e'] at l
        exact .inr ⟨z, by rw [e']; exact congrArg some l.symm⟩
  have old : ∀ y c, X.env.cells.lookup y = some c → c < s2.heap.objs.size := fun y c e => by
    obtain ⟨v, q⟩ := I.cell y c e
    exact q.lt
  have freeAt : ∀ y, (y, NameKind.free) ∈ scope.names → ∀ c, X.env.cells.lookup y = some c → (compEnv scope (closFrom X.env.cells scope.names []) (s2.heap.objs.size + 1) X.env).cells.lookup y = some c := fun y hy c e => by
    have m : (y, c) ∈ cellsFrom (s2.heap.objs.size + 1 + 1) scope.names (closFrom X.env.cells scope.names []) := by
      rw [cellsFrom_app]
      have q := closFrom_has (cells := X.env.cells) scope.names [] y hy
      rw [e] at q
      exact List.mem_append_right _ q
    obtain ⟨c', q⟩ := lookup_of_mem m
    rcases parts y c' q with ⟨_, z, _⟩ | ⟨_, z⟩
    · have z1 := hc.look _ z
      have z2 := hc.look _ hy
      rw [z1] at z2
      cases z2
    · rw [e] at z
      cases z
      exact q
  have keepAll : ∀ b o, s2.heap.get? b = some o → (pushCells (h3.push { cls := .type "dict", data := .dict #[] }) scope.names).get? b = some o := fun b o e => pushCells_keeps _ _ b o (Heap.get?_push_of_some _ (hk3 b o e))
  refine ⟨⟨I.ok.mod, hc.kind, I.ok.glob, I.ok.blt, Nat.le_succ _, fun y z c h1 h2 => ?_, fun y hy => ?_, fun y c h1 h2 => ?_, I.ok.hd, I.ok.frames, .inl rfl, fun b hb => ⟨?_, fun y c e => ?_⟩, I.bs, Nat.le_trans I.ok.bsz I.sz, fun b o e hb => ?_, fun b hb hs => ?_, I.stack, I.stkFree⟩,
    rfl, I.bare, Un.kept keepAll, ⟨fun _ => none, ?_, fun i y v e1 e2 e3 => ?_⟩, fun y c e => ?_, I.hok.fresh (Nat.le_succ _), fun y c e => ?_, fun p hp => absurd (show p ∈ ([] : List (Addr × Obj)) from hp) (by simp), I.hok.kept keepAll, ?_⟩
  · -- inj
    rcases parts y c h1 with ⟨a, _, l⟩ | ⟨_, a⟩ <;> rcases parts z c h2 with ⟨b, _, l'⟩ | ⟨_, b⟩
    · exact name_of_addr ok0.apart a b
    · have := natlt (old z c b); omega
    · have := natlt (old y c a); omega
    · exact I.ok.inj y z c a b
  · -- has
    have hy' : (relabel scope X.env).names.lookup y = some .cell ∨ (relabel scope X.env).names.lookup y = some .free := hy
    rw [relabel_lookup] at hy'
    have q : scope.names.lookup y = some .cell ∨ scope.names.lookup y = some .free := by
      cases e : scope.names.lookup y with
      | none => rw [e] at hy'; rcases hy' with z | z <;> cases z
      | some kk =>
        rw [e] at hy'
        cases kk <;> first | exact .inl rfl | exact .inr rfl | (rcases hy' with z | z <;> simp at z)
    rcases q with q | q
    · obtain ⟨c, e⟩ := cell_has (n := s2.heap.objs.size + 1 + 1) q
      have m : (y, c) ∈ cellsFrom (s2.heap.objs.size + 1 + 1) scope.names (closFrom X.env.cells scope.names []) := by
        rw [cellsFrom_app]
        exact List.mem_append_left _ (PySem.mem_of_lookup e)
      exact lookup_of_mem m
    · have m := PySem.mem_of_lookup q
      obtain ⟨c, e⟩ := frLook y m
      exact ⟨c, freeAt y m c e⟩
  · -- cab
    have h1' : scope.names.lookup y = some .cell := of_decide_eq_true h1
    rcases parts y c h2 with ⟨_, _, l⟩ | ⟨z, _⟩
    · show s2.heap.objs.size ≤ c
      omega
    · have := hc.look _ z
      rw [h1'] at this
      cases this
  · -- an iterator is not the frame
    exact ne_lt (hlt b hb) (Nat.le_succ _)
  · rcases parts y c e with ⟨_, _, l⟩ | ⟨_, z⟩
    · exact (ne_lt (hlt b hb) (Nat.le_trans (Nat.le_add_right _ 2) l)).symm
    · exact (hfp b hb).2.2.2.2.1 y c z
  · -- noex
    rcases (hfp b hb).2.2.2.1 with z | z
    · exact I.ok.noex b o e z
    · exact absurd (Nat.lt_of_lt_of_le (Heap.lt_size e) (Nat.le_trans I.ok.bsz z)) (Nat.lt_irrefl _)
  · -- exfs
    rcases List.mem_cons.mp (I.stkSub b hs) with z | z
    · exact (hfp b hb).2.1 z
    · exact (hfp b hb).2.2.1 z
  · -- the frame's map
    have q := (Heap.Ns.new h3 (.type "dict")).keeps (pushCells_keeps scope.names _)
    rw [hz] at q
    exact q
  · -- what is captured
    unfold up at e2
    have hik : k ≤ i := by
      by_cases hi : i < k
      · rw [List.getElem?_append_left (by simpa using hi), List.getElem?_replicate] at e2
        rw [if_pos hi] at e2
        cases e2
      · omega
    rw [List.getElem?_append_right (by simpa using hik), List.length_replicate, List.getElem?_map] at e2
    cases ej : js[i - k]? with
    | none => rw [ej] at e2; cases e2
    | some j =>
      rw [ej] at e2
      have e2' : (σ[j]?).getD none = some v := Option.some.inj e2
      have e4 : σ[j]? = some (some v) := by
        cases q : σ[j]? with
        | none => rw [q] at e2'; cases e2'
        | some z => rw [q] at e2'; exact congrArg some e2'
      obtain ⟨y', n1, n2, n3⟩ := hc.js _ _ ej
      rw [Nat.add_sub_cancel' hik] at n1
      have n0 : N'[i]? = some y := e1
      rw [n1] at n0
      cases n0
      have hm := PySem.mem_of_lookup n3
      have hvis : Vis X.env.scope y := .inr (hc.fr y hm)
      obtain ⟨m, hn, hl⟩ := I.loc
      obtain ⟨u, r, l⟩ := hl j y v n2 e4 hvis
      refine ⟨u, r, ?_⟩
      rcases l with ⟨kk, _⟩ | ⟨kk, c, ec, ic⟩
      · have kk' : X.env.scope.names.lookup y = some .local := kk
        rcases hc.fr y hm with z | z <;> (rw [kk'] at z; cases z)
      · refine .inr ⟨?_, c, freeAt y hm c ec, ic.keeps keepAll⟩
        show (relabel scope X.env).names.lookup y = some .cell ∨ (relabel scope X.env).names.lookup y = some .free
        rw [relabel_lookup, n3]
        simp only [Option.map_some]
        split
        · exact .inl rfl
        · exact .inr rfl
  · -- cells are there
    rcases parts y c e with ⟨a, _, _⟩ | ⟨_, a⟩
    · exact ⟨none, (ok0.empty y c a).1⟩
    · obtain ⟨v, q⟩ := I.cell y c a
      exact ⟨v, q.keeps keepAll⟩
  · rcases parts y c e with ⟨_, _, l⟩ | ⟨_, a⟩
    · exact I.hok.fresh (by omega)
    · exact I.freeC y c a
  · unfold up
    show _ = N'.length
    rw [List.length_append, List.length_replicate, List.length_map, hc.len]

/-- the block is left: the list D stands in the outer heap -/
theorem comp_end {σ' : St} {H' : Hp} {s' : Shared} {C D : Addr} {its : List Value} {n : Nat} {ys : List V} (I : Inv X pins σ H s2) (hfp : ∀ b ∈ fp, FpOk X pins H b) (hC : s2.heap.objs.size ≤ C) (hD : s2.heap.objs.size ≤ D) (hDC : D ≠ C)
    (I' : Inv (cxComp X N' scope C fp s2 H) [(D, { cls := .type "list", data := .seq its.toArray n })] σ' H' s') (hv : Vals ys its) (hz : ys.length ≤ sizeLine) :
    H' D = none ∧ ∀ h', Heap.SameBut C s'.heap h' → Inv X pins σ (upd H' D (.lst ys)) { s' with heap := h' } := by
  obtain ⟨eD, nD, _, _, _⟩ := I'.pin (D, { cls := .type "list", data := .seq its.toArray n }) (List.mem_append_right _ List.mem_cons_self)
  dsimp only at eD nD
  have nC : H' C = none := I'.free
  refine ⟨nD, fun h' hs => ?_⟩
  have neC : ∀ b o, s2.heap.get? b = some o → b ≠ C := fun b o e => ne_lt (Heap.lt_size e) hC
  have neD : ∀ b o, s2.heap.get? b = some o → b ≠ D := fun b o e => ne_lt (Heap.lt_size e) hD
  have tr : ∀ b u, H' b = some u → b ≠ D := fun b u e z => by rw [z, nD] at e; cases e
  have trC : ∀ b u, H' b = some u → b ≠ C := fun b u e z => by rw [z, nC] at e; cases e
  have B := I'.base
  refine I.call' (s' := { s' with heap := h' }) (ch := fp) I'.os ⟨fun b o e nn hb hx => ?_, fun b o e nn hb hx => ?_, fun b o e nn hx => ?_, fun b o e hx => ?_, fun b xs e => ?_, fun b o u e => ?_, fun b ps e => ?_⟩ (fun b u e => ?_) I'.bare fun b hb => ?_
  · exact (hs.2 b (neC b o e)).trans (B.keep b o e nn hb hx)
  · obtain ⟨sl, q⟩ := B.slot b o e nn hb hx
    exact ⟨sl, (hs.2 b (neC b o e)).trans q⟩
  · rw [upd_ne (neD b o e)]
    exact B.free b o e nn hx
  · obtain ⟨o', q⟩ := B.there b o e hx
    exact ⟨o', (hs.2 b (neC b o e)).trans q⟩
  · have q := B.tups b xs e
    rw [upd_ne (tr b _ q)]
    exact q
  · have q := B.frzs b o u e
    rw [upd_ne (tr b _ q)]
    exact q
  · obtain ⟨more, q⟩ := B.tbls b ps e
    exact ⟨more, by rw [upd_ne (tr b _ q)]; exact q⟩
  · by_cases hb : b = D
    · subst hb
      rw [upd_same] at e
      cases e
      exact ⟨hz, its, n, hv, (hs.2 b hDC).trans eD⟩
    · rw [upd_ne hb] at e
      refine (I'.hok b u e).stay (fun c v hcc q => (hs.2 c ?_).trans q) (fun c q => by rw [upd_ne (tr c _ q)]; exact q) fun c xs q => by rw [upd_ne (tr c _ q)]; exact q
      rcases hcc with rfl | hcc
      · exact trC c _ e
      · exact trC c _ hcc
  · obtain ⟨_, f1, _, f3, f4, f5⟩ := hfp b hb
    exact ⟨f3, f1, f4, f5⟩
end

section
variable {prog : Program} {w : World} {A : Around} {R : Result → Shared → Prop} {s : Shared}
theorem codeAny_compLoop_any {elt target iter : Expr} {ifs : List Expr} {scope : Scope} {pos : Pos} {it acc : Value} {env : Env} (I : Nat → Shared → Prop)
    (turn : ∀ n s, I n s → wpAny (model prog w) A (pyNext it) (fun r s₁ => match r with
      | none => R (.ok .next) s₁
      | some v => wpAny (model prog w) A (letOwnedTupleGo target it v) (fun _ s₁' => wpAny (model prog w) A (assign target env v) (fun _ s₂ =>
          wpAny (model prog w) A (forIn ifs true fun c r => if r = true then do let ok ← isTrue c env (eval c env); pure (ForInStep.yield ok) else pure (ForInStep.yield r)) (fun ok s₃ =>
            if ok = true then wpAny (model prog w) A (eval elt env) (fun x s₄ =>
              wpAny (model prog w) A (call (.builtin "list.append") [acc, x]) (fun _ s₅ => ∃ m, m < n ∧ I m s₅) (notedBy (model prog w) A env fun e s' => R (.error e) s') s₄) (notedBy (model prog w) A env fun e s' => R (.error e) s') s₃
            else ∃ m, m < n ∧ I m s₃) (notedBy (model prog w) A env fun e s' => R (.error e) s') s₂) (notedBy (model prog w) A env fun e s' => R (.error e) s') s₁') (notedBy (model prog w) A env fun e s' => R (.error e) s') s₁) (notedBy (model prog w) A env fun e s' => R (.error e) s') s)
    (n : Nat) (h : I n s) :
    codeAny (model prog w) A (.compLoop (.ListComp elt [⟨target, iter, ifs, 0⟩] scope pos) 0 it acc env) R s := by
  refine codeAny_loop rfl I (fun n s hI => ?_) n h
  show wpAny _ A ((compTurn (.ListComp elt [⟨target, iter, ifs, 0⟩] scope pos) 0 it acc env).onRaise (fun x => do noteFrame x env; theTreesLotGoes x)) _ _ s
  refine wpAny_noted ?_
  rw [compTurn_list]
  refine wpAny_bind (wpAny_standAt (wpAny_bind (wpAny_mono (turn n s hI) (fun r s₁ h₁ => ?_) fun _ _ h' => h')))
  cases r with
  | none => exact wpAny_pure h₁
  | some v =>
    refine wpAny_bind (wpAny_mono h₁ (fun _ s₁' h₁' => ?_) fun _ _ h' => h')
    refine wpAny_bind (wpAny_mono h₁' (fun _ s₂ h₂ => wpAny_bind (wpAny_mono h₂ (fun ok s₃ h₃ => ?_) fun _ _ h' => h')) fun _ _ h' => h')
    cases ok with
    | false => exact wpAny_pure ⟨rfl, h₃⟩
    | true => exact wpAny_bind (wpAny_bind (wpAny_mono h₃ (fun x s₄ h₄ => wpAny_bind (wpAny_mono h₄ (fun _ s₅ h₅ => wpAny_pure (wpAny_pure ⟨rfl, h₅⟩)) fun _ _ h' => h')) fun _ _ h' => h'))
end

/-- a test that a comprehension makes (ifs) -/
def PIfs (X : Cx) (ifs : List Expr) (t : TT) : Prop :=
  ∀ (pins : List (Addr × Obj)) (s : Shared) (σ : St) (H : Hp) (Q : Bool → Hp → Prop), Inv X pins σ H s → t σ H Q →
    wpAny (model X.prog X.w) X.A (forIn ifs true fun c r => if r = true then do let ok ← isTrue c X.env (eval c X.env); pure (ForInStep.yield ok) else pure (ForInStep.yield r)) (TP X pins σ Q) X.xe s
def tYes : TT := fun _ H Q => Q true H
theorem pifs_nil {X : Cx} : PIfs X [] tYes := fun _ _ _ H _ I h => wpAny_tests_nil ⟨H, I, h⟩
/-- [e for .. in ..]: W says what holds between two turns: the turn, a measure, the items so far, the block's slots, the heap -/
def tComp (k : Nat) (js : List Nat) (wi : TI) (g : TG) (tt : TT) (te : TE) : TE := fun σ H Q => wi σ H fun J H1 => ∃ W : Nat → Nat → List V → St → Hp → Prop, (∃ m, W 0 m [] (up k js σ) H1) ∧ ∀ i m ys σ H, W i m ys σ H →
  (J.stop i H ∧ ys.length ≤ sizeLine ∧ ∀ p, H p = none → Q (.ref p) (upd H p (.lst ys))) ∨
  (J.go i H ∧ ys.length < sizeLine ∧ ∀ x H', J.yld i H x H' → g x σ H' fun σ2 H2 => tt σ2 H2 fun b H3 => if b = true then te σ2 H3 fun y H4 => ∃ m', m' < m ∧ W (i + 1) m' (ys ++ [y]) σ2 H4 else ∃ m', m' < m ∧ W (i + 1) m' ys σ2 H3)

section
variable {X : Cx} {k : Nat} {js : List Nat} {N' : List Str} {scope : Scope} {tg iter elt : Expr} {ifs : List Expr} {wi : TI} {g : TG} {tt : TT} {te : TE} {pos : Pos}
theorem comp_core {use : Option (Value → Sem Unit)} {Q' : Value → Shared → Prop} (hcalm : X.calm = true) (hc : CmpOk X.N X.env.scope k js N' scope) (hi : PI X tg iter wi)
    (hg : ∀ C fp s2 H2, PG (cxComp X N' scope C fp s2 H2) tg g) (ht : ∀ C fp s2 H2, PIfs (cxComp X N' scope C fp s2 H2) ifs tt) (he : ∀ C fp s2 H2, PE (cxComp X N' scope C fp s2 H2) elt te)
    {pins : List (Addr × Obj)} {s : Shared} {σ : St} {H : Hp} {Q : VK} (I : Inv X pins σ H s) (h : tComp k js wi g tt te σ H Q)
    (fin : ∀ (C D : Addr) (s' : Shared) (m : Str → Option Value) (H' : Hp) (ys : List V), s'.heap.Ns C m → C ≠ X.env.locals → C ∉ X.fs → D ≠ C → H' C = none → X.s₀.heap.objs.size ≤ C → (∀ x c, X.env.cells.lookup x = some c → c ≠ C) → (∀ p ∈ X.pn ++ pins, p.1 ≠ C) → (∀ h', Heap.SameBut C s'.heap h' → Inv X pins σ (upd H' D (.lst ys)) { s' with heap := h' }) → Q (.ref D) (upd H' D (.lst ys)) →
      compPost (model X.prog X.w) X.A X.xe use Q' (.ref D) C (.ok .next) s')
    (hs : ∀ x, foldedSetIterable iter X.env x = pure x) (p' : Pos) :
    wpAny (model X.prog X.w) X.A (comprehension (.ListComp elt [⟨tg, iter, ifs, 0⟩] scope pos) scope X.env p' (newList []) false (eval iter X.env) use) Q' X.xe s := by
  have hclos : closureFor scope X.env = pure (closFrom X.env.cells scope.names []) := closureFor_eq fun y hy => I.ok.has y (hc.fr y hy)
  refine wpAny_comprehension_free (g := ⟨tg, iter, ifs, 0⟩) (gs := []) rfl hs hclos hc.kind (fun x hx hl => by rw [hc.look x hx, hl]) ?_
  refine thn (hi pins s σ H _ I h) fun v s1 h1 => thn h1 fun itv s2 h2 => ?_
  obtain ⟨it, fp, tn, J, H2, e, I2, T, st2, f2, W, ⟨m0, w0⟩, turn⟩ := h2
  subst e
  have hlt : ∀ b ∈ fp, b < s2.heap.objs.size := fun b hb => by
    obtain ⟨o, e, _⟩ := T.obj _ _ st2 b hb
    exact Heap.lt_size e
  refine wpAny_newObj_type (newEnv_comp ?_)
  have hz3 : (s2.heap.push { cls := .type "list", dict := none, data := .seq ([] : List Value).toArray }).objs.size = s2.heap.objs.size + 1 := Heap.size_push ..
  have I3 := comp_inv (h3 := s2.heap.push { cls := .type "list", dict := none, data := .seq ([] : List Value).toArray }) hc I2 f2 hlt hz3 (fun b o e => Heap.get?_push_of_some _ e)
  dsimp only
  rw [hz3]
  generalize hS4 : ({ s2 with heap := pushCells ((s2.heap.push { cls := .type "list", dict := none, data := .seq ([] : List Value).toArray }).push { cls := .type "dict", data := .dict #[] }) scope.names } : Shared) = s4 at I3 ⊢
  have keep4 : ∀ b o, s2.heap.get? b = some o → s4.heap.get? b = some o := fun b o e => by
    rw [← hS4]
    exact pushCells_keeps _ _ b o (Heap.get?_push_of_some _ (Heap.get?_push_of_some _ e))
  have eD4 : s4.heap.get? s2.heap.objs.size = some { cls := .type "list", data := .seq ([] : List Value).toArray 0 } := by
    rw [← hS4]
    exact pushCells_keeps _ _ _ _ (Heap.get?_push_of_some _ (Heap.get?_push_size _ rfl))
  generalize hX' : cxComp X N' scope (s2.heap.objs.size + 1) fp s2 H2 = X' at I3
  have hC' : X'.env.locals = s2.heap.objs.size + 1 := by rw [← hX']; rfl
  have hfs' : X'.fs = frs X.stack := by rw [← hX']; rfl
  -- D is nobody's
  have nofsD : ∀ a, s2.heap.objs.size ≤ a → a ∉ frs X.stack := fun a ha hb => by
    rcases List.mem_cons.mp (I2.stkSub a hb) with z | z
    · exact absurd z.symm (ne_lt I2.lt ha)
    · exact I2.nofs ha z
  have cellD : ∀ x c, X'.env.cells.lookup x = some c → c ≠ s2.heap.objs.size := fun x c e z => by
    obtain ⟨v, o, ho, hd⟩ := I3.cell x c e
    rw [z, eD4] at ho
    cases ho
    cases hd
  have pinD : ∀ {σ' : St} {H' : Hp} {s' : Shared} {its : List Value} {n : Nat}, Inv X' [] σ' H' s' → s'.heap.get? s2.heap.objs.size = some { cls := .type "list", data := .seq its.toArray n } → H' s2.heap.objs.size = none →
      Inv X' [(s2.heap.objs.size, { cls := .type "list", data := .seq its.toArray n })] σ' H' s' := fun {σ' H' s' its n} J e nn => J.pins_of fun p hp => by
    have e' : p = (s2.heap.objs.size, { cls := .type "list", data := .seq its.toArray n }) := by simpa using hp
    subst e'
    refine ⟨e, nn, ?_, ?_, fun v z => nomatch z⟩
    · rw [hC']; exact Nat.ne_of_lt (Nat.lt_succ_self _)
    · rw [hfs']; exact nofsD _ (Nat.le_refl _)
  have I4 := pinD I3 eD4 (I2.hok.fresh (Nat.le_refl _))
  -- what stays true of the iterator's objects
  have stat : ∀ {H' : Hp} {o : Obj}, (∀ b ∈ fp, H' b = none) → ∀ b ∈ fp, FpOk X' [(s2.heap.objs.size, o)] H' b := fun {H' o} hn b hb => by
    have hb' := hlt b hb
    refine ⟨hn b hb, ?_, ?_, .inl (by rw [← hX']; exact hb), fun x c e z => ?_, fun p hp z => ?_⟩
    · rw [hC']; exact ne_lt hb' (Nat.le_succ _)
    · rw [hfs']
      intro z
      rcases List.mem_cons.mp (I2.stkSub b z) with q | q
      · exact (f2 b hb).2.1 q
      · exact (f2 b hb).2.2.1 q
    · have q := I3.ok.exf b (by rw [← hX']; exact hb)
      exact q.2 x c e z
    · rw [show X'.pn = [] by rw [← hX']; rfl] at hp
      have e' : p = (s2.heap.objs.size, o) := by simpa using hp
      subst e'
      exact absurd hb' (by rw [← z]; exact Nat.lt_irrefl _)
  have hfin : ∀ {σ' : St} {H' : Hp} {s' : Shared} {its : List Value} {n : Nat} {ys : List V}, Inv X' [(s2.heap.objs.size, { cls := .type "list", data := .seq its.toArray n })] σ' H' s' → Vals ys its → ys.length ≤ sizeLine → (∀ p, H' p = none → Q (.ref p) (upd H' p (.lst ys))) →
      compPost (model X.prog X.w) X.A X.xe use Q' (.ref s2.heap.objs.size) (s2.heap.objs.size + 1) (.ok .next) s' := fun {σ' H' s' its n ys} J hv hz hq => by
    obtain ⟨m, hn, _⟩ := id J.loc
    rw [hC'] at hn
    have nC : H' (s2.heap.objs.size + 1) = none := by rw [← hC']; exact J.free
    have J' : Inv (cxComp X N' scope (s2.heap.objs.size + 1) fp s2 H2) [(s2.heap.objs.size, { cls := .type "list", data := .seq its.toArray n })] σ' H' s' := by rw [hX']; exact J
    obtain ⟨nD, E⟩ := comp_end I2 f2 (Nat.le_succ _) (Nat.le_refl _) (Nat.ne_of_lt (Nat.lt_succ_self _)) J' hv hz
    refine fin _ _ s' m H' ys hn ?_ (I2.nofs (Nat.le_succ _)) (Nat.ne_of_lt (Nat.lt_succ_self _)) nC (Nat.le_trans I2.sz (Nat.le_succ _)) (fun x c e z => ?_) (fun p hp z => ?_) E (hq _ nD)
    · exact (ne_lt I2.lt (Nat.le_succ _)).symm
    · obtain ⟨v, q⟩ := I2.cell x c e
      exact absurd z (ne_lt q.lt (Nat.le_succ _))
    · exact absurd z (ne_lt (Heap.lt_size (I2.pin p hp).1) (Nat.le_succ _))
  have hprog : X'.prog = X.prog := by rw [← hX']; rfl
  have hw : X'.w = X.w := by rw [← hX']; rfl
  have hK : X'.K = X.K := by rw [← hX']; rfl
  have hcalm' : X'.calm = true := by rw [← hX']; exact hcalm
  have hA : X'.A = X.A := by rw [← hX']; rfl
  have henv : compEnv scope (closFrom X.env.cells scope.names []) (s2.heap.objs.size + 1) X.env = X'.env := by rw [← hX']; rfl
  have hgX := hg (s2.heap.objs.size + 1) fp s2 H2
  have htX := ht (s2.heap.objs.size + 1) fp s2 H2
  have heX := he (s2.heap.objs.size + 1) fp s2 H2
  rw [hX'] at hgX htX heX
  have hxe : ∀ e s', X'.xe e s' → False := fun e s' z => by rw [← hX'] at z; exact z
  have hXA : X'.pn = [] := by rw [← hX']; rfl
  have hs0 : X'.s₀.heap.objs.size = s2.heap.objs.size := by rw [← hX']; rfl
  have loop : codeAny (model X.prog X.w) X.A (.compLoop (.ListComp elt [⟨tg, iter, ifs, 0⟩] scope pos) 0 (.ref it) (.ref s2.heap.objs.size) X'.env) (compPost (model X.prog X.w) X.A X.xe use Q' (.ref s2.heap.objs.size) (s2.heap.objs.size + 1)) s4 := by
    refine codeAny_compLoop_any (fun n s' => ∃ i σ' H' its nn ys, Inv X' [(s2.heap.objs.size, { cls := .type "list", data := .seq its.toArray nn })] σ' H' s' ∧ tn i s'.heap ∧ (∀ b ∈ fp, H' b = none) ∧ Vals ys its ∧ W i n ys σ' H') ?_ m0
      ⟨0, _, H2, [], 0, [], I4, T.keep _ _ _ st2 (fun b _ o e => keep4 b o e), fun b hb => (f2 b hb).1, .nil, w0⟩
    rintro n s5 ⟨i, σ5, H5, its, nn, ys, I5, st5, fr5, hv, w5⟩
    rcases turn i n ys σ5 H5 w5 with ⟨stop, hz, hq⟩ | ⟨go, hz, step⟩
    · have d := T.done X' hprog hw hK hcalm' i _ s5 σ5 H5 (fun _ _ => False) I5 (stat fr5) st5 stop
      rw [hA] at d
      refine wpAny_mono d (fun r s6 ⟨hr, I6⟩ => ?_) fun _ _ z => z.elim
      subst hr
      exact hfin I6 hv hz hq
    · have d := T.item X' hprog hw hK hcalm' i _ s5 σ5 H5 (fun _ _ => False) I5 (stat fr5) st5 go
      rw [hA] at d
      refine wpAny_mono d (fun r s6 ⟨u, hr, h6⟩ => ?_) fun _ _ z => z.elim
      subst hr
      refine wpAny_mono h6 (fun _ s7 ⟨x, H7, I7, r7, y7, st7, fr7⟩ => ?_) fun _ _ z => z.elim
      have I7' := I7.pinned (stat fr7) (T.obj _ _ st7)
      have a1 := hgX _ s7 σ5 H7 x u _ I7' r7 (step x H7 y7)
      rw [hprog, hw, hA] at a1
      refine wpAny_mono a1 (fun _ s8 ⟨σ8, H8, I8, q8⟩ => ?_) fun _ _ z => (hxe _ _ z).elim
      have a2 := htX _ s8 σ8 H8 _ I8 q8
      rw [hprog, hw, hA] at a2
      refine wpAny_mono a2 (fun ok s9 ⟨H9, I9, q9⟩ => ?_) fun _ _ z => (hxe _ _ z).elim
      have back : ∀ {σ' : St} {H' : Hp} {s' : Shared}, Inv X' ([(s2.heap.objs.size, ({ cls := .type "list", data := .seq its.toArray nn } : Obj))] ++ pinsAt fp s7.heap) σ' H' s' → tn (i + 1) s'.heap ∧ (∀ b ∈ fp, H' b = none) := fun {σ' H' s'} J => by
        refine ⟨T.keep _ _ _ st7 fun b hb o e => (J.pin (b, o) (List.mem_append_right _ (List.mem_append_right _ (mem_pinsAt hb e)))).1, fun b hb => ?_⟩
        obtain ⟨o, e, d⟩ := T.obj _ _ st7 b hb
        exact (J.pin (b, o) (List.mem_append_right _ (List.mem_append_right _ (mem_pinsAt hb e)))).2.1
      cases ok with
      | false =>
        rw [if_neg Bool.false_ne_true] at q9 ⊢
        obtain ⟨m', hm, w9⟩ := q9
        obtain ⟨t9, f9⟩ := back I9
        exact ⟨m', hm, i + 1, σ8, H9, its, nn, ys, I9.unpinned, t9, f9, hv, w9⟩
      | true =>
        rw [if_pos rfl] at q9 ⊢
        have a3 := heX _ s9 σ8 H9 _ I9 q9
        rw [hprog, hw, hA] at a3
        refine wpAny_mono a3 (fun uy s10 ⟨y, H10, I10, r10, m', hm, w10⟩ => ?_) fun _ _ z => (hxe _ _ z).elim
        obtain ⟨t10, f10⟩ := back I10
        have I11 := I10.unpinned
        obtain ⟨eD, nD, _, _, _⟩ := I11.pin (s2.heap.objs.size, { cls := .type "list", data := .seq its.toArray nn }) (List.mem_append_right _ List.mem_cons_self)
        dsimp only at eD nD
        have hsz : its.length < sizeLine := by rw [← hv.length]; exact hz
        refine wpAny_list_append_plain ⟨nn, eD⟩ (fun h' hpl hsb => ?_) (by rw [List.size_toArray]; omega)
        obtain ⟨n', e'⟩ := hpl
        have e'' : h'.get? s2.heap.objs.size = some { cls := .type "list", data := .seq (its ++ [uy]).toArray n' } := by rw [e']; simp
        have I12 : Inv X' [] σ8 H10 s10 := I11.pins_of fun p hp => absurd hp (by simp)
        have I13 := I12.turned (h' := h') (t' := s10.toks) (it := s2.heap.objs.size) (fun b o hb e => (hsb.2 b hb).trans e) nD (by rw [hC']; exact Nat.ne_of_lt (Nat.lt_succ_self _)) (.inr (by rw [hs0]; exact Nat.le_refl _)) cellD (fun p hp => absurd hp (by rw [hXA]; simp))
        refine ⟨m', hm, i + 1, σ8, H10, its ++ [uy], n', ys ++ [y], pinD I13 e'' nD, T.keep _ _ _ t10 fun b hb o e => ?_, f10, hv.append (.cons r10 .nil), w10⟩
        exact (hsb.2 b (ne_lt (hlt b hb) (Nat.le_refl _))).trans e
  have hst : codeAny (model X.prog X.w) X.A (.compStart (.ListComp elt [⟨tg, iter, ifs, 0⟩] scope pos) 0 (.ref it) (.ref s2.heap.objs.size) X'.env) (compPost (model X.prog X.w) X.A X.xe use Q' (.ref s2.heap.objs.size) (s2.heap.objs.size + 1)) s4 :=
    codeAny_compStart_list loop (T.self X.A 0 s4 _ _ (T.keep _ _ _ st2 (fun b _ o e => keep4 b o e)) loop)
  rw [← henv] at hst
  exact hst

/-- [e for .. in ..] as an expression -/
theorem pe_comp (hcalm : X.calm = true) (hc : cmpCheck X.N X.env.scope k js N' scope = true) (hi : PI X tg iter wi)
    (hg : ∀ C fp s2 H2, PG (cxComp X N' scope C fp s2 H2) tg g) (ht : ∀ C fp s2 H2, PIfs (cxComp X N' scope C fp s2 H2) ifs tt) (he : ∀ C fp s2 H2, PE (cxComp X N' scope C fp s2 H2) elt te)
    (hs : ∀ x, foldedSetIterable iter X.env x = pure x := by intro _; rfl) : PE X (.ListComp elt [⟨tg, iter, ifs, 0⟩] scope pos) (tComp k js wi g tt te) := by
  intro pins s σ H Q I h
  rw [eval_ListComp]
  refine comp_core (use := none) hcalm (cmpOk hc) hi hg ht he I h (fun C D s' m H' ys hn _ _ _ _ _ _ _ E q => ?_) hs _
  exact ⟨m, hn, fun h' hsb => ⟨.ref D, _, E h' hsb, rfl, q⟩⟩
end
end L2

set_option Elab.async false
set_option linter.all false
set_option maxRecDepth 100000
set_option maxHeartbeats 4000000

namespace L2
open PySem PySem.Spec PyProof.Rows

mutual
def Dp (K : PySem.W.Frag) (H : Hp) : PyData → V → Prop
  | .none, v => v = .non
  | .bool b, v => v = .bl b
  | .int i, v => v = .int i
  | .str x, v => v = .str x
  | .list ds, v => ∃ a xs, v = .ref a ∧ SqL K H a xs ∧ DpAll K H ds xs
  | .tuple ds, v => ∃ a xs, v = .ref a ∧ SqT K H a xs ∧ DpAll K H ds xs
  | .dict _, _ => False
def DpAll (K : PySem.W.Frag) (H : Hp) : List PyData → List V → Prop
  | [], vs => vs = []
  | d :: ds, vs => ∃ v r, vs = v :: r ∧ Dp K H d v ∧ DpAll K H ds r
end
theorem DpAll.nil {K : PySem.W.Frag} {H : Hp} : DpAll K H [] [] := by unfold DpAll; rfl
theorem DpAll.cons {K : PySem.W.Frag} {H : Hp} {d : PyData} {ds : List PyData} {v : V} {vs : List V} (a : Dp K H d v) (t : DpAll K H ds vs) : DpAll K H (d :: ds) (v :: vs) := by unfold DpAll; exact ⟨v, vs, rfl, a, t⟩
theorem DpAll.two {K : PySem.W.Frag} {H : Hp} {d e : PyData} {v u : V} (a : Dp K H d v) (b : Dp K H e u) : DpAll K H [d, e] [v, u] := .cons a (.cons b .nil)
theorem DpAll.ints {K : PySem.W.Frag} {H : Hp} : ∀ (ns : List Int), DpAll K H (ns.map PyData.int) (ns.map V.int)
  | [] => .nil
  | n :: r => .cons (by unfold Dp; rfl) (DpAll.ints r)
theorem dp_int {K : PySem.W.Frag} {H : Hp} (i : Int) : Dp K H (.int i) (.int i) := by unfold Dp; rfl
theorem dp_bl {K : PySem.W.Frag} {H : Hp} (i : Bool) : Dp K H (.bool i) (.bl i) := by unfold Dp; rfl
theorem dp_lst {K : PySem.W.Frag} {H : Hp} {a : Addr} {xs : List V} {ds : List PyData} (h : SqL K H a xs) (t : DpAll K H ds xs) : Dp K H (.list ds) (.ref a) := by unfold Dp; exact ⟨a, xs, rfl, h, t⟩
theorem dp_tup {K : PySem.W.Frag} {H : Hp} {a : Addr} {xs : List V} {ds : List PyData} (h : SqT K H a xs) (t : DpAll K H ds xs) : Dp K H (.tuple ds) (.ref a) := by unfold Dp; exact ⟨a, xs, rfl, h, t⟩
section
variable {X : Cx} {pins : List (Addr × Obj)} {σ : St} {H : Hp} {s : Shared}
mutual
theorem Inv.reads (I : Inv X pins σ H s) : ∀ {d : PyData} {v : V} {u : Value}, Dp X.K H d v → RelV v u → ∃ as, Reads s.heap u d as
  | .none, _, _, h, r => by unfold Dp at h; subst h; cases (show _ = Value.none from r); exact ⟨_, .none⟩
  | .bool b, _, _, h, r => by unfold Dp at h; subst h; cases (show _ = Value.bool b from r); exact ⟨_, .bool b⟩
  | .int i, _, _, h, r => by unfold Dp at h; subst h; obtain ⟨t, q⟩ := (show ∃ t, _ = Value.int i t from r); subst q; exact ⟨_, .int i t⟩
  | .str x, _, _, h, r => by unfold Dp at h; subst h; obtain ⟨t, q⟩ := (show ∃ t, _ = Value.str x t from r); subst q; exact ⟨_, .str x t⟩
  | .list ds, _, _, h, r => by
    unfold Dp at h
    obtain ⟨a, xs, q, sq, t⟩ := h
    subst q
    cases (show _ = Value.ref a from r)
    obtain ⟨its, rv, pl, _⟩ := I.list sq
    obtain ⟨as, ra⟩ := Inv.readsAll I t rv
    obtain ⟨o, n, e1, e2, _, e3⟩ := pl
    exact ⟨_, .list e1 e2 e3 (by simpa using ra)⟩
  | .tuple ds, _, _, h, r => by
    unfold Dp at h
    obtain ⟨a, xs, q, sq, t⟩ := h
    subst q
    cases (show _ = Value.ref a from r)
    obtain ⟨its, rv, pl, _⟩ := I.tuple sq
    obtain ⟨as, ra⟩ := Inv.readsAll I t rv
    obtain ⟨o, e1, e2, n, e3⟩ := pl
    exact ⟨_, .tuple e1 e2 e3 (by simpa using ra)⟩
  | .dict _, _, _, h, _ => by unfold Dp at h; exact h.elim
theorem Inv.readsAll (I : Inv X pins σ H s) : ∀ {ds : List PyData} {vs : List V} {us : List Value}, DpAll X.K H ds vs → Vals vs us → ∃ as, ReadsAll s.heap us ds as
  | [], _, _, h, r => by unfold DpAll at h; subst h; cases r; exact ⟨_, .nil⟩
  | _ :: _, _, _, h, r => by
    unfold DpAll at h
    obtain ⟨v, q, e, a, t⟩ := h
    subst e
    cases r with
    | cons r1 r2 =>
      obtain ⟨as, h1⟩ := Inv.reads I a r1
      obtain ⟨bs, h2⟩ := Inv.readsAll I t r2
      exact ⟨_, .cons h1 h2⟩
end
/-- == and != of data -/
def rEqD (K : PySem.W.Frag) : R2 := fun x y H Q => ∃ d e, Dp K H d x ∧ Dp K H e y ∧ d.canLay0 = true ∧ e.canLay0 = true ∧ d.depth ≤ 64 ∧ Q (.bl (PyData.eqv d e)) H
def rNeD (K : PySem.W.Frag) : R2 := fun x y H Q => ∃ d e, Dp K H d x ∧ Dp K H e y ∧ d.canLay0 = true ∧ e.canLay0 = true ∧ d.depth ≤ 64 ∧ Q (.bl (!PyData.eqv d e)) H
theorem op_eqD (hu : X.A.units + 64 < cLine) : OpR X (compareOp .Eq) (rEqD X.K) := by
  intro pins s σ H x y v u Q I rx ry h
  obtain ⟨d, e, h1, h2, c1, c2, dp, q⟩ := h
  obtain ⟨as, ra⟩ := I.reads h1 rx
  obtain ⟨bs, rb⟩ := I.reads h2 ry
  exact SeqAt.compareEq_reads ra rb c1 c2 (by omega) ⟨.bl _, H, I, rfl, q⟩
theorem op_neD (hu : X.A.units + 64 < cLine) : OpR X (compareOp .NotEq) (rNeD X.K) := by
  intro pins s σ H x y v u Q I rx ry h
  obtain ⟨d, e, h1, h2, c1, c2, dp, q⟩ := h
  obtain ⟨as, ra⟩ := I.reads h1 rx
  obtain ⟨bs, rb⟩ := I.reads h2 ry
  exact SeqAt.compareNe_reads ra rb c1 c2 (by omega) ⟨.bl _, H, I, rfl, q⟩
end
end L2

set_option Elab.async false
set_option linter.all false
set_option maxRecDepth 100000
set_option maxHeartbeats 4000000

namespace L2
open PySem PySem.Spec PyProof.Rows

section
variable {X : Cx} {x : Str} {pos : Pos}
theorem pe_bty {n : String} (hg : Gl X x) (hm : X.mg x = none) (hv : bootBuiltins x = some (.type n)) (hn : x ≠ "__name__" := by decide) (hd : (x == ("__debug__" : Str)) = false := by decide) : PE X (.Name x pos) (tC (.ty n)) := pe_bltn hg hm hv rfl hn hd
end

structure Fn (P : Program) (w : World) (K : PySem.W.Frag) (mg : Str → Option Value) (base : Heap) (CX : CXT) (x : Str) (k : Nat) (ps : List Str) (sp : Sp) : Prop where
  ex : ∃ f fd, FnOk P w K mg base CX k f fd ps sp ∧ Binds K fd ps [] ∧ PySem.W.keepIn K (.ref f) = true ∧ mg x = some (.ref f)
section
variable {X : Cx} {CX : CXT} {k : Nat} {ps : List Str} {sp : Sp} {E : XK} {x m : Str} {C : Addr} {p pos apos : Pos} {e o : Expr} {es : List Expr} {ta : TE} {t : TA}
theorem pe_fn (F : Fn X.prog X.w X.K X.mg X.base CX x k ps sp) (hr : Room k X.A) (hg : Gl X x) (hx : Passes CX X E) (ha : PA X (e :: es) t) (hdb : (x == ("__debug__" : Str)) = false := by decide) (he : starEach (e :: es) X.env = (false, eval e X.env) :: starEach es X.env := by rfl) (hpl : (backTo pos (starEach es X.env)).any (·.1) = false := by rfl) :
    PE X (.Call (.Name x p) (e :: es) [] pos) (tCall sp [] E t) := by
  obtain ⟨f, fd, h1, h2, h3, h4⟩ := F.ex
  exact pe_call h1 hr hg h4 h3 h2 .nil hx ha hdb he hpl
end

def isCls : V → Bool
  | .ty _ => true
  | .ref _ => true
  | _ => false
def cval : V → Value
  | .ty n => .type n
  | .ref a => .ref a
  | _ => .none
section
variable {X : Cx}
theorem call_isinst : CallR X (.builtin "isinstance") (fun xs H Q => ∃ x c ty b, xs = [x, c] ∧ isCls c = true ∧ TyOf X.K H x ty ∧ PySem.W.kitOne X.K ty (cval c) = some b ∧ Q (.bl b) H) := by
  intro pins s σ H xs us Q I r h
  obtain ⟨x, c, ty, b, rfl, hc, hty, e, q⟩ := h
  obtain ⟨u, w', rfl, r1, r2⟩ := vals2 r
  have e2 : w' = cval c := by
    cases c <;> first | (cases hc; done) | exact r2
  subst e2
  exact isinst_ok I r1 hty e fun tk => ⟨.bl b, H, I.tok tk, rfl, q⟩
end

theorem tVar_0 {v : V} {σ : St} {H : Hp} {Q : VK} : tVar 0 (some v :: σ) H Q = Q v H := by
  apply propext; unfold tVar; simp
theorem tVar_s {i : Nat} {a : Option V} {σ : St} {H : Hp} {Q : VK} : tVar (i + 1) (a :: σ) H Q = tVar i σ H Q := by
  apply propext; unfold tVar; simp
theorem rI0_int {g : Int → Int → V} {i j : Int} {H : Hp} {Q : VK} : rI0 g (.int i) (.int j) H Q = Q (g i j) H := by
  apply propext; unfold rI0; simp
theorem rI_int {C : Int → Int → Prop} {g : Int → Int → V} {i j : Int} {H : Hp} {Q : VK} : rI C g (.int i) (.int j) H Q = (C i j ∧ Q (g i j) H) := by
  apply propext; unfold rI; simp
theorem rU_int {g : Int → V} {i : Int} {H : Hp} {Q : VK} : rU g (.int i) H Q = Q (g i) H := by
  apply propext; unfold rU; simp
theorem rEq_int {i j : Int} {H : Hp} {Q : VK} : rEq (.int i) (.int j) H Q = Q (.bl (decide (i = j))) H := by
  apply propext; unfold rEq; simp [scal]
theorem rNe_int {i j : Int} {H : Hp} {Q : VK} : rNe (.int i) (.int j) H Q = Q (.bl (!decide (i = j))) H := by
  apply propext; unfold rNe; simp [scal]
theorem rEq_bl {i j : Bool} {H : Hp} {Q : VK} : rEq (.bl i) (.bl j) H Q = Q (.bl (decide (i = j))) H := by
  apply propext; unfold rEq; simp [scal]
theorem rNe_bl {i j : Bool} {H : Hp} {Q : VK} : rNe (.bl i) (.bl j) H Q = Q (.bl (!decide (i = j))) H := by
  apply propext; unfold rNe; simp [scal]
theorem rEq_str {i j : Str} {H : Hp} {Q : VK} : rEq (.str i) (.str j) H Q = Q (.bl (decide (i = j))) H := by
  apply propext; unfold rEq; simp [scal]
theorem rNe_str {i j : Str} {H : Hp} {Q : VK} : rNe (.str i) (.str j) H Q = Q (.bl (!decide (i = j))) H := by
  apply propext; unfold rNe; simp [scal]
theorem ex_bl {c : Bool} {Q : Bool → Prop} : (∃ k, V.bl c = V.bl k ∧ Q k) = Q c := by
  apply propext; simp
theorem ex_int {c : Int} {Q : Int → Prop} : (∃ k, V.int c = V.int k ∧ Q k) = Q c := by
  apply propext; simp
theorem le_line {n : Nat} (h : n ≤ 1000) : n ≤ sizeLine := Nat.le_of_lt (small1000 h)
theorem same_new {H : Hp} {p : Addr} (h : H p = none) (o : HO) : Same H (upd H p o) := fun b u q => by rw [upd_ne (ne_of_none q h)]; exact q
end L2

namespace L2
open PySem PySem.Spec PyProof.Rows
def getF (K : PySem.W.Frag) (f : Str) (x : V) (H : Hp) (Q : VK) : Prop := ∃ a C dx fs v, x = .ref a ∧ H a = some (.ins C dx fs) ∧ Cls K C ∧ NoAttr K C f ∧ fs.lookup f = some v ∧ Q v H
theorem tFld_eq {K : PySem.W.Frag} {ta : TE} {f : Str} {σ : St} {H : Hp} {Q : VK} : tFld K ta f σ H Q = ta σ H (fun x H1 => getF K f x H1 Q) := rfl
def setF (K : PySem.W.Frag) (f : Str) (x y : V) (H : Hp) (Q : Hp → Prop) : Prop := ∃ a C dx fs, x = .ref a ∧ H a = some (.ins C dx fs) ∧ Cls K C ∧ NoAttr K C f ∧ fs.length < 1000 ∧ Q (upd H a (.ins C dx (putF f y fs)))
theorem sFld_eq {K : PySem.W.Frag} {ta tv : TE} {f : Str} {D : Ends} {σ : St} {H : Hp} : sFld K ta tv f D σ H = tv σ H (fun y H1 => ta σ H1 fun x H2 => setF K f x y H2 (D.nx σ)) := rfl
theorem ixL_of {K : PySem.W.Frag} {p : Addr} {xs : List V} {i : Int} {v : V} {H : Hp} {Q : VK} (h : SqL K H p xs) (e : atI xs i = some v) (q : Q v H) : rIxL K (.ref p) (.int i) H Q := ⟨p, xs, i, v, rfl, rfl, h, e, q⟩
theorem ixT_of {K : PySem.W.Frag} {p : Addr} {xs : List V} {i : Int} {v : V} {H : Hp} {Q : VK} (h : SqT K H p xs) (e : atI xs i = some v) (q : Q v H) : rIxT K (.ref p) (.int i) H Q := ⟨p, xs, i, v, rfl, rfl, h, e, q⟩
theorem atI_of {α : Type} {xs : List α} {i : Int} {v : α} (h0 : 0 ≤ i) (h : xs[i.toNat]? = some v) : atI xs i = some v := by
  have q := atI_nat h
  rwa [Int.toNat_of_nonneg h0] at q
theorem atI_ints {xs : List Int} {i : Int} {v : Int} (h0 : 0 ≤ i) (h : xs[i.toNat]? = some v) : atI (xs.map V.int) i = some (.int v) := atI_of h0 (by rw [List.getElem?_map, h]; rfl)
def Nxt (P : Nat → List V → St → Hp → Prop) (n i : Nat) (ys : List V) (σ : St) (H : Hp) : Prop := ∃ m', m' < n - i ∧ m' = n - (i + 1) ∧ i + 1 ≤ n ∧ P (i + 1) ys σ H
theorem Nxt.of {P : Nat → List V → St → Hp → Prop} {n i : Nat} {ys : List V} {σ : St} {H : Hp} (h : i < n) (p : P (i + 1) ys σ H) : Nxt P n i ys σ H := ⟨n - (i + 1), by omega, rfl, h, p⟩
/-- over a list: P i ys σ H says what holds when i items are taken -/
theorem comp_list {K : PySem.W.Frag} {a : Addr} {xs : List V} {g : TG} {tt : TT} {te : TE} {Q : VK} {σ0 : St} {H : Hp} (P : Nat → List V → St → Hp → Prop) (h0 : P 0 [] σ0 H) (hl : ∀ i ys σ H, i ≤ xs.length → P i ys σ H → SqL K H a xs ∧ ys.length ≤ i) (hz : xs.length ≤ sizeLine)
    (hs : ∀ i ys x σ H, i < xs.length → xs[i]? = some x → P i ys σ H → g x σ H fun σ2 H2 => tt σ2 H2 fun b H3 => if b = true then te σ2 H3 fun y H4 => Nxt P xs.length i (ys ++ [y]) σ2 H4 else Nxt P xs.length i ys σ2 H3)
    (hd : ∀ ys σ H, P xs.length ys σ H → ∀ p, H p = none → Q (.ref p) (upd H p (.lst ys))) :
    ∃ W : Nat → Nat → List V → St → Hp → Prop, (∃ m, W 0 m [] σ0 H) ∧ ∀ i m ys σ H, W i m ys σ H →
      ((Itl K a).stop i H ∧ ys.length ≤ sizeLine ∧ ∀ p, H p = none → Q (.ref p) (upd H p (.lst ys))) ∨
      ((Itl K a).go i H ∧ ys.length < sizeLine ∧ ∀ x H', (Itl K a).yld i H x H' → g x σ H' fun σ2 H2 => tt σ2 H2 fun b H3 => if b = true then te σ2 H3 fun y H4 => ∃ m', m' < m ∧ W (i + 1) m' (ys ++ [y]) σ2 H4 else ∃ m', m' < m ∧ W (i + 1) m' ys σ2 H3) := by
  refine ⟨fun i m ys σ H => m = xs.length - i ∧ i ≤ xs.length ∧ P i ys σ H, ⟨xs.length, by simp, Nat.zero_le _, h0⟩, ?_⟩
  rintro i m ys σ H ⟨rfl, hi, p⟩
  obtain ⟨q, ly⟩ := hl i ys σ H hi p
  by_cases hlt : i < xs.length
  · refine .inr ⟨⟨xs, xs[i], q, by simp [hlt]⟩, by omega, fun x H' y => ?_⟩
    obtain ⟨e, y⟩ := y
    subst e
    exact hs i ys x σ _ hlt (y xs q) p
  · have e : i = xs.length := by omega
    subst e
    exact .inl ⟨⟨xs, q, Nat.le_refl _⟩, by omega, hd ys σ H p⟩
theorem Same.upd {H H' : Hp} {p : Addr} {o : HO} (e : Same H H') (h : H p = none) : Same H (upd H' p o) := fun b u q => by rw [upd_ne (ne_of_none q h)]; exact e b u q
theorem Same.new {H H' : Hp} {p : Addr} {o : HO} (e : Same H H') (h : H' p = none) : Same H (L2.upd H' p o) := e.upd (e.free h)
theorem kit_same {K : PySem.W.Frag} {t : Value} (h : (t == t) = true) : PySem.W.kitOne K t t = some true := by unfold PySem.W.kitOne; rw [if_pos h]
theorem cutV_ints (ns : List Int) (lo hi : Option Int) : cutV (ns.map V.int) lo hi = (((ns.drop (HT.sIx ns.length 0 lo)).take (HT.sIx ns.length ns.length hi - HT.sIx ns.length 0 lo)).map V.int) := by
  unfold cutV
  rw [List.length_map, List.map_take, List.map_drop]
theorem get_ints {ns : List Int} {i : Nat} {x : V} (h : (ns.map V.int)[i]? = some x) : ∃ n, ns[i]? = some n ∧ x = .int n := by
  rw [List.getElem?_map] at h
  cases e : ns[i]? with
  | none => rw [e] at h; cases h
  | some n => rw [e] at h; exact ⟨n, rfl, (Option.some.inj h).symm⟩
theorem ixN_of {n : Nat} {i : Int} (h0 : 0 ≤ i) (h : i < n) : ixN n i = some i.toNat := by unfold ixN; rw [if_pos h0, if_pos h]
theorem slL_of {K : PySem.W.Frag} {a : Addr} {xs : List V} {lo hi : Option Int} {H : Hp} {Q : VK} (h : SqL K H a xs) (q : ∀ p, H p = none → Q (.ref p) (upd H p (.lst (cutV xs lo hi)))) : rSlL K (.ref a) lo hi H Q := ⟨a, xs, rfl, h, q⟩
def forL (K : PySem.W.Frag) (g : TG) (tb : TS) (D : Ends) (σ : St) (x : V) (H1 : Hp) : Prop := ∃ a, x = .ref a ∧ (∃ xs, SqL K H1 a xs) ∧ ∃ W : Nat → Nat → St → Hp → Prop, (∃ m, W 0 m σ H1) ∧ ∀ i m σ H, W i m σ H →
  ((Itl K a).stop i H ∧ D.nx σ H) ∨ ((Itl K a).go i H ∧ ∃ N : St → Hp → Prop, (∀ σ' H', N σ' H' → ∃ m', m' < m ∧ W (i + 1) m' σ' H') ∧ ∀ x H', (Itl K a).yld i H x H' → g x σ H' fun σ2 H2 => tb { D with nx := N, ct := N, bk := D.nx } σ2 H2)
theorem tForL_eq {K : PySem.W.Frag} {tl : TE} {g : TG} {tb : TS} {D : Ends} {σ : St} {H : Hp} : tFor (iList K tl) g tb D σ H = tl σ H (fun x H1 => forL K g tb D σ x H1) := rfl
theorem forL_of {K : PySem.W.Frag} {g : TG} {tb : TS} {D : Ends} {σ : St} {H : Hp} {a : Addr} {xs : List V} (h : SqL K H a xs) (Pv : Nat → St → Hp → Prop) (h0 : Pv 0 σ H) (hl : ∀ i σ H, i ≤ xs.length → Pv i σ H → SqL K H a xs)
    (hs : ∀ i x σ H, xs[i]? = some x → Pv i σ H → g x σ H fun σ2 H2 => tb { D with nx := Pv (i + 1), ct := Pv (i + 1), bk := D.nx } σ2 H2) (hd : ∀ σ H, Pv xs.length σ H → D.nx σ H) : forL K g tb D σ (.ref a) H :=
  ⟨a, rfl, ⟨xs, h⟩, for_list Pv h0 hl hs hd⟩
def forR (lo : Int) (g : TG) (tb : TS) (D : Ends) (σ : St) (n : Nat) (H1 : Hp) : Prop := ∃ W : Nat → Nat → St → Hp → Prop, (∃ m, W 0 m σ H1) ∧ ∀ i m σ H, W i m σ H →
  ((Itr lo n).stop i H ∧ D.nx σ H) ∨ ((Itr lo n).go i H ∧ ∃ N : St → Hp → Prop, (∀ σ' H', N σ' H' → ∃ m', m' < m ∧ W (i + 1) m' σ' H') ∧ ∀ x H', (Itr lo n).yld i H x H' → g x σ H' fun σ2 H2 => tb { D with nx := N, ct := N, bk := D.nx } σ2 H2)
def forR1 (g : TG) (tb : TS) (D : Ends) (σ : St) (x : V) (H1 : Hp) : Prop := ∃ j : Int, [x] = [.int j] ∧ -(2 ^ 62) ≤ j ∧ j < 2 ^ 62 ∧ forR 0 g tb D σ j.toNat H1
def forR2 (g : TG) (tb : TS) (D : Ends) (σ : St) (x y : V) (H1 : Hp) : Prop := ∃ i j : Int, [x, y] = [.int i, .int j] ∧ (-(2 ^ 62) ≤ i ∧ i < 2 ^ 62 ∧ -(2 ^ 62) ≤ j ∧ j < 2 ^ 62) ∧ forR i g tb D σ (j - i).toNat H1
theorem tForR1_eq {t : TE} {g : TG} {tb : TS} {D : Ends} {σ : St} {H : Hp} : tFor (iRng1 (tCons t tNil)) g tb D σ H = t σ H (fun x H1 => forR1 g tb D σ x H1) := rfl
theorem tForR2_eq {t u : TE} {g : TG} {tb : TS} {D : Ends} {σ : St} {H : Hp} : tFor (iRng2 (tCons t (tCons u tNil))) g tb D σ H = t σ H (fun x H1 => u σ H1 fun y H2 => forR2 g tb D σ x y H2) := rfl
theorem forR_of {lo : Int} {n : Nat} {g : TG} {tb : TS} {D : Ends} {σ : St} {H : Hp} (Pv : Nat → St → Hp → Prop) (h0 : Pv 0 σ H)
    (hs : ∀ i σ H, i < n → Pv i σ H → g (.int (lo + i)) σ H fun σ2 H2 => tb { D with nx := Pv (i + 1), ct := Pv (i + 1), bk := D.nx } σ2 H2) (hd : ∀ σ H, Pv n σ H → D.nx σ H) : forR lo g tb D σ n H := for_range Pv h0 hs hd
theorem forR1_of {j : Int} {g : TG} {tb : TS} {D : Ends} {σ : St} {H : Hp} (h : -1000 ≤ j ∧ j ≤ 1000) (q : forR 0 g tb D σ j.toNat H) : forR1 g tb D σ (.int j) H := ⟨j, rfl, by omega, by omega, q⟩
def compL (K : PySem.W.Frag) (g : TG) (tt : TT) (te : TE) (σ0 : St) (Q : VK) (x : V) (H1 : Hp) : Prop := ∃ a, x = .ref a ∧ (∃ xs, SqL K H1 a xs) ∧ ∃ W : Nat → Nat → List V → St → Hp → Prop, (∃ m, W 0 m [] σ0 H1) ∧ ∀ i m ys σ H, W i m ys σ H →
  ((Itl K a).stop i H ∧ ys.length ≤ sizeLine ∧ ∀ p, H p = none → Q (.ref p) (upd H p (.lst ys))) ∨
  ((Itl K a).go i H ∧ ys.length < sizeLine ∧ ∀ x H', (Itl K a).yld i H x H' → g x σ H' fun σ2 H2 => tt σ2 H2 fun b H3 => if b = true then te σ2 H3 fun y H4 => ∃ m', m' < m ∧ W (i + 1) m' (ys ++ [y]) σ2 H4 else ∃ m', m' < m ∧ W (i + 1) m' ys σ2 H3)
theorem tCompL_eq {k : Nat} {js : List Nat} {K : PySem.W.Frag} {tl : TE} {g : TG} {tt : TT} {te : TE} {σ : St} {H : Hp} {Q : VK} : tComp k js (iList K tl) g tt te σ H Q = tl σ H (fun x H1 => compL K g tt te (up k js σ) Q x H1) := rfl
theorem compL_of {K : PySem.W.Frag} {a : Addr} {xs : List V} {g : TG} {tt : TT} {te : TE} {Q : VK} {σ0 : St} {H : Hp} (h : SqL K H a xs) (hz : xs.length ≤ 1000) (P : Nat → List V → St → Hp → Prop) (h0 : P 0 [] σ0 H) (hl : ∀ i ys σ H, i ≤ xs.length → P i ys σ H → SqL K H a xs ∧ ys.length ≤ i)
    (hs : ∀ i ys x σ H, i < xs.length → xs[i]? = some x → P i ys σ H → g x σ H fun σ2 H2 => tt σ2 H2 fun b H3 => if b = true then te σ2 H3 fun y H4 => Nxt P xs.length i (ys ++ [y]) σ2 H4 else Nxt P xs.length i ys σ2 H3)
    (hd : ∀ ys σ H, P xs.length ys σ H → ∀ p, H p = none → Q (.ref p) (upd H p (.lst ys))) : compL K g tt te σ0 Q (.ref a) H := ⟨a, rfl, ⟨xs, h⟩, comp_list P h0 hl (le_line hz) hs hd⟩
def compR (lo : Int) (g : TG) (tt : TT) (te : TE) (σ0 : St) (Q : VK) (n : Nat) (H1 : Hp) : Prop := ∃ W : Nat → Nat → List V → St → Hp → Prop, (∃ m, W 0 m [] σ0 H1) ∧ ∀ i m ys σ H, W i m ys σ H →
  ((Itr lo n).stop i H ∧ ys.length ≤ sizeLine ∧ ∀ p, H p = none → Q (.ref p) (upd H p (.lst ys))) ∨
  ((Itr lo n).go i H ∧ ys.length < sizeLine ∧ ∀ x H', (Itr lo n).yld i H x H' → g x σ H' fun σ2 H2 => tt σ2 H2 fun b H3 => if b = true then te σ2 H3 fun y H4 => ∃ m', m' < m ∧ W (i + 1) m' (ys ++ [y]) σ2 H4 else ∃ m', m' < m ∧ W (i + 1) m' ys σ2 H3)
def compR1 (g : TG) (tt : TT) (te : TE) (σ0 : St) (Q : VK) (x : V) (H1 : Hp) : Prop := ∃ j : Int, [x] = [.int j] ∧ -(2 ^ 62) ≤ j ∧ j < 2 ^ 62 ∧ compR 0 g tt te σ0 Q j.toNat H1
theorem tCompR1_eq {k : Nat} {js : List Nat} {t : TE} {g : TG} {tt : TT} {te : TE} {σ : St} {H : Hp} {Q : VK} : tComp k js (iRng1 (tCons t tNil)) g tt te σ H Q = t σ H (fun x H1 => compR1 g tt te (up k js σ) Q x H1) := rfl
section
variable {X : Cx}
end
theorem gCons_eq {t : TG} {u : TGs} {v : V} {r : List V} {σ : St} {H : Hp} {Q : St → Hp → Prop} : gCons t u (v :: r) σ H Q = t v σ H (fun σ' H' => u r σ' H' Q) := by
  apply propext; unfold gCons; constructor
  · rintro ⟨v', r', e, q⟩; cases e; exact q
  · exact fun q => ⟨v, r, rfl, q⟩
theorem gNil_eq {σ : St} {H : Hp} {Q : St → Hp → Prop} : gNil [] σ H Q = Q σ H := by
  apply propext; unfold gNil; simp
theorem gTup_of {K : PySem.W.Frag} {n : Nat} {t : TGs} {a : Addr} {xs : List V} {σ : St} {H : Hp} {Q : St → Hp → Prop} (h : SqT K H a xs) (l : xs.length = n) (q : t xs σ H Q) : gTup K n t (.ref a) σ H Q := ⟨a, xs, rfl, h, l, q⟩
section
variable {X : Cx} {tg l e o : Expr} {es : List Expr} {tl te to : TE} {t : TA} {pos apos cpos : Pos} {f : Str}
theorem ix_listK (K : PySem.W.Frag) (h : X.K = K := by rfl) : IxR X (rIxL K) := h ▸ ix_list
theorem pg_tupK (K : PySem.W.Frag) {k : Nat} {tgs : TGs} {n : Nat} (hc : X.calm = true) (hg : PGs X es tgs)
    (hn : (assignEach es X.env).length = n := by rfl) (hst : (assignEach es X.env).findIdx? (·.1) = none := by rfl) (h : X.K = K := by rfl) : PG X (.Tuple es k pos) (gTup K n tgs) := h ▸ pg_tup hc hg hn hst
end
end L2

set_option linter.all false
set_option maxRecDepth 100000
set_option maxHeartbeats 4000000
namespace L2
open PySem PySem.Spec PyProof.Rows
section
variable {X : Cx}
theorem tAug_eq {i : Nat} {te : TE} {ti : TIp} {D : Ends} {σ : St} {H : Hp} : tAug i te ti D σ H = tVar i σ H (fun x H0 => te σ H0 fun y H1 => ti x y H1 fun z H2 => D.nx (σ.set i (some z)) H2) := rfl
theorem ipI_int {f : Int → Int → Int} {i j : Int} {H : Hp} {Q : VK} : ipI f (.int i) (.int j) H Q = Q (.int (f i j)) H := by
  refine propext ⟨?_, fun q => ⟨i, j, rfl, rfl, q⟩⟩
  rintro ⟨a, b, e1, e2, q⟩
  cases e1; cases e2; exact q
theorem cx_K {CX : CXT} {P : Program} {w : World} {K : PySem.W.Frag} {mg : Str → Option Value} {base : Heap} {N : List Str} {qual : Str} {scope : Scope} {f : Addr} {cd : Value} {A : Around} {outer : List Env} {s : Shared} {H : Hp} {E : XK} : (cxOf CX P w K mg base N qual scope f cd A outer s H E).K = K := rfl
def insV (xs : List V) (i : Int) (y : V) : List V := let k := if i < 0 then (i + (xs.length : Int)).toNat else min i.toNat xs.length; xs.take k ++ y :: xs.drop k
def rInsert : V → List V → Hp → VK → Prop := fun x vs H Q => ∃ l xs i y, x = .ref l ∧ vs = [.int i, y] ∧ H l = some (.lst xs) ∧ xs.length < sizeLine ∧ (-(2 ^ 62) ≤ i ∧ i < 2 ^ 62) ∧ Q .non (upd H l (.lst (insV xs i y)))
theorem ins_arr (its : List Value) (k : Nat) (u : Value) (hk : k ≤ its.length) : (its.toArray.extract 0 k).push u ++ its.toArray.extract k = (its.take k ++ u :: its.drop k).toArray := by
  apply Array.ext'
  simp
  exact List.take_of_length_le (by rw [List.length_drop]; exact Nat.le_refl _)
theorem insV_length (xs : List V) (i : Int) (y : V) : (insV xs i y).length = xs.length + 1 := by
  unfold insV
  dsimp only
  rw [List.length_append, List.length_cons, List.length_take, List.length_drop]
  omega
theorem Vals.ins {xs : List V} {us : List Value} {y : V} {u : Value} (r : Vals xs us) (q : RelV y u) (k : Nat) : Vals (xs.take k ++ y :: xs.drop k) (us.take k ++ u :: us.drop k) := (r.take k).append (.cons q (r.drop k))
theorem mt_insert : MtM X "list.insert" rInsert := by
  intro pins s σ H x vs v us Q I rx rv h
  obtain ⟨l, xs, i, y, rfl, rfl, hH, hz, hi, q⟩ := h
  cases rx
  obtain ⟨u, u2, rfl, ru, ru2⟩ := rv.two
  obtain ⟨t, rfl⟩ := ru
  obtain ⟨z, its, n, r, hl, e⟩ := I.lstM hH
  have hc0 : ¬(!Builtin.List.listFitsIndex i) = true := by
    unfold Builtin.List.listFitsIndex
    have : (decide (-(2 ^ 63 : Int) ≤ i) && decide (i < 2 ^ 63)) = true := by
      rw [Bool.and_eq_true]; exact ⟨decide_eq_true (by omega), decide_eq_true (by omega)⟩
    simpa using this
  refine call_meets F.slot_list_insert ⟨_, e, rfl⟩ F.entry_list_insert (F.args_list_insert_3 _ _ _) (PySem.AutoListH.list_insert_list_int_val_1 l its.toArray n i t u2 hc0 (by rw [List.size_toArray]; omega)) ⟨e, ?_⟩
  have hk : (if i < 0 then (i + (its.length : Int)).toNat else min i.toNat its.length) ≤ its.length := by split <;> omega
  refine ⟨.non, _, I.lset (its' := its.take (if i < 0 then (i + (its.length : Int)).toNat else min i.toNat its.length) ++ u2 :: its.drop (if i < 0 then (i + (its.length : Int)).toNat else min i.toNat its.length)) hH e ?_ (ys := insV xs i y) ?_ ?_, rfl, q⟩
  · show (its.toArray.extract 0 _).push u2 ++ its.toArray.extract _ = _
    rw [List.size_toArray]
    exact ins_arr its _ u2 hk
  · unfold insV
    rw [hl]
    exact r.ins ru2 _
  · rw [insV_length]; omega
end
end L2

set_option linter.all false
set_option maxRecDepth 100000
set_option maxHeartbeats 4000000
namespace L2
open PySem PySem.Spec PyProof.Rows
structure Enc {α : Type} [DecidableEq α] (e : α → PyData) (n : Nat) : Prop where
  eq : ∀ a b, PyData.eqv (e a) (e b) = decide (a = b)
  lay : ∀ a, (e a).canLay0 = true
  dep : ∀ a, (e a).depth ≤ n
theorem Enc.int : Enc PyData.int 0 := ⟨fun a b => by unfold PyData.eqv; rw [Bool.eq_iff_iff]; simp, fun a => by unfold PyData.canLay0; rfl, fun a => by unfold PyData.depth; exact Nat.le_refl _⟩
section
variable {α β γ : Type} [DecidableEq α] [DecidableEq β] [DecidableEq γ] {e : α → PyData} {f : β → PyData} {g : γ → PyData} {n m k : Nat}
theorem Enc.all (h : Enc e n) : ∀ xs ys : List α, PyData.eqvAll (xs.map e) (ys.map e) = decide (xs = ys)
  | [], [] => by simp [PyData.eqvAll]
  | x :: xs, [] => by simp [PyData.eqvAll]
  | [], y :: ys => by simp [PyData.eqvAll]
  | x :: xs, y :: ys => by
    rw [List.map_cons, List.map_cons]
    unfold PyData.eqvAll
    rw [h.eq, h.all xs ys, ← Bool.decide_and]
    exact decide_eq_decide.mpr (by rw [List.cons.injEq])
theorem Enc.layAll (h : Enc e n) : ∀ xs : List α, PyData.canLayAll0 (xs.map e) = true
  | [] => by simp [PyData.canLayAll0]
  | x :: xs => by rw [List.map_cons]; unfold PyData.canLayAll0; rw [h.lay, h.layAll xs]; rfl
theorem Enc.depAll (h : Enc e n) : ∀ xs : List α, PyData.depthAll (xs.map e) ≤ n
  | [] => by simp [PyData.depthAll]
  | x :: xs => by
    rw [List.map_cons]; unfold PyData.depthAll
    have a := h.dep x
    have b := h.depAll xs
    omega
theorem Enc.list (h : Enc e n) : Enc (fun xs : List α => PyData.list (xs.map e)) (n + 1) :=
  ⟨fun a b => by unfold PyData.eqv; exact h.all a b, fun a => by unfold PyData.canLay0; exact h.layAll a, fun a => by unfold PyData.depth; have := h.depAll a; omega⟩
theorem eqD_of {K : PySem.W.Frag} {H : Hp} {x y : V} {a b : α} {Q : VK} (h : Enc e n) (hn : n ≤ 64) (dx : Dp K H (e a) x) (dy : Dp K H (e b) y) (q : Q (.bl (decide (a = b))) H) : rEqD K x y H Q :=
  ⟨_, _, dx, dy, h.lay a, h.lay b, Nat.le_trans (h.dep a) hn, by rw [h.eq]; exact q⟩
theorem neD_of {K : PySem.W.Frag} {H : Hp} {x y : V} {a b : α} {Q : VK} (h : Enc e n) (hn : n ≤ 64) (dx : Dp K H (e a) x) (dy : Dp K H (e b) y) (q : Q (.bl (!decide (a = b))) H) : rNeD K x y H Q :=
  ⟨_, _, dx, dy, h.lay a, h.lay b, Nat.le_trans (h.dep a) hn, by rw [h.eq]; exact q⟩
end
theorem dp_ints {K : PySem.W.Frag} {H : Hp} {a : Addr} {xs : List Int} (h : SqL K H a (xs.map V.int)) : Dp K H (.list (xs.map PyData.int)) (.ref a) := dp_lst h (DpAll.ints xs)
section
variable {K : PySem.W.Frag} {H : Hp} {R : Bool → Prop}
theorem inst_of {x c : V} {ty : Value} {b : Bool} (hc : isCls c = true) (t : TyOf K H x ty) (k : PySem.W.kitOne K ty (cval c) = some b) (q : R b) : ∃ x' c' ty b, [x, c] = [x', c'] ∧ isCls c' = true ∧ TyOf K H x' ty ∧ PySem.W.kitOne K ty (cval c') = some b ∧ R b := ⟨x, c, ty, b, rfl, hc, t, k, q⟩
theorem inst_int {i : Int} (q : R true) : ∃ x' c' ty b, [V.int i, V.ty "int"] = [x', c'] ∧ isCls c' = true ∧ TyOf K H x' ty ∧ PySem.W.kitOne K ty (cval c') = some b ∧ R b := inst_of rfl (.int i) (kit_same rfl) q
theorem inst_bl {i : Bool} (q : R true) : ∃ x' c' ty b, [V.bl i, V.ty "bool"] = [x', c'] ∧ isCls c' = true ∧ TyOf K H x' ty ∧ PySem.W.kitOne K ty (cval c') = some b ∧ R b := inst_of rfl (.bl i) (kit_same rfl) q
theorem inst_int_bl {i : Int} (k : PySem.W.kitOne K (.type "int") (.type "bool") = some false) (q : R false) : ∃ x' c' ty b, [V.int i, V.ty "bool"] = [x', c'] ∧ isCls c' = true ∧ TyOf K H x' ty ∧ PySem.W.kitOne K ty (cval c') = some b ∧ R b := inst_of rfl (.int i) k q
theorem inst_lst {a : Addr} {xs : List V} (h : H a = some (.lst xs)) (q : R true) : ∃ x' c' ty b, [V.ref a, V.ty "list"] = [x', c'] ∧ isCls c' = true ∧ TyOf K H x' ty ∧ PySem.W.kitOne K ty (cval c') = some b ∧ R b := inst_of rfl (.lst h) (kit_same rfl) q
end
end L2

set_option linter.all false
set_option maxRecDepth 100000
set_option maxHeartbeats 4000000
namespace L2
open PySem PySem.Spec PyProof.Rows
section
variable {P : Program} {w : World} {K : PySem.W.Frag} {mg : Str → Option Value} {base : Heap}
end
section
variable {X : Cx} {CX : CXT} {k : Nat} {ps : List Str} {sp : Sp} {dvs : List V} {E : XK} {x m : Str} {C : Addr} {p pos apos : Pos} {e o : Expr} {es : List Expr} {ta : TE} {t : TA}
end
end L2

set_option linter.all false
set_option maxRecDepth 100000
set_option maxHeartbeats 4000000
namespace L2
open PySem PySem.Spec PyProof.Rows
section
variable {X : Cx}
theorem all_range {bs : List Bool} : (List.range bs.length).all (fun i => bs.getD i true) = bs.all id := by
  induction bs with
  | nil => rfl
  | cons b r ih =>
    rw [List.length_cons, List.range_succ_eq_map, List.all_cons, List.all_map, List.all_cons]
    show (b && (List.range r.length).all fun i => r.getD i true) = _
    rw [ih]
    rfl
theorem call_all (hc : X.calm = true) : CallR X (.builtin "all") (fun xs H Q => ∃ (p : Addr) (bs : List Bool), xs = [.ref p] ∧ SqL X.K H p (bs.map V.bl) ∧ Q (.bl (bs.all id)) H) := by
  intro pins s σ H xs us Q I r h
  obtain ⟨p, bs, rfl, hq, q⟩ := h
  obtain ⟨u, rfl, rx⟩ := vals1 r
  cases rx
  obtain ⟨its, r', pl, hz⟩ := I.list hq
  have hlen := r'.length
  rw [List.length_map] at hlen
  have hh : X.A.handled = none := I.ok.hd hc
  have hl := pl.isList
  have hlt : p < s.heap.objs.size := by obtain ⟨_, e, _⟩ := hl; exact Heap.lt_size e
  refine call_all_walk (wpAny_pyIter_list hl ⟨s.heap.objs.size, _, _, _, _, _, fun i => bs.getD i true, rfl, Walks.list (A := X.A.in1) hh s.heap.objs.size p (Nat.ne_of_lt hlt) its.toArray, ⟨⟨_, Heap.get?_push_size _ rfl, rfl, rfl⟩, hl.push _⟩, ?_, fun h' tk hk => ?_⟩)
  · intro i v s' Q' E' hP hQ
    have hP' : its[i]? = some v := by simpa using hP
    have hi : i < its.length := (List.getElem?_eq_some_iff.mp hP').1
    obtain ⟨b, hb⟩ : ∃ b, bs[i]? = some b := ⟨_, List.getElem?_eq_getElem (by omega)⟩
    obtain ⟨u, hu, ru⟩ := r'.get (i := i) (x := .bl b) (by rw [List.getElem?_map, hb]; rfl)
    rw [hP'] at hu
    cases hu
    cases ru
    have hQ' : Q' b s' := by
      have e : bs.getD i true = b := by rw [List.getD_eq_getElem?_getD, hb]; rfl
      rw [← e]; exact hQ
    exact wpAny_truthy_bool hQ'
  · refine ⟨.bl (bs.all id), H, I.kept (t' := tk) (fun b o e => hk b o ?_ (Heap.get?_push_of_some _ e)), ?_, q⟩
    · intro z
      have : b = s.heap.objs.size := by simpa using z
      exact absurd (Heap.lt_size e) (by rw [this]; exact Nat.lt_irrefl _)
    · have : its.toArray.size = bs.length := by simp [hlen]
      rw [this, all_range]
      rfl
theorem rng_ok {P : Program} {w : World} {H : Hp} {h : Heap} {a : Addr} {lo hi : Int} {t u v : Tok} (e : h.get? a = some { cls := .type "range", data := .fields #[.int lo t, .int hi u, .int 1 v] }) : ObjOk P w H h a (.rng lo hi) := ⟨t, u, v, e⟩
theorem call_rng1 : CallR X (.type "range") (fun xs H Q => ∃ n : Int, xs = [.int n] ∧ ∀ p, H p = none → Q (.ref p) (upd H p (.rng 0 n))) := by
  intro pins s σ H xs us Q I r h
  obtain ⟨n, rfl, q⟩ := h
  obtain ⟨u, rfl, rx⟩ := vals1 r
  obtain ⟨t, rfl⟩ := rx
  exact call_range_1 ⟨.ref s.heap.objs.size, _, I.laid (fun b o e => Heap.get?_push_of_some _ e) (Nat.le_refl _) (rng_ok (Heap.get?_push_size _ rfl)), rfl, q _ (I.hok.fresh (Nat.le_refl _))⟩
def rints (lo hi : Int) : List Int := (List.range (hi - lo).toNat).map fun i : Nat => lo + (i : Int)
theorem rints_length (lo hi : Int) : (rints lo hi).length = (hi - lo).toNat := by unfold rints; rw [List.length_map, List.length_range]
theorem rints_get {lo hi : Int} {i : Nat} (h : i < (hi - lo).toNat) : (rints lo hi)[i]? = some (lo + i) := by unfold rints; rw [List.getElem?_map, List.getElem?_range h]; rfl
theorem call_list_rng (hc : X.calm = true) : CallR X (.type "list") (fun xs H Q => ∃ (p : Addr) (lo hi : Int), xs = [.ref p] ∧ H p = some (.rng lo hi) ∧ (-1000 ≤ lo ∧ lo ≤ 1000 ∧ -1000 ≤ hi ∧ hi ≤ 1000) ∧ ∀ l, H l = none → Q (.ref l) (upd H l (.lst ((rints lo hi).map V.int)))) := by
  intro pins s σ H xs us Q I r h
  obtain ⟨p, lo, hi, rfl, hp, hb, q⟩ := h
  obtain ⟨u, rfl, rx⟩ := vals1 r
  cases rx
  obtain ⟨t, u, v, e⟩ := I.hok p _ hp
  have hh : X.A.handled = none := I.ok.hd hc
  refine call_list_range (n := (hi - lo).toNat) hh e (small_one (by omega) (by omega) (by omega) (by omega)) (by rw [rangeSize_one]; split <;> omega) (by omega) fun h' tk acc' c' hk hS hacc => ?_
  have hz : (rints lo hi).length ≤ 1000 * 2 := by rw [rints_length]; omega
  refine ⟨.ref s.heap.objs.size, _, I.laid (t' := tk) hk (Nat.le_refl _) (o := .lst ((rints lo hi).map V.int)) ⟨?_, acc'.toList, c', ?_, by simpa using hS⟩, rfl, q _ (I.hok.fresh (Nat.le_refl _))⟩
  · rw [List.length_map]
    exact Nat.le_trans hz (by decide)
  · have hsz : acc'.size = (hi - lo).toNat := hacc.1
    have gen : ∀ (vs : List Value) (k : Nat) (zs : List Int), vs.length = zs.length → (∀ (j : Nat) v z, vs[j]? = some v → zs[j]? = some z → ∃ t, v = Value.int z t) → Vals (zs.map V.int) vs := by
      intro vs
      induction vs with
      | nil => intro k zs h1 _; cases zs with
        | nil => exact .nil
        | cons _ _ => cases h1
      | cons v r ih => intro k zs h1 h2; cases zs with
        | nil => cases h1
        | cons z zr => exact .cons (h2 0 v z rfl rfl) (ih 0 zr (by simpa using h1) fun j v' z' a b => h2 (j + 1) v' z' (by simpa using a) (by simpa using b))
    refine gen acc'.toList 0 (rints lo hi) (by rw [rints_length, Array.length_toList, hsz]) fun j v z a b => ?_
    have a' : acc'[j]? = some v := by simpa using a
    obtain ⟨t, rfl⟩ := hacc.2 j v a'
    have hj : j < (hi - lo).toNat := by have := (Array.getElem?_eq_some_iff.mp a').1; omega
    rw [rints_get hj] at b
    cases b
    exact ⟨t, by rw [Int.mul_one]⟩
end
end L2

set_option linter.all false
set_option maxRecDepth 100000
set_option maxHeartbeats 4000000
namespace L2
open PySem PySem.Spec PyProof.Rows
theorem Same.get {H H' : Hp} {b : Addr} {o : HO} (s : Same H H') (h : H b = some o) : H' b = some o := s b o h
theorem newH {H : Hp} {p : Addr} (h : H p = none) (o : HO) : ∃ H', upd H p o = H' ∧ Same H H' ∧ H' p = some o := ⟨_, rfl, same_new h o, upd_same⟩
section
variable {K : PySem.W.Frag} {a : Addr} {xs : List V} {te : TE} {Q : VK} {σ0 rest : St} {H : Hp}
theorem compL_gen (h : SqL K H a xs) (hz : xs.length ≤ 1000) (e0 : σ0 = none :: rest) (R : V → V → Hp → Prop) (mono : ∀ x y H1 H2, Same H1 H2 → R x y H1 → R x y H2)
    (hs : ∀ (i : Nat) x H', xs[i]? = some x → Same H H' → ∀ Q' : VK, (∀ y H4, Same H' H4 → R x y H4 → Q' y H4) → te (some x :: rest) H' Q')
    (hd : ∀ ys H' p, ys.length = xs.length → (∀ (j : Nat) x y, xs[j]? = some x → ys[j]? = some y → R x y H') → Same H H' → H' p = none → Q (.ref p) (upd H' p (.lst ys))) : compL K (gName 0) tYes te σ0 Q (.ref a) H := by
  subst e0
  refine compL_of h hz (fun i ys σ H' => ∃ v, σ = v :: rest ∧ Same H H' ∧ ys.length = i ∧ ∀ (j : Nat) x y, xs[j]? = some x → ys[j]? = some y → R x y H') ⟨_, rfl, .refl _, rfl, fun j x y _ q => by cases q⟩ ?_ ?_ ?_
  · rintro i ys σ H' _ ⟨v, rfl, e, hl, _⟩
    exact ⟨e.seq h, Nat.le_of_eq hl⟩
  · rintro i ys x σ H' hi hx ⟨v, rfl, e, hl, hR⟩
    show te (some x :: rest) H' _
    refine hs i x H' hx e _ fun y H4 q1 q2 => ?_
    refine Nxt.of hi ⟨_, rfl, e.trans q1, by rw [List.length_append, hl]; rfl, fun j x' y' hx' hy' => ?_⟩
    by_cases hj : j < ys.length
    · rw [List.getElem?_append_left hj] at hy'
      exact mono _ _ _ _ q1 (hR j x' y' hx' hy')
    · rw [List.getElem?_append_right (by omega)] at hy'
      have : j - ys.length = 0 := by
        rcases Nat.eq_zero_or_pos (j - ys.length) with z | z
        · exact z
        · rw [List.getElem?_eq_none (show [y].length ≤ j - ys.length from z)] at hy'
          cases hy'
      rw [this] at hy'
      cases hy'
      rw [show j = i by omega, hx] at hx'
      cases hx'
      exact q2
  · rintro ys σ H' ⟨v, rfl, e, hl, hR⟩ p hp
    exact hd ys H' p hl hR e hp
end
end L2

set_option linter.all false
set_option maxRecDepth 100000
set_option maxHeartbeats 4000000
namespace L2
open PySem PySem.Spec PyProof.Rows
section
variable {X : Cx} {pins : List (Addr × Obj)} {σ : St} {H : Hp} {s : Shared}
theorem Inv.turn2 (I : Inv X pins σ H s) {ch : List Addr} {h' : Heap} {p : Addr} {o : HO} {t' : Nat} (hf : ∀ b ∈ ch, FpOk X pins H b) (k : ∀ b ob, b ∉ ch → s.heap.get? b = some ob → h'.get? b = some ob)
    (hp : s.heap.objs.size ≤ p) (new : ObjOk X.prog X.w (upd H p o) h' p o) : Inv X pins σ (upd H p o) { s with heap := h', toks := t' } := by
  have hn : H p = none := I.hok.fresh hp
  have tr : ∀ b u, H b = some u → b ∉ ch := fun b u e z => by rw [(hf b z).1] at e; cases e
  refine I.call (g' := s.gens) (t' := t') (d' := s.drawn) (ch := ch) ⟨fun b ob e n _ hx => k b ob hx e, fun b ob e n _ hx => ⟨ob.slots, k b ob hx e⟩, fun b ob e n _ => ?_, fun b ob e hx => ⟨ob, k b ob hx e⟩, fun b xs e => ?_, fun b ob u e => ?_, fun b qs e => ⟨#[], ?_⟩⟩ (fun b u e => ?_) I.bare fun b hb => ?_
  · rw [upd_ne (Nat.ne_of_lt (Nat.lt_of_lt_of_le (Heap.lt_size e) hp))]; exact n
  · rw [upd_ne (ne_of_none e hn)]; exact e
  · rw [upd_ne (ne_of_none e hn)]; exact e
  · rw [upd_ne (ne_of_none e hn), e]; simp
  · by_cases hb : b = p
    · subst hb; rw [upd_same] at e; cases e; exact new
    · rw [upd_ne hb] at e
      refine (I.hok b u e).stay (fun c v hc q => k c v ?_ q) (fun c q => by rw [upd_ne (ne_of_none q hn)]; exact q) fun c xs q => by rw [upd_ne (ne_of_none q hn)]; exact q
      rcases hc with z | z
      · rw [z]; exact tr b u e
      · exact tr c _ z
  · obtain ⟨a1, a2, a3, a4, a5, a6⟩ := hf b hb
    exact ⟨a4, a2, a5, a6⟩
end
/-- the pairs of enumerate over the list at a -/
def Ite (K : PySem.W.Frag) (a : Addr) : It :=
  ⟨fun i H => ∃ xs x, SqL K H a xs ∧ xs[i]? = some x, fun i H v H' => ∃ p x, H p = none ∧ (∀ xs, SqL K H a xs → xs[i]? = some x) ∧ H' = upd H p (.tup [.int i, x]) ∧ v = .ref p, fun i H => ∃ xs, SqL K H a xs ∧ xs.length ≤ i⟩
theorem turn_enum {P : Program} {w : World} {K : PySem.W.Frag} {elts : List Expr} {x1} {tpos : Pos} (a e it : Addr) (hne : e ≠ it) : Turn P w K (.Tuple elts x1 tpos) (Ite K a) [e, it] e (fun i h => (∃ old, IsEnum h e it ((i : Nat) : Int) old) ∧ h.IsListIter it a i) where
  mem := by simp
  obj := fun i h st b hb => by
    obtain ⟨⟨old, he⟩, o, e2, c, d⟩ := st
    have hb' : b = e ∨ b = it := by simpa using hb
    rcases hb' with rfl | rfl
    · exact ⟨_, he, fun v z => by cases z⟩
    · exact ⟨o, e2, fun v z => by rw [d] at z; cases z⟩
  keep := fun i h h' st k => ⟨let ⟨old, he⟩ := st.1; ⟨old, k e (by simp) _ he⟩, st.2.at fun o q => k it (by simp) o q⟩
  item := by
    intro X hP hw hK hc i pins s σ H E I hf st hg
    subst hP hw hK
    obtain ⟨xs, x, hq, hx⟩ := hg
    obtain ⟨its, rv, p, hz⟩ := I.list hq
    obtain ⟨u, hu, ru⟩ := rv.get hx
    obtain ⟨⟨old, he⟩, hit⟩ := st
    refine wpAny_pyNext_enum_item he hit p.isList (x := u) (by simpa using hu) hne fun h1 heo hit1 ht1 hz1 hk1 => ⟨_, rfl, ?_⟩
    refine wpAny_letOwnedTupleGo_enum heo fun h2 he2 hs2 => ?_
    replace hs2 : Heap.SameBut e h1 h2 := hs2
    have hel : e < s.heap.objs.size := Heap.lt_size he
    have ht2 : h2.get? s.heap.objs.size = some { cls := .type "tuple", data := .seq #[.int i s.toks, u] } := (hs2.2 _ (Nat.ne_of_gt hel)).trans ht1
    have hnew : H s.heap.objs.size = none := I.hok.fresh (Nat.le_refl _)
    refine ⟨.ref s.heap.objs.size, upd H s.heap.objs.size (.tup [.int i, x]), I.turn2 (ch := [e, it]) (t' := s.toks + 1) hf (fun b ob hb q => ?_) (Nat.le_refl _) ?_, rfl, ⟨_, x, hnew, fun ys hy => by rw [I.list_inj hy hq]; exact hx, rfl, rfl⟩, ⟨⟨u, ?_⟩, ?_⟩, fun b hb => ?_⟩
    · have hbe : b ≠ e := fun z => hb (by simp [z])
      have hbi : b ≠ it := fun z => hb (by simp [z])
      exact (hs2.2 b hbe).trans (hk1 b ob hbe hbi q)
    · exact ⟨le_line (show 2 ≤ 1000 by decide), [.int i s.toks, u], .cons ⟨_, rfl⟩ (.cons ru .nil), _, ht2, rfl, 0, rfl⟩
    · have : ((i + 1 : Nat) : Int) = (i : Int) + 1 := by push_cast; rfl
      rw [this]; exact he2
    · exact hit1.at fun o q => (hs2.2 it (Ne.symm hne)).trans q
    · have hn := (hf b hb).1
      have hb' : b = e ∨ b = it := by simpa using hb
      obtain ⟨oi, hoi, _⟩ := hit
      have hlt : b < s.heap.objs.size := by
        rcases hb' with rfl | rfl
        · exact hel
        · exact Heap.lt_size hoi
      rw [upd_ne (Nat.ne_of_lt hlt)]; exact hn
  done := by
    intro X hP hw hK hc i pins s σ H E I hf st hg
    subst hP hw hK
    obtain ⟨xs, hq, hx⟩ := hg
    obtain ⟨its, rv, p, hz⟩ := I.list hq
    obtain ⟨⟨old, he⟩, hit⟩ := st
    obtain ⟨f0, f1, f2, f3, f4, f5⟩ := hf it (by simp)
    have hl := rv.length
    exact wpAny_pyNext_enum_end (I.ok.hd hc) he hit p.isList (by rw [List.getElem?_toArray]; exact List.getElem?_eq_none (by omega)) fun h' eb => ⟨rfl, I.turned (t' := s.toks) (fun b o hb e => eb b o hb e) f0 f1 f3 f4 f5⟩
  self := fun _ _ _ _ _ st h => let ⟨_, he⟩ := st.1; wpAny_pyIter_enum he h
section
variable {X : Cx}
def iEnum (K : PySem.W.Frag) (ta : TA) : TI := fun σ H R => ta σ H fun vs H1 => ∃ a, vs = [.ref a] ∧ (∃ xs, SqL K H1 a xs) ∧ R (Ite K a) H1
theorem pi_enum {elts : List Expr} {x1} {tpos : Pos} {l : Expr} {ta : TA} {p pos : Pos} (hg : Gl X "enumerate") (hm : X.mg "enumerate" = none) (ha : PA X [l] ta) (hs : starEach [l] X.env = [(false, eval l X.env)] := by rfl) :
    PI X (.Tuple elts x1 tpos) (.Call (.Name "enumerate" p) [l] [] pos) (iEnum X.K ta) := by
  intro pins s σ H R I h
  refine Call_ (ld_blt I hg hm boot_enumerate (PyProof.Rows.callWith_type1 (thn (ha pos pins s σ H _ I h) fun us s1 ⟨vs, H1, I1, r1, q1⟩ => ?_) hs rfl))
  obtain ⟨a, e, ⟨xs, hq⟩, q⟩ := q1
  subst e
  obtain ⟨u, rfl, ru⟩ := vals1 r1
  cases ru
  obtain ⟨its, rv, pl, hz⟩ := I1.list hq
  refine call_enumerate_list pl.isList fun h' he hit hsz hk => wpAny_pyIter_enum he ?_
  have I2 : Inv X pins σ H1 { s1 with heap := h' } := I1.kept (t' := s1.toks) hk
  refine ⟨s1.heap.objs.size + 1, [s1.heap.objs.size + 1, s1.heap.objs.size], _, Ite X.K a, H1, rfl, I2, turn_enum a _ _ (Nat.succ_ne_self _), ⟨⟨_, he⟩, hit⟩, fun b hb => ?_, q⟩
  have hb' : b = s1.heap.objs.size + 1 ∨ b = s1.heap.objs.size := by simpa using hb
  have hle : s1.heap.objs.size ≤ b := by
    rcases hb' with rfl | rfl
    · exact Nat.le_succ _
    · exact Nat.le_refl _
  exact I1.fpOk hle (I1.hok.fresh hle)
end
section
variable {K : PySem.W.Frag} {a : Addr} {xs : List V} {g : TG} {tb : TS} {D : Ends} {σ : St} {H : Hp}
def forE (K : PySem.W.Frag) (g : TG) (tb : TS) (D : Ends) (σ : St) (x : V) (H1 : Hp) : Prop := ∃ a, [x] = [.ref a] ∧ (∃ xs, SqL K H1 a xs) ∧ ∃ W : Nat → Nat → St → Hp → Prop, (∃ m, W 0 m σ H1) ∧ ∀ i m σ H, W i m σ H →
  ((Ite K a).stop i H ∧ D.nx σ H) ∨ ((Ite K a).go i H ∧ ∃ N : St → Hp → Prop, (∀ σ' H', N σ' H' → ∃ m', m' < m ∧ W (i + 1) m' σ' H') ∧ ∀ x H', (Ite K a).yld i H x H' → g x σ H' fun σ2 H2 => tb { D with nx := N, ct := N, bk := D.nx } σ2 H2)
theorem tForE_eq {t : TE} : tFor (iEnum K (tCons t tNil)) g tb D σ H = t σ H (fun x H1 => forE K g tb D σ x H1) := rfl
theorem forE_of (h : SqL K H a xs) (Pv : Nat → St → Hp → Prop) (h0 : Pv 0 σ H) (hl : ∀ i σ H, i ≤ xs.length → Pv i σ H → SqL K H a xs)
    (hs : ∀ (i : Nat) x σ H p, xs[i]? = some x → Pv i σ H → H p = none → g (.ref p) σ (upd H p (.tup [.int i, x])) fun σ2 H2 => tb { D with nx := Pv (i + 1), ct := Pv (i + 1), bk := D.nx } σ2 H2) (hd : ∀ σ H, Pv xs.length σ H → D.nx σ H) : forE K g tb D σ (.ref a) H := by
  refine ⟨a, rfl, ⟨xs, h⟩, fun i m σ H => m = xs.length - i ∧ i ≤ xs.length ∧ Pv i σ H, ⟨xs.length, by simp, Nat.zero_le _, h0⟩, ?_⟩
  rintro i m σ H ⟨rfl, hi, p⟩
  have q := hl i σ H hi p
  by_cases hlt : i < xs.length
  · refine .inr ⟨⟨xs, xs[i], q, by simp [hlt]⟩, Pv (i + 1), fun σ' H' p' => ⟨xs.length - (i + 1), by omega, rfl, hlt, p'⟩, fun x H' y => ?_⟩
    obtain ⟨pp, x', hn, y, rfl, rfl⟩ := y
    exact hs i x' σ _ pp (y xs q) p hn
  · have e : i = xs.length := by omega
    subst e
    exact .inl ⟨⟨xs, q, Nat.le_refl _⟩, hd σ H p⟩
variable {tt : TT} {te : TE} {Q : VK} {σ0 : St}
def compE (K : PySem.W.Frag) (g : TG) (tt : TT) (te : TE) (σ0 : St) (Q : VK) (x : V) (H1 : Hp) : Prop := ∃ a, [x] = [.ref a] ∧ (∃ xs, SqL K H1 a xs) ∧ ∃ W : Nat → Nat → List V → St → Hp → Prop, (∃ m, W 0 m [] σ0 H1) ∧ ∀ i m ys σ H, W i m ys σ H →
  ((Ite K a).stop i H ∧ ys.length ≤ sizeLine ∧ ∀ p, H p = none → Q (.ref p) (upd H p (.lst ys))) ∨
  ((Ite K a).go i H ∧ ys.length < sizeLine ∧ ∀ x H', (Ite K a).yld i H x H' → g x σ H' fun σ2 H2 => tt σ2 H2 fun b H3 => if b = true then te σ2 H3 fun y H4 => ∃ m', m' < m ∧ W (i + 1) m' (ys ++ [y]) σ2 H4 else ∃ m', m' < m ∧ W (i + 1) m' ys σ2 H3)
theorem tCompE_eq {k : Nat} {js : List Nat} {t : TE} : tComp k js (iEnum K (tCons t tNil)) g tt te σ H Q = t σ H (fun x H1 => compE K g tt te (up k js σ) Q x H1) := rfl
end
end L2

set_option linter.all false
set_option maxRecDepth 100000
set_option maxHeartbeats 4000000
namespace L2
open PySem PySem.Spec PyProof.Rows

abbrev FZ (o : Obj) : HO := .frz o (.ext fun _ => True)
open Classical in
noncomputable def hid (cl : List (Str × Addr)) (H : Hp) : Hp := fun b => if ∃ x, cl.lookup x = some b then none else H b
open Classical in
noncomputable def back (cl : List (Str × Addr)) (H H1 : Hp) : Hp := fun b => if ∃ x, cl.lookup x = some b then H b else H1 b
def startC (N : List Str) (vs cs : List V) : St := vs.map some ++ (List.replicate (N.length - vs.length - cs.length) none ++ cs.map some)
def cxClo (P : Program) (w : World) (K : PySem.W.Frag) (mg : Str → Option Value) (base : Heap) (N : List Str) (qual : Str) (scope : Scope) (f : Addr) (cd : Value) (cl : List (Str × Addr)) (A : Around) (outer : List Env) (s : Shared) (H : Hp) : Cx where
  prog := P
  w := w
  K := K
  mg := mg
  base := base
  A := A.deeper (PySem.W.envX qual scope s.heap.objs.size f cd cl)
  N := N
  s₀ := s
  H₀ := H
  env := PySem.W.envX qual scope s.heap.objs.size f cd cl
  outer := outer
  stack := PySem.W.envX qual scope s.heap.objs.size f cd cl :: outer
  ex := []
  calm := true
  fn := fun _ => false
  pn := []
  xe := fun _ _ => False
section
variable {P : Program} {w : World} {K : PySem.W.Frag} {mg : Str → Option Value} {base : Heap} {A : Around} {outer : List Env} {s : Shared} {H : Hp} {g : Addr} {iname iq : Str} {ip : Arguments} {ib : List Stmt} {isc : Scope} {N ps fr : List Str} {cs vs : List V} {us : List Value} {cl : List (Str × Addr)} {k : Nat}
end

def tCallV (r : V → List V → Hp → VK → Prop) (ta : TE) (t : TA) : TE := fun σ H Q => ta σ H fun f H1 => (∃ g o, f = .ref g ∧ H1 g = some (FZ o) ∧ ∃ fd, o.data = .func fd) ∧ t σ H1 fun vs H2 => r f vs H2 Q
end L2

set_option linter.all false
set_option maxRecDepth 100000
set_option maxHeartbeats 4000000
namespace L2
open PySem PySem.Spec PyProof.Rows
section
variable {X : Cx} {pins : List (Addr × Obj)} {σ : St} {H : Hp} {s : Shared}
end
end L2

set_option linter.all false
set_option maxRecDepth 100000
set_option maxHeartbeats 4000000
namespace L2
open PySem PySem.Spec PyProof.Rows
theorem cx_cloK {P : Program} {w : World} {K : PySem.W.Frag} {mg : Str → Option Value} {base : Heap} {N : List Str} {qual : Str} {scope : Scope} {f : Addr} {cd : Value} {cl : List (Str × Addr)} {A : Around} {outer : List Env} {s : Shared} {H : Hp} : (cxClo P w K mg base N qual scope f cd cl A outer s H).K = K := rfl
end L2

set_option Elab.async false
set_option linter.all false
set_option maxRecDepth 100000
set_option maxHeartbeats 4000000

namespace L2
open PySem PySem.Spec PyProof.Rows
section
variable {prog : Program} {w : World} {A : Around} {R : Result → Shared → Prop} {I : Addr} {fp wr : List Addr} {n : Nat} {P : Nat → Value → Prop} {St : Nat → Heap → Prop}
end
section
variable {prog : Program} {w : World} {A : Around} {E : Value → Shared → Prop} {s : Shared} {l : Addr}
end
/-- the greatest of a list, d for none -/
def maxD (d : Int) : List Int → Int
  | [] => d
  | x :: r => r.foldl (fun m y => if m < y then y else m) x
section
variable {X : Cx} {e d : Expr} {te td : TE} {p pos : Pos} {kpos : Pos}
/-- max(e, default=d), e a list of ints -/
def tMaxD (K : PySem.W.Frag) (te td : TE) : TE := fun σ H Q => te σ H fun x H1 => td σ H1 fun y H2 => ∃ a ns dd, x = .ref a ∧ y = .int dd ∧ SqL K H2 a (ns.map V.int) ∧ Q (.int (maxD dd ns)) H2
end
end L2

set_option linter.all false
set_option maxRecDepth 100000
set_option maxHeartbeats 4000000
namespace L2
open PySem PySem.Spec PyProof.Rows
theorem lkc {k k' : Str} {v : V} {r : List (Str × V)} : List.lookup k ((k', v) :: r) = if k = k' then some v else List.lookup k r := by
  rw [List.lookup_cons]
  by_cases h : k = k'
  · subst h; simp
  · have : (k == k') = false := by simpa using h
    rw [this, if_neg h]
section
variable {K : PySem.W.Frag} {f : Str} {a C : Addr} {fl : List (Str × V)} {v : V} {H : Hp}
end
def augA (K : PySem.W.Frag) (tv : TE) (rd : V → V → Hp → VK → Prop) (f : Str) (D : Ends) (σ : St) (x : V) (H1 : Hp) : Prop := ∃ a C dx fs v, x = .ref a ∧ H1 a = some (.ins C dx fs) ∧ Cls K C ∧ NoAttr K C f ∧ fs.lookup f = some v ∧
  tv σ H1 fun y H2 => rd v y H2 fun z H3 => ∃ dx' fs', H3 a = some (.ins C dx' fs') ∧ fs'.length < 1000 ∧ D.nx σ (upd H3 a (.ins C dx' (putF f z fs')))
theorem sFldAug_eq {K : PySem.W.Frag} {ta tv : TE} {rd : V → V → Hp → VK → Prop} {f : Str} {D : Ends} {σ : St} {H : Hp} : sFldAug K ta tv rd f D σ H = ta σ H (fun x H1 => augA K tv rd f D σ x H1) := rfl
end L2


set_option linter.all false
set_option maxRecDepth 100000
set_option maxHeartbeats 4000000
namespace L2
open PySem PySem.Spec PyProof.Rows
section
variable {X : Cx}
end
end L2

set_option linter.all false
set_option maxRecDepth 100000
set_option maxHeartbeats 4000000
namespace PySem
namespace F
theorem nolen_lri : typeLookup (.type "list_reverseiterator") "__len__" = pure none := by rw [typeLookup_type, builtinLookup_eq_fast]; kernel_rfl
theorem hint_lri : typeLookup (.type "list_reverseiterator") "__length_hint__" = pure (some (.builtin "list_reverseiterator.__length_hint__")) := by rw [typeLookup_type, builtinLookup_eq_fast]; kernel_rfl
end F
section
variable {prog : Program} {w : World} {A : Around} {s : Shared} {R : Result → Shared → Prop}
variable {I : Addr} {fp wr : List Addr} {G : Array GenState → Array GenState → Prop} {n : Nat} {P : Nat → Value → Prop} {St : Nat → Shared → Prop}
theorem wpAny_extend_rev (W : WalksS prog w A.in1 I fp wr G n P St) (hT : ∀ i s, St i s → s.TypeIs (.ref I) "list_reverseiterator") (S : Addr) (res : Value) (c₀ : Nat) (hst : St 0 s) (hSf : S ∉ fp) (hI : I ∈ fp)
    (hS : s.heap.get? S = some { cls := .type "list", data := .seq #[] c₀ })
    (hR : ∀ s' acc' c', Moved (S :: wr) G s s' → s'.heap.get? S = some { cls := .type "list", dict := none, data := .seq acc' c', slots := #[] } → ItemsOf P acc' n → R (.ok (.ret res)) s') (hn : n ≤ sizeLine) :
    wpAny (model prog w) A.in1 (Builtin.List.listExtendWith (.ref S) (.ref I) res)
      (fun fin s' => match fin with | .done f => R (.ok f) s' | .again c' => c'.quiet = true ∧ codeAny (model prog w) A c' R s') (fun e s' => R (.error e) s') s := by
  have hSI : S ≠ I := fun e => hSf (e ▸ hI)
  unfold Builtin.List.listExtendWith
  refine wpAny_bind (wpAny_typeOf (hT 0 _ hst) ?_)
  have h1 : Builtin.List.listSameRef (.ref S) (.ref I) = false := by simp [Builtin.List.listSameRef, hSI]
  rw [if_neg (by rw [h1]; decide)]
  refine wpAny_bind (W.self 0 _ _ _ hst ?_)
  refine wpAny_bind (wpAny_holding ?_)
  unfold Builtin.List.listLengthHint
  refine wpAny_bind (wpAny_specialOf (hT 0 _ hst) F.nolen_lri ?_)
  show wpAny _ A.in1 (specialOf (Value.ref I) (Str.ofString "__length_hint__") >>= _) _ _ _
  refine wpAny_bind (wpAny_specialOf (hT 0 _ hst) F.hint_lri ?_)
  (generalize hid : ("list_reverseiterator.__length_hint__" : String) = id0; (fail_if_success (clear hid id0)); wp_delta; rw [show splitId id0 = some ("list_reverseiterator", "__length_hint__") from by subst hid; decide +kernel]; subst hid)
  refine wpAny_bind (wpAny_isInstance (b := true) (hT 0 _ hst) (by rw [isSubtype_type]; kernel_rfl) ?_)
  refine wpAny_pure ?_
  rw [if_neg (by decide)]
  refine wpAny_pure ⟨plainId_quiet F.plain_extend_loop _, codeAny_extend_loopS W hn _ hSf _ n 0 _ _ _ rfl (Nat.zero_le _) hst hS (ItemsOf.nil P) fun s' acc' c' hm hS' hacc => ?_⟩
  exact hR s' acc' c' hm hS' hacc
theorem wpAny_list_init_rev (W : WalksS prog w A.in1 I fp wr G n P St) (hT : ∀ i s, St i s → s.TypeIs (.ref I) "list_reverseiterator") (S : Addr) (hst : St 0 s) (hSf : S ∉ fp) (hI : I ∈ fp)
    (hS : s.heap.get? S = some { cls := .type "list", data := .seq #[] })
    (hR : ∀ s' acc' c', Moved (S :: wr) G s s' → s'.heap.get? S = some { cls := .type "list", dict := none, data := .seq acc' c', slots := #[] } → ItemsOf P acc' n → R (.ok (.ret .none)) s') (hn : n ≤ sizeLine) :
    wpAny (model prog w) A.in1 (Builtin.«list.__init__» ⟨[.ref S, .ref I], []⟩)
      (fun fin s' => match fin with | .done f => R (.ok f) s' | .again c' => c'.quiet = true ∧ codeAny (model prog w) A c' R s') (fun e s' => R (.error e) s') s := by
  show wpAny _ A.in1 (do let old ← Builtin.List.listItems (.ref S); Builtin.List.listUpdate (.ref S) (fun _ => #[]); letGo old.toList.reverse; Builtin.List.listExtendWith (.ref S) (.ref I) .none) _ _ s
  refine wpAny_bind ?_
  unfold Builtin.List.listItems
  refine wpAny_bind (wpAny_seqItems hS rfl (wpAny_pure ?_))
  show wpAny _ A.in1 (updateSeq S (fun _ => #[]) >>= fun _ => letGo (#[] : Array Value).toList.reverse >>= fun _ => Builtin.List.listExtendWith (.ref S) (.ref I) .none) _ _ s
  refine wpAny_bind (wpAny_updateSeq hS rfl ?_)
  have hS₂ := Heap.get?_update_self (Obj.mapSeq (fun _ => (#[] : Array Value))) hS rfl
  have oth : ∀ b o, b ≠ S → s.heap.get? b = some o → (s.heap.update S (Obj.mapSeq (fun _ => (#[] : Array Value)))).get? b = some o :=
    fun b o hb e => (Heap.get?_update_other _ _ (Ne.symm hb)).trans e
  refine wpAny_bind (wpAny_letGo ?_)
  refine wpAny_extend_rev (hn := hn) W hT S .none _ (W.frame 0 s _ s.toks hst (Nat.le_refl _) fun b hb o e => oth b o (fun h => hSf (h ▸ hb)) e) hSf hI hS₂ fun s' acc' c' hm hS' hacc => ?_
  exact hR s' acc' c' (Moved.trans W.gtrans ((Moved.refl W.grefl).then_heap (Nat.le_refl _) fun b o hb e => oth b o (fun h => hb (h ▸ List.mem_cons_self)) e) hm) hS' hacc
end
section
variable {prog : Program} {w : World} {A : Around} {E : Value → Shared → Prop} {s : Shared}
variable {I : Addr} {fp wr : List Addr} {G : Array GenState → Array GenState → Prop} {n : Nat} {P : Nat → Value → Prop} {St : Nat → Shared → Prop}
theorem call_list_revW {Q : Value → Shared → Prop} (W : WalksS prog w A.in1.in1 I fp wr G n P St) (hT : ∀ i s, St i s → s.TypeIs (.ref I) "list_reverseiterator") (hst : St 0 s) (hfp : ∀ b ∈ fp, b < s.heap.objs.size) (hI : I ∈ fp)
    (hQ : ∀ s' acc' c', Moved (s.heap.objs.size :: wr) G { s with heap := s.heap.push { cls := .type "list", data := .seq #[] } } s' →
      s'.heap.get? s.heap.objs.size = some { cls := .type "list", dict := none, data := .seq acc' c', slots := #[] } → ItemsOf P acc' n → Q (.ref s.heap.objs.size) s') (hn : n ≤ sizeLine) :
    wpAny (model prog w) A (call (.type "list") [.ref I]) Q E s := by
  have hSf : s.heap.objs.size ∉ fp := fun hm => Nat.lt_irrefl _ (hfp _ hm)
  refine callType_codes (Q₁ := fun obj s₁ => obj = .ref s.heap.objs.size ∧ s₁ = { s with heap := s.heap.push { cls := .type "list", data := .seq #[] } }) F.called_list (F.typeCall_list_1 _) F.entry_list_init
    (code_list_new _ ⟨rfl, rfl⟩) fun obj s₁ h₁ => ?_
  obtain ⟨rfl, rfl⟩ := h₁
  have hS : (s.heap.push { cls := .type "list", data := .seq #[] }).get? s.heap.objs.size = some { cls := .type "list", data := .seq #[] } := Heap.get?_push_size _ rfl
  refine ⟨⟨_, hS, rfl⟩, F.args_list_init_2 _ _, wpAny_list_init_rev (hn := hn) W hT _ (W.frame 0 s _ s.toks hst (Nat.le_refl _) fun b _ o e => Heap.get?_push_of_some _ e) hSf hI hS fun s' acc' c' hm hS' hacc => ?_⟩
  exact ⟨rfl, hQ s' acc' c' hm hS' hacc⟩
end
end PySem
namespace L2
open PySem PySem.Spec PyProof.Rows
/-- list(reversed(l)) -/
def tRevL (K : PySem.W.Frag) (t : TA) : TE := fun σ H Q => t σ H fun vs H1 => ∃ (l : Addr) (ys : List V), vs = [.ref l] ∧ SqL K H1 l ys ∧ ∀ r, H1 r = none → Q (.ref r) (upd H1 r (.lst ys.reverse))
section
variable {X : Cx} {e : Expr} {ta : TA} {p p2 pos pos2 : Pos}
theorem pe_list_rev (hc : X.calm = true) (hg : Gl X "list") (hm : X.mg "list" = none) (hg2 : Gl X "reversed") (hm2 : X.mg "reversed" = none) (ha : PA X [e] ta)
    (he : starEach [.Call (.Name "reversed" p2) [e] [] pos2] X.env = (false, eval (.Call (.Name "reversed" p2) [e] [] pos2) X.env) :: starEach [] X.env := by rfl) (hpl : (backTo pos (starEach [] X.env)).any (·.1) = false := by rfl)
    (he2 : starEach [e] X.env = (false, eval e X.env) :: starEach [] X.env := by rfl) (hpl2 : (backTo pos2 (starEach [] X.env)).any (·.1) = false := by rfl) :
    PE X (.Call (.Name "list" p) [.Call (.Name "reversed" p2) [e] [] pos2] [] pos) (tRevL X.K ta) := by
  intro pins s σ H Q I h
  refine wpAny_Call_Name_kw (ld_blt I hg hm PyProof.Rows.boot_list ?_ (by decide) (by decide))
  refine PyProof.Rows.callWith_type1 ?_ he hpl
  rw [he]
  show wpAny _ _ (spliced ((false, eval (.Call (.Name "reversed" p2) [e] [] pos2) X.env) :: backTo pos (starEach [] X.env))) _ _ s
  refine Calls.spliced_cons ?_
  refine wpAny_Call_Name_kw (ld_blt I hg2 hm2 PyProof.Rows.boot_reversed ?_ (by decide) (by decide))
  refine PyProof.Rows.callWith_type1 (thn (ha pos2 pins s σ H _ I h) fun us s1 ⟨vs, H1, I1, r1, q1⟩ => ?_) he2 hpl2
  obtain ⟨l, ys, rfl, hl, q⟩ := q1
  obtain ⟨u, rfl, rx⟩ := vals1 r1
  cases rx
  obtain ⟨its, r', pl, hz⟩ := I1.list hl
  have hlt : l < s1.heap.objs.size := by obtain ⟨o, ho, _⟩ := pl.isList; exact Heap.lt_size ho
  refine call_reversed_list pl.isList ?_
  refine Calls.spliced_nil ?_
  have hh : X.A.handled = none := I1.ok.hd hc
  have hne : l ≠ s1.heap.objs.size := Nat.ne_of_lt hlt
  have W := (Walks.listRev (prog := X.prog) (w := X.w) (A := X.A.in1.in1) hh s1.heap.objs.size l hne its.toArray).toS
  have hsz : its.toArray.size = its.length := List.size_toArray ..
  have hlen := r'.length
  refine call_list_revW W (fun i s st => st.2.1.typeIs) ⟨Nat.zero_le _, ⟨_, Heap.get?_push_size _ rfl, rfl, by simp [revObj]⟩, pl.isList.at fun o e => Heap.get?_push_of_some _ e⟩ (fun b hb => ?_) List.mem_cons_self (fun s' acc' c' hm hS' hacc => ?_) (by rw [hsz]; omega)
  · rcases List.mem_cons.mp hb with z | z
    · rw [z]; exact Heap.lt_size (Heap.get?_push_size _ rfl)
    · rw [List.mem_singleton.mp z]
      obtain ⟨o, ho, _⟩ := pl.isList
      exact Heap.lt_size (Heap.get?_push_of_some _ ho)
  · rw [Moved.eq_with hm]
    have hge : s1.heap.objs.size ≤ (s1.heap.push (revObj l ((its.toArray.size : Int) - 1))).objs.size := Nat.le_of_lt (Heap.lt_size (Heap.get?_push_size _ rfl))
    have e : acc'.toList = its.reverse := by
      refine List.ext_getElem? fun j => ?_
      have sz : acc'.toList.length = its.length := by rw [Array.length_toList, hacc.1, hsz]
      by_cases hj : j < its.length
      · have h1 : acc'.toList[j]? = some (acc'.toList[j]'(by omega)) := List.getElem?_eq_getElem (by omega)
        have h2 := hacc.2 j _ (by rw [← Array.getElem?_toList]; exact h1)
        rw [h1, ← h2, List.getElem?_reverse hj, hsz]
        simp
      · rw [List.getElem?_eq_none (by omega), List.getElem?_eq_none (by rw [List.length_reverse]; omega)]
    refine ⟨.ref _, _, I1.laid (h' := s'.heap) (t' := s'.toks) (o := .lst ys.reverse) (a := (s1.heap.push (revObj l ((its.toArray.size : Int) - 1))).objs.size) (fun b u hb => hm.heap b u (fun z => ?_) (Heap.get?_push_of_some _ (Heap.get?_push_of_some _ hb))) hge ⟨by rw [List.length_reverse]; exact hz, acc'.toList, c', by rw [e]; exact r'.reverse, by simpa using hS'⟩, rfl, q _ (I1.hok.fresh hge)⟩
    have hbl := Heap.lt_size hb
    rcases List.mem_cons.mp z with z | z
    · rw [z] at hbl; exact absurd hbl (Nat.not_lt.mpr hge)
    · rw [List.mem_singleton.mp z] at hbl; exact Nat.lt_irrefl _ hbl
end
theorem eqD_refl {K : PySem.W.Frag} {H : Hp} {x y : V} {d : PyData} {Q : VK} (hx : Dp K H d x) (hy : Dp K H d y) (hc : d.canLay0 = true) (hd : d.depth ≤ 64) (q : Q (.bl true) H) : rEqD K x y H Q :=
  ⟨d, d, hx, hy, hc, hc, hd, by rw [PySem.SeqAt.eqv_refl d hc]; exact q⟩
def compR2 (g : TG) (tt : TT) (te : TE) (σ0 : St) (Q : VK) (x y : V) (H1 : Hp) : Prop := ∃ i j : Int, [x, y] = [.int i, .int j] ∧ (-(2 ^ 62) ≤ i ∧ i < 2 ^ 62 ∧ -(2 ^ 62) ≤ j ∧ j < 2 ^ 62) ∧ compR i g tt te σ0 Q (j - i).toNat H1
theorem tCompR2_eq {k : Nat} {js : List Nat} {t u : TE} {g : TG} {tt : TT} {te : TE} {σ : St} {H : Hp} {Q : VK} : tComp k js (iRng2 (tCons t (tCons u tNil))) g tt te σ H Q = t σ H (fun x H1 => u σ H1 fun y H2 => compR2 g tt te (up k js σ) Q x y H2) := rfl
section
variable {X : Cx}
end
end L2

set_option linter.all false
set_option maxRecDepth 100000
set_option maxHeartbeats 4000000
namespace L2
open PySem PySem.Spec PyProof.Rows
def Itz (K : PySem.W.Frag) (a b : Addr) : It :=
  ⟨fun i H => ∃ xs x ys y, SqL K H a xs ∧ xs[i]? = some x ∧ SqL K H b ys ∧ ys[i]? = some y, fun i H v H' => ∃ p x y, H p = none ∧ (∀ xs, SqL K H a xs → xs[i]? = some x) ∧ (∀ ys, SqL K H b ys → ys[i]? = some y) ∧ H' = upd H p (.tup [x, y]) ∧ v = .ref p, fun i H => ∃ xs ys, SqL K H a xs ∧ SqL K H b ys ∧ (xs.length ≤ i ∨ ys.length ≤ i)⟩
section
variable {X : Cx}
def iZip (K : PySem.W.Frag) (ta : TA) : TI := fun σ H R => ta σ H fun vs H1 => ∃ a b, vs = [.ref a, .ref b] ∧ (∃ xs, SqL K H1 a xs) ∧ (∃ xs, SqL K H1 b xs) ∧ R (Itz K a b) H1
theorem zneN {a b : Nat} (h : a ≠ b) : (a : Addr) ≠ b := h
end
section
variable {K : PySem.W.Frag} {a b : Addr} {xs ys : List V} {g : TG} {tb : TS} {D : Ends} {σ : St} {H : Hp}
def forZ (K : PySem.W.Frag) (g : TG) (tb : TS) (D : Ends) (σ : St) (x y : V) (H1 : Hp) : Prop := ∃ a b, [x, y] = [.ref a, .ref b] ∧ (∃ xs, SqL K H1 a xs) ∧ (∃ xs, SqL K H1 b xs) ∧ ∃ W : Nat → Nat → St → Hp → Prop, (∃ m, W 0 m σ H1) ∧ ∀ i m σ H, W i m σ H →
  ((Itz K a b).stop i H ∧ D.nx σ H) ∨ ((Itz K a b).go i H ∧ ∃ N : St → Hp → Prop, (∀ σ' H', N σ' H' → ∃ m', m' < m ∧ W (i + 1) m' σ' H') ∧ ∀ x H', (Itz K a b).yld i H x H' → g x σ H' fun σ2 H2 => tb { D with nx := N, ct := N, bk := D.nx } σ2 H2)
theorem tForZ_eq {t u : TE} : tFor (iZip K (tCons t (tCons u tNil))) g tb D σ H = t σ H (fun x H1 => u σ H1 fun y H2 => forZ K g tb D σ x y H2) := rfl
end
section
open PySem.SeqAt
open PySem.AutoSeq1 (wpAny_loadPart')
open PySem.MeetsSeq PySem.MeetsSeq2 PySem.MeetsSeq3 HT
end
section
variable {prog : Program} {w : World} {A : Around} {E : Value → Shared → Prop} {s : Shared}
end
section
variable {X : Cx}
end
end L2

set_option linter.all false
set_option maxRecDepth 100000
set_option maxHeartbeats 4000000
namespace L2S
open PySem PyProof.Rows
/-- the number by which a thing stands -/
def kn (f : Keyed → Int) (xs : Array Keyed) (i : Nat) : Int := ((xs[i]?).map f).getD 0
theorem kn_congr {f : Keyed → Int} {xs ys : Array Keyed} {i j : Nat} (h : xs[i]? = ys[j]?) : kn f xs i = kn f ys j := by unfold kn; rw [h]
/-- what the sort's own question answers -/
structure Asks (M : Model) (A : Around) (E : Value → Shared → Prop) (s : Shared) (κ : SortKind) (a₀ : Array Keyed) (f : Keyed → Int) : Prop where
  lt : ∀ x y, x ∈ a₀.toList → y ∈ a₀.toList → ∀ (st : SortSt) (Q : Option Bool → SortSt → Prop), kindOf st = κ → Q (some (decide (f x < f y))) st → wpS M A E s (lt' x y) Q st
structure SB (κ : SortKind) (a₀ : Array Keyed) (st : SortSt) : Prop where
  perm : (arrOf st).Perm a₀
  kind : kindOf st = κ
  fail : failedOf st = none
theorem SB.size {κ : SortKind} {a₀ : Array Keyed} {st : SortSt} (h : SB κ a₀ st) : (arrOf st).size = a₀.size := h.perm.size_eq
theorem SB.arr {κ : SortKind} {a₀ : Array Keyed} {st : SortSt} (h : SB κ a₀ st) {xs : Array Keyed} (hp : xs.Perm (arrOf st)) : SB κ a₀ (setArr st xs) := ⟨hp.trans h.perm, h.kind, h.fail⟩
theorem SB.get {κ : SortKind} {a₀ : Array Keyed} {st : SortSt} {f : Keyed → Int} (h : SB κ a₀ st) {i : Nat} (hi : i < a₀.size) : ∃ x, (arrOf st)[i]? = some x ∧ x ∈ a₀.toList ∧ kn f (arrOf st) i = f x := by
  have hi' : i < (arrOf st).size := by rw [h.size]; exact hi
  refine ⟨(arrOf st)[i], getElem?_pos _ i hi', (Array.perm_iff_toList_perm.mp h.perm).mem_iff.mp (by simp), ?_⟩
  unfold kn
  rw [getElem?_pos _ i hi']
  rfl
/-- rising from lo on, n of them -/
def Up (f : Keyed → Int) (xs : Array Keyed) (lo n : Nat) : Prop := ∀ i j, lo ≤ i → i ≤ j → j < lo + n → kn f xs i ≤ kn f xs j
def Down (f : Keyed → Int) (xs : Array Keyed) (lo n : Nat) : Prop := ∀ i j, lo ≤ i → i ≤ j → j < lo + n → kn f xs j ≤ kn f xs i
def Kept (lo : Nat) (xs ys : Array Keyed) : Prop := ∀ i, i < lo → ys[i]? = xs[i]?
theorem Kept.refl {lo : Nat} {xs : Array Keyed} : Kept lo xs xs := fun _ _ => rfl
theorem Kept.trans {lo : Nat} {xs ys zs : Array Keyed} (a : Kept lo xs ys) (b : Kept lo ys zs) : Kept lo xs zs := fun i h => (b i h).trans (a i h)
theorem kn_mirror {f : Keyed → Int} {xs : Array Keyed} {i j : Nat} (hj : j ≤ xs.size) (k : Nat) : kn f (mirror xs i j ((j - i) / 2)) k = if i ≤ k ∧ k < j then kn f xs (i + j - 1 - k) else kn f xs k := by
  have e := getElem?_mirror_all (i := i) hj k
  split
  · rename_i h; rw [if_pos h] at e; exact kn_congr e
  · rename_i h; rw [if_neg h] at e; exact kn_congr e
theorem kept_mirror {lo : Nat} {xs : Array Keyed} {i j : Nat} (hj : j ≤ xs.size) (hi : lo ≤ i) : Kept lo xs (mirror xs i j ((j - i) / 2)) := fun k hk => by
  rw [getElem?_mirror_all hj k, if_neg (by omega)]
theorem kn_same {f : Keyed → Int} {xs : Array Keyed} {i j : Nat} (hj : j ≤ xs.size) (he : ∀ k, i ≤ k → k < j → kn f xs k = kn f xs (j - 1)) (k : Nat) : kn f (mirror xs i j ((j - i) / 2)) k = kn f xs k := by
  rw [kn_mirror hj]
  split
  · rename_i h; rw [he _ (by omega) (by omega), he k h.1 h.2]
  · rfl
section
variable {M : Model} {A : Around} {E : Value → Shared → Prop} {s : Shared} {κ : SortKind} {a₀ : Array Keyed} {f : Keyed → Int}
theorem ask_at {st : SortSt} {i j : Nat} {Q : Option Bool → SortSt → Prop} (L : Asks M A E s κ a₀ f) (hB : SB κ a₀ st) (hi : i < a₀.size) (hj : j < a₀.size)
    (h : Q (some (decide (kn f (arrOf st) i < kn f (arrOf st) j))) st) : wpS M A E s (ltAt' i j) Q st := by
  obtain ⟨x, e1, m1, k1⟩ := hB.get (f := f) hi
  obtain ⟨y, e2, m2, k2⟩ := hB.get (f := f) hj
  rw [ltAt'_eq]
  refine wpS_bind (wpS_get ?_)
  show wpS _ _ _ _ (elem' (arrOf st) i >>= fun x => elem' (arrOf st) j >>= fun y => lt' x y) Q st
  rw [elem'_eq, elem'_eq, e1, e2]
  refine wpS_bind (wpS_pure (wpS_bind (wpS_pure (L.lt x y m1 m2 st Q hB.kind ?_))))
  rw [← k1, ← k2]
  exact h
theorem rev_at {st : SortSt} {i j : Nat} {Q : Unit → SortSt → Prop} (h : Q () (setArr st (mirror (arrOf st) i j ((j - i) / 2)))) : wpS M A E s (reverseSlice' i j) Q st := by
  rw [reverseSlice'_eq]
  exact wpS_modify h
def upLoop (lo a nrem : Nat) : StateT SortSt Sem AscSt :=
  forIn [a:nrem] ((none, a) : AscSt) fun _ c => do
    let r ← ltAt' (lo + c.snd) (lo + c.snd - 1)
    match r with
    | some b => if b = true then pure (ForInStep.done (none, c.snd)) else pure (ForInStep.yield (none, c.snd + 1))
    | _ => pure (ForInStep.done (some none, c.snd))
def tailL (lo n nrem : Nat) : StateT SortSt Sem (Option Nat) := do
  reverseSlice' lo (lo + n)
  let c ← upLoop lo n nrem
  match c.fst with
  | some r => pure r
  | none => pure (some c.snd)
def downLoop (lo n nrem : Nat) : StateT SortSt Sem DescSt :=
  forIn [n:nrem] ((none, n, 0) : DescSt) fun _ c => do
    let r ← ltAt' (lo + c.snd.fst) (lo + c.snd.fst - 1)
    match r with
    | some b =>
      if b = true then
        if c.snd.snd > 0 then do
          reverseSlice' (lo + c.snd.fst - (c.snd.snd + 1)) (lo + c.snd.fst)
          pure (ForInStep.yield (none, c.snd.fst + 1, 0))
        else pure (ForInStep.yield (none, c.snd.fst + 1, 0))
      else do
        let r2 ← ltAt' (lo + c.snd.fst - 1) (lo + c.snd.fst)
        match r2 with
        | some b2 =>
          if b2 = true then pure (ForInStep.done (none, c.snd.fst, c.snd.snd))
          else pure (ForInStep.yield (none, c.snd.fst + 1, c.snd.snd + 1))
        | _ => pure (ForInStep.done (some none, c.snd.fst, c.snd.snd))
    | _ => pure (ForInStep.done (some none, c.snd.fst, c.snd.snd))
def downPart (lo n nrem : Nat) : StateT SortSt Sem (Option Nat) := do
  liftM (rule "list.sort.descending-run")
  let c ← downLoop lo (n + 1) nrem
  match c.fst with
  | some r => pure r
  | none =>
    if c.snd.snd > 0 then do
      reverseSlice' (lo + c.snd.fst - (c.snd.snd + 1)) (lo + c.snd.fst)
      tailL lo c.snd.fst nrem
    else tailL lo c.snd.fst nrem
theorem bnd {α β : Type} (m : StateT SortSt Sem α) {g h : α → StateT SortSt Sem β} (e : ∀ a, g a = h a) : (m >>= g) = (m >>= h) := by rw [show g = h from funext e]
theorem count_eq (lo nrem : Nat) : countRun' lo nrem = (do
    let c ← upLoop lo 1 nrem
    match c.fst with
    | some r => pure r
    | none =>
      if (c.snd == nrem) = true then pure (some c.snd)
      else if c.snd > 1 then do
        let r ← ltAt' lo (lo + c.snd - 1)
        match r with
        | some b => if b = true then pure (some c.snd) else do
            reverseSlice' lo (lo + c.snd)
            downPart lo c.snd nrem
        | _ => pure none
      else downPart lo c.snd nrem) := by
  have tl : ∀ n2 : Nat, tailL lo n2 nrem = (reverseSlice' lo (lo + n2) >>= fun _ => upLoop lo n2 nrem >>= fun c => match c.fst with | some r => pure r | none => pure (some c.snd)) := fun _ => rfl
  rw [countRun'_eq]
  refine bnd (upLoop lo 1 nrem) fun c => ?_
  obtain ⟨r, n⟩ := c
  cases r with
  | some r => rfl
  | none =>
    have dn : ∀ n1 : Nat, (liftM (rule "list.sort.descending-run") >>= fun _ => downLoop lo (n1 + 1) nrem >>= fun c => match c.fst with
        | some r => pure r
        | none => if c.snd.snd > 0 then (reverseSlice' (lo + c.snd.fst - (c.snd.snd + 1)) (lo + c.snd.fst) >>= fun _ => tailL lo c.snd.fst nrem) else tailL lo c.snd.fst nrem) = downPart lo n1 nrem := fun _ => rfl
    dsimp only
    split
    · rfl
    · split
      · refine bnd (ltAt' lo (lo + n - 1)) fun x => ?_
        cases x with
        | none => rfl
        | some rose =>
          dsimp only
          split
          · rfl
          · refine bnd _ fun _ => ?_
            rw [← dn]
            refine bnd _ fun _ => bnd (downLoop lo (n + 1) nrem) fun s2 => ?_
            obtain ⟨r2, n2, q2⟩ := s2
            cases r2 with
            | some r2 => rfl
            | none =>
              dsimp only
              split
              · refine bnd _ fun _ => ?_
                rw [tl]
                refine bnd _ fun _ => bnd (upLoop lo n2 nrem) fun s3 => ?_
                obtain ⟨r3, n3⟩ := s3
                cases r3 <;> rfl
              · rw [tl]
                refine bnd _ fun _ => bnd (upLoop lo n2 nrem) fun s3 => ?_
                obtain ⟨r3, n3⟩ := s3
                cases r3 <;> rfl
      · rw [← dn]
        refine bnd _ fun _ => bnd (downLoop lo (n + 1) nrem) fun s2 => ?_
        obtain ⟨r2, n2, q2⟩ := s2
        cases r2 with
        | some r2 => rfl
        | none =>
          dsimp only
          split
          · refine bnd _ fun _ => ?_
            rw [tl]
            refine bnd _ fun _ => bnd (upLoop lo n2 nrem) fun s3 => ?_
            obtain ⟨r3, n3⟩ := s3
            cases r3 <;> rfl
          · rw [tl]
            refine bnd _ fun _ => bnd (upLoop lo n2 nrem) fun s3 => ?_
            obtain ⟨r3, n3⟩ := s3
            cases r3 <;> rfl
theorem up_one {xs : Array Keyed} {lo : Nat} : Up f xs lo 1 := fun i j h1 h2 h3 => by rw [show i = j by omega]; exact Int.le_refl _
theorem up_loop {st : SortSt} {lo a nrem : Nat} {Q : AscSt → SortSt → Prop} (L : Asks M A E s κ a₀ f) (hn : lo + nrem ≤ a₀.size) (ha : 1 ≤ a) (han : a ≤ nrem) (hB : SB κ a₀ st) (hs : Up f (arrOf st) lo a)
    (h : ∀ n, a ≤ n → n ≤ nrem → Up f (arrOf st) lo n → (n = nrem ∨ kn f (arrOf st) (lo + n) < kn f (arrOf st) (lo + n - 1)) → Q (none, n) st) : wpS M A E s (upLoop lo a nrem) Q st := by
  unfold upLoop
  refine wpS_forRange (I := fun x c st' => st' = st ∧ c = (none, x) ∧ Up f (arrOf st) lo x) ?_ ?_ ⟨rfl, rfl, hs⟩
  · rintro x c st' hax hxn ⟨rfl, rfl, hs'⟩
    dsimp only
    refine wpS_bind (ask_at L hB (by omega) (by omega) ?_)
    by_cases hl : kn f (arrOf st') (lo + x) < kn f (arrOf st') (lo + x - 1)
    · rw [decide_eq_true hl]
      exact wpS_pure (h x hax (by omega) hs' (.inr hl))
    · rw [decide_eq_false hl]
      refine wpS_pure ⟨rfl, rfl, fun i j h1 h2 h3 => ?_⟩
      by_cases hj : j < lo + x
      · exact hs' i j h1 h2 hj
      · by_cases hi : i = j
        · rw [hi]; exact Int.le_refl _
        · have e1 := hs' i (lo + x - 1) h1 (by omega) (by omega)
          rw [show j = lo + x by omega]
          omega
  · rintro c st' ⟨rfl, rfl, hs'⟩
    rw [Nat.max_eq_right han] at hs' ⊢
    exact h nrem han (Nat.le_refl _) hs' (.inl rfl)
abbrev CountQ (κ : SortKind) (a₀ : Array Keyed) (f : Keyed → Int) (lo nrem : Nat) (xs : Array Keyed) (pd : Array (Nat × Nat × Nat)) (Q : Option Nat → SortSt → Prop) : Prop :=
  ∀ m st', SB κ a₀ st' → 1 ≤ m → m ≤ nrem → Up f (arrOf st') lo m → Kept lo xs (arrOf st') → pendingOf st' = pd → Q (some m) st'
theorem tail_l {st : SortSt} {lo n nrem : Nat} {xs : Array Keyed} {pd : Array (Nat × Nat × Nat)} {Q : Option Nat → SortSt → Prop} (L : Asks M A E s κ a₀ f) (hn : lo + nrem ≤ a₀.size) (h1 : 1 ≤ n) (hnn : n ≤ nrem) (hB : SB κ a₀ st)
    (hs : Down f (arrOf st) lo n) (hk : Kept lo xs (arrOf st)) (hp : pendingOf st = pd) (h : CountQ κ a₀ f lo nrem xs pd Q) : wpS M A E s (tailL lo n nrem) Q st := by
  unfold tailL
  have hsz : lo + n ≤ (arrOf st).size := by rw [hB.size]; omega
  refine wpS_bind (rev_at ?_)
  have hB' : SB κ a₀ (setArr st (mirror (arrOf st) lo (lo + n) ((lo + n - lo) / 2))) := hB.arr (mirror_perm _ _ _ _)
  have hk' : Kept lo xs (mirror (arrOf st) lo (lo + n) ((lo + n - lo) / 2)) := hk.trans (kept_mirror hsz (Nat.le_refl _))
  refine wpS_bind (up_loop L hn h1 hnn hB' (fun i j z1 z2 z3 => ?_) fun m hm1 hm2 hsm _ => wpS_pure (h m _ hB' (by omega) hm2 hsm hk' hp))
  show kn f (mirror (arrOf st) lo (lo + n) _) i ≤ kn f (mirror (arrOf st) lo (lo + n) _) j
  rw [kn_mirror hsz, kn_mirror hsz, if_pos (by omega), if_pos (by omega)]
  exact hs _ _ (by omega) (by omega) (by omega)
theorem down_loop {st : SortSt} {lo n nrem : Nat} {xs : Array Keyed} {pd : Array (Nat × Nat × Nat)} {Q : DescSt → SortSt → Prop} (L : Asks M A E s κ a₀ f) (hn : lo + nrem ≤ a₀.size) (h1 : 1 ≤ n) (hnn : n ≤ nrem) (hB : SB κ a₀ st)
    (hs : Down f (arrOf st) lo n) (hk : Kept lo xs (arrOf st)) (hp : pendingOf st = pd)
    (h : ∀ m q st', SB κ a₀ st' → n ≤ m → m ≤ nrem → Down f (arrOf st') lo m → q + 1 ≤ m → (∀ i, lo + m - (q + 1) ≤ i → i < lo + m → kn f (arrOf st') i = kn f (arrOf st') (lo + m - 1)) → Kept lo xs (arrOf st') → pendingOf st' = pd → Q (none, m, q) st') :
    wpS M A E s (downLoop lo n nrem) Q st := by
  unfold downLoop
  refine wpS_forRange (I := fun x c st' => ∃ q, c = (none, x, q) ∧ SB κ a₀ st' ∧ Down f (arrOf st') lo x ∧ q + 1 ≤ x ∧ (∀ i, lo + x - (q + 1) ≤ i → i < lo + x → kn f (arrOf st') i = kn f (arrOf st') (lo + x - 1)) ∧ Kept lo xs (arrOf st') ∧ pendingOf st' = pd) ?_ ?_
    ⟨0, rfl, hB, hs, by omega, fun i z1 z2 => by rw [show i = lo + n - 1 by omega], hk, hp⟩
  · rintro x c st' hax hxn ⟨q, rfl, hB', hs', hq, he, hk', hp'⟩
    dsimp only
    have hsz : lo + x ≤ (arrOf st').size := by rw [hB'.size]; omega
    refine wpS_bind (ask_at L hB' (by omega) (by omega) ?_)
    by_cases hl : kn f (arrOf st') (lo + x) < kn f (arrOf st') (lo + x - 1)
    · rw [decide_eq_true hl]
      have more : ∀ ys : Array Keyed, (∀ k, kn f ys k = kn f (arrOf st') k) → Down f ys lo (x + 1) := fun ys hy i j z1 z2 z3 => by
        rw [hy, hy]
        by_cases hj : j < lo + x
        · exact hs' i j z1 z2 hj
        · by_cases hi : i = j
          · rw [hi]; exact Int.le_refl _
          · have e1 := hs' i (lo + x - 1) z1 (by omega) (by omega)
            rw [show j = lo + x by omega]
            omega
      dsimp only
      rw [if_pos rfl]
      by_cases hq0 : q > 0
      · rw [if_pos hq0]
        refine wpS_bind (rev_at (wpS_pure ⟨0, rfl, hB'.arr (mirror_perm _ _ _ _), more _ (kn_same hsz he), by omega, fun i z1 z2 => by rw [show i = lo + (x + 1) - 1 by omega], hk'.trans (kept_mirror hsz (by omega)), hp'⟩))
      · rw [if_neg hq0]
        exact wpS_pure ⟨0, rfl, hB', more _ (fun _ => rfl), by omega, fun i z1 z2 => by rw [show i = lo + (x + 1) - 1 by omega], hk', hp'⟩
    · rw [decide_eq_false hl]
      dsimp only
      rw [if_neg (by decide)]
      refine wpS_bind (ask_at L hB' (by omega) (by omega) ?_)
      by_cases hg : kn f (arrOf st') (lo + x - 1) < kn f (arrOf st') (lo + x)
      · rw [decide_eq_true hg]
        exact wpS_pure (h x q st' hB' hax (by omega) hs' hq he hk' hp')
      · rw [decide_eq_false hg]
        have ex : kn f (arrOf st') (lo + x) = kn f (arrOf st') (lo + x - 1) := by omega
        refine wpS_pure ⟨q + 1, rfl, hB', fun i j z1 z2 z3 => ?_, by omega, fun i z1 z2 => ?_, hk', hp'⟩
        · by_cases hj : j < lo + x
          · exact hs' i j z1 z2 hj
          · by_cases hi : i = j
            · rw [hi]; exact Int.le_refl _
            · have e1 := hs' i (lo + x - 1) z1 (by omega) (by omega)
              rw [show j = lo + x by omega]
              omega
        · rw [show lo + (x + 1) - 1 = lo + x by omega]
          by_cases hi : i = lo + x
          · rw [hi]
          · rw [ex]; exact he i (by omega) (by omega)
  · rintro c st' ⟨q, rfl, hB', hs', hq, he, hk', hp'⟩
    rw [Nat.max_eq_right hnn] at hs' hq he ⊢
    exact h nrem q st' hB' hnn (Nat.le_refl _) hs' hq he hk' hp'
theorem down_part {st : SortSt} {lo n nrem : Nat} {xs : Array Keyed} {pd : Array (Nat × Nat × Nat)} {Q : Option Nat → SortSt → Prop} (L : Asks M A E s κ a₀ f) (hn : lo + nrem ≤ a₀.size) (hnn : n + 1 ≤ nrem) (hB : SB κ a₀ st)
    (hs : Down f (arrOf st) lo (n + 1)) (hk : Kept lo xs (arrOf st)) (hp : pendingOf st = pd) (h : CountQ κ a₀ f lo nrem xs pd Q) : wpS M A E s (downPart lo n nrem) Q st := by
  unfold downPart
  refine wpS_bind (wpS_lift (wpAny_rule ⟨rfl, ?_⟩))
  refine wpS_bind (down_loop L hn (by omega) hnn hB hs hk hp fun m q st' hB' hm1 hm2 hs' hq he hk' hp' => ?_)
  dsimp only
  have hsz : lo + m ≤ (arrOf st').size := by rw [hB'.size]; omega
  by_cases hq0 : q > 0
  · rw [if_pos hq0]
    refine wpS_bind (rev_at (tail_l L hn (by omega) hm2 (hB'.arr (mirror_perm _ _ _ _)) (fun i j z1 z2 z3 => ?_) (hk'.trans (kept_mirror hsz (by omega))) hp' h))
    show kn f (mirror (arrOf st') _ _ _) j ≤ kn f (mirror (arrOf st') _ _ _) i
    rw [kn_same hsz he, kn_same hsz he]
    exact hs' i j z1 z2 z3
  · rw [if_neg hq0]
    exact tail_l L hn (by omega) hm2 hB' hs' hk' hp' h
theorem count_run {st : SortSt} {lo nrem : Nat} {Q : Option Nat → SortSt → Prop} (L : Asks M A E s κ a₀ f) (hn : lo + nrem ≤ a₀.size) (h1 : 1 ≤ nrem) (hB : SB κ a₀ st)
    (h : CountQ κ a₀ f lo nrem (arrOf st) (pendingOf st) Q) : wpS M A E s (countRun' lo nrem) Q st := by
  rw [count_eq]
  refine wpS_bind (up_loop L hn (Nat.le_refl 1) h1 hB up_one fun n hn1 hn2 hsn hor => ?_)
  dsimp only
  by_cases hnn : n = nrem
  · rw [if_pos (by simpa using hnn)]
    exact wpS_pure (h n st hB hn1 hn2 hsn .refl rfl)
  rw [if_neg (by simpa using hnn)]
  have hlt := hor.resolve_left hnn
  by_cases hgt : n > 1
  · rw [if_pos hgt]
    refine wpS_bind (ask_at L hB (by omega) (by omega) ?_)
    by_cases hr : kn f (arrOf st) lo < kn f (arrOf st) (lo + n - 1)
    · rw [decide_eq_true hr]
      exact wpS_pure (h n st hB hn1 hn2 hsn .refl rfl)
    rw [decide_eq_false hr]
    dsimp only
    rw [if_neg (by decide)]
    have hsz : lo + n ≤ (arrOf st).size := by rw [hB.size]; omega
    have hall : ∀ k, lo ≤ k → k < lo + n → kn f (arrOf st) k = kn f (arrOf st) (lo + n - 1) := fun k k1 k2 => by
      have a1 := hsn lo k (Nat.le_refl _) k1 k2
      have a2 := hsn k (lo + n - 1) k1 (by omega) (by omega)
      omega
    refine wpS_bind (rev_at (down_part L hn (by omega) (hB.arr (mirror_perm _ _ _ _)) (fun i j z1 z2 z3 => ?_) (kept_mirror hsz (Nat.le_refl _)) rfl h))
    show kn f (mirror (arrOf st) _ _ _) j ≤ kn f (mirror (arrOf st) _ _ _) i
    rw [kn_same hsz hall, kn_same hsz hall]
    by_cases hj : j < lo + n
    · rw [hall i z1 (by omega), hall j (by omega) hj]; exact Int.le_refl _
    · by_cases hi : i = j
      · rw [hi]; exact Int.le_refl _
      · rw [hall i z1 (by omega), show j = lo + n by omega]; exact Int.le_of_lt hlt
  · rw [if_neg hgt]
    have hn1' : n = 1 := by omega
    subst hn1'
    refine down_part L hn (by omega) hB (fun i j z1 z2 z3 => ?_) .refl rfl h
    by_cases hi : i = j
    · rw [hi]; exact Int.le_refl _
    · have e1 : i = lo := by omega
      have e2 : j = lo + 1 := by omega
      subst e1 e2
      exact Int.le_of_lt hlt
theorem kn_bubble {xs : Array Keyed} {src d : Nat} (hs : src < xs.size) (hd : d ≤ src) (k : Nat) : kn f (bubble xs src d) k = if k = src - d then kn f xs src else if src - d < k ∧ k ≤ src then kn f xs (k - 1) else kn f xs k := by
  have e := getElem?_bubble hs d hd k
  split
  · rename_i h; rw [if_pos h] at e; exact kn_congr e
  · rename_i h
    rw [if_neg h] at e
    split
    · rename_i h2; rw [if_pos h2] at e; exact kn_congr e
    · rename_i h2; rw [if_neg h2] at e; exact kn_congr e
theorem kept_bubble {lo : Nat} {xs : Array Keyed} {src d : Nat} (hs : src < xs.size) (hd : lo + d ≤ src) : Kept lo xs (bubble xs src d) := fun k hk => by
  rw [getElem?_bubble hs d (by omega) k, if_neg (by omega), if_neg (by omega)]
theorem bin_sort {st : SortSt} {lo n ok : Nat} {Q : Bool → SortSt → Prop} (L : Asks M A E s κ a₀ f) (hn : lo + n ≤ a₀.size) (hok : ok ≤ n) (hB : SB κ a₀ st) (hs : Up f (arrOf st) lo ok)
    (h : ∀ st', SB κ a₀ st' → Up f (arrOf st') lo n → Kept lo (arrOf st) (arrOf st') → pendingOf st' = pendingOf st → Q true st') : wpS M A E s (binarySort' lo n ok) Q st := by
  rw [binarySort'_eq]
  refine wpS_bind (wpS_mono (wpS_forRange (I := fun k c st' => c = (none, ()) ∧ SB κ a₀ st' ∧ Up f (arrOf st') lo (min k n) ∧ Kept lo (arrOf st) (arrOf st') ∧ pendingOf st' = pendingOf st)
    (Q := fun c st' => c = (none, ()) ∧ SB κ a₀ st' ∧ Up f (arrOf st') lo n ∧ Kept lo (arrOf st) (arrOf st') ∧ pendingOf st' = pendingOf st) ?_ ?_ ?_) ?_)
  · rintro k c st' hak hkn ⟨rfl, hB', hs', hk', hp'⟩
    rw [show min k n = k by omega] at hs'
    have hk : lo + k < a₀.size := by omega
    refine wpS_bind (wpS_mono (wpS_forRange (I := fun x c st2 => st2 = st' ∧ ∃ l r, c = (none, l, r) ∧ l ≤ r ∧ r ≤ k ∧ r - l ≤ k - x ∧
        (∀ i, i < l → kn f (arrOf st') (lo + i) ≤ kn f (arrOf st') (lo + k)) ∧ (∀ i, r ≤ i → i < k → kn f (arrOf st') (lo + k) < kn f (arrOf st') (lo + i)))
      (Q := fun c st2 => st2 = st' ∧ ∃ l r, c = (none, l, r) ∧ l ≤ k ∧ (∀ i, i < l → kn f (arrOf st') (lo + i) ≤ kn f (arrOf st') (lo + k)) ∧ (∀ i, l ≤ i → i < k → kn f (arrOf st') (lo + k) < kn f (arrOf st') (lo + i))) ?_ ?_ ?_) ?_)
    · rintro x c st2 _ hxk ⟨rfl, l, r, rfl, hlr, hrk, hm, hlo, hhi⟩
      dsimp only
      by_cases hge : l ≥ r
      · rw [if_pos hge]
        have : l = r := by omega
        subst this
        exact wpS_pure ⟨rfl, l, l, rfl, hrk, hlo, hhi⟩
      rw [if_neg hge]
      refine wpS_bind (ask_at L hB' hk (by omega) ?_)
      by_cases hl : kn f (arrOf st2) (lo + k) < kn f (arrOf st2) (lo + (l + r) / 2)
      · rw [decide_eq_true hl]
        refine wpS_pure ⟨rfl, l, (l + r) / 2, rfl, by omega, by omega, by omega, hlo, fun i z1 z2 => ?_⟩
        exact Int.lt_of_lt_of_le hl (hs' _ _ (by omega) (by omega) (by omega))
      · rw [decide_eq_false hl]
        refine wpS_pure ⟨rfl, (l + r) / 2 + 1, r, rfl, by omega, by omega, by omega, fun i z1 => ?_, hhi⟩
        have e1 := hs' (lo + i) (lo + (l + r) / 2) (by omega) (by omega) (by omega)
        omega
    · rintro c st2 ⟨rfl, l, r, rfl, hlr, hrk, hm, hlo, hhi⟩
      have : l = r := by omega
      subst this
      exact ⟨rfl, l, l, rfl, hrk, hlo, hhi⟩
    · exact ⟨rfl, 0, k, rfl, by omega, by omega, by omega, fun i hi => by omega, fun i z1 z2 => by omega⟩
    · rintro c st2 ⟨rfl, l, r, rfl, hlk, hlo, hhi⟩
      show wpS _ _ _ _ (moveDown' (lo + k) (lo + l) >>= fun _ => pure (ForInStep.yield (none, ()))) _ _
      rw [moveDown'_eq, show lo + k - (lo + l) = k - l by omega]
      have hks : lo + k < (arrOf st2).size := by rw [hB'.size]; exact hk
      refine wpS_bind (wpS_modify (wpS_pure ⟨rfl, hB'.arr (bubble_perm _ _ _), ?_, hk'.trans (kept_bubble hks (by omega)), hp'⟩))
      rw [show min (k + 1) n = k + 1 by omega]
      intro i j z1 z2 z3
      show kn f (bubble (arrOf st2) (lo + k) (k - l)) i ≤ kn f (bubble (arrOf st2) (lo + k) (k - l)) j
      have at' : ∀ m, lo ≤ m → m < lo + k + 1 → kn f (bubble (arrOf st2) (lo + k) (k - l)) m = if m < lo + l then kn f (arrOf st2) m else if m = lo + l then kn f (arrOf st2) (lo + k) else kn f (arrOf st2) (m - 1) := fun m m1 m2 => by
        rw [kn_bubble hks (by omega)]
        by_cases c1 : m < lo + l
        · rw [if_pos c1, if_neg (by omega), if_neg (by omega)]
        · rw [if_neg c1]
          by_cases c2 : m = lo + l
          · rw [if_pos c2, if_pos (by omega)]
          · rw [if_neg c2, if_neg (by omega), if_pos (by omega)]
      rw [at' i z1 (by omega), at' j (by omega) (by omega)]
      have lo' : ∀ m, lo ≤ m → m < lo + l → kn f (arrOf st2) m ≤ kn f (arrOf st2) (lo + k) := fun m m1 m2 => by
        have := hlo (m - lo) (by omega)
        rw [show lo + (m - lo) = m by omega] at this
        exact this
      have hi' : ∀ m, lo + l ≤ m → m < lo + k → kn f (arrOf st2) (lo + k) < kn f (arrOf st2) m := fun m m1 m2 => by
        have := hhi (m - lo) (by omega) (by omega)
        rw [show lo + (m - lo) = m by omega] at this
        exact this
      by_cases c1 : j < lo + l
      · rw [if_pos c1, if_pos (by omega)]
        exact hs' i j z1 z2 (by omega)
      rw [if_neg c1]
      by_cases c2 : j = lo + l
      · rw [if_pos c2]
        by_cases c3 : i < lo + l
        · rw [if_pos c3]; exact lo' i z1 c3
        · rw [if_neg c3, if_pos (by omega)]; exact Int.le_refl _
      · rw [if_neg c2]
        by_cases c3 : i < lo + l
        · rw [if_pos c3]; exact hs' i (j - 1) z1 (by omega) (by omega)
        · rw [if_neg c3]
          by_cases c4 : i = lo + l
          · rw [if_pos c4]; exact Int.le_of_lt (hi' (j - 1) (by omega) (by omega))
          · rw [if_neg c4]; exact hs' (i - 1) (j - 1) (by omega) (by omega) (by omega)
  · rintro c st' ⟨hc, hB', hs', hk', hp'⟩
    rw [show min (max (max ok 1) n) n = n by omega] at hs'
    exact ⟨hc, hB', hs', hk', hp'⟩
  · refine ⟨rfl, hB, fun i j z1 z2 z3 => ?_, .refl, rfl⟩
    by_cases h1 : ok = 0
    · rw [show i = j by omega]; exact Int.le_refl _
    · exact hs i j z1 z2 (by omega)
  · rintro c st' ⟨rfl, hB', hs', hk', hp'⟩
    exact wpS_pure (h st' hB' hs' hk' hp')
end
end L2S

set_option linter.all false
set_option maxRecDepth 100000
set_option maxHeartbeats 4000000
namespace L2S
open PySem PyProof.Rows
def gal : Bool → Keyed → Array Keyed → Nat → Nat → Nat → StateT SortSt Sem (Option Nat) := sortPriv% PySem.Builtin.gallop
def past (left : Bool) (key : Keyed) (arr : Array Keyed) (base i : Nat) : StateT SortSt Sem (Option Bool) := do
  let y ← elem' arr (base + i)
  if left then lt' y key else return (← lt' key y).map (!·)
theorem gal_eq (left : Bool) (key : Keyed) (arr : Array Keyed) (base n hint : Nat) : gal left key arr base n hint = (do
  let mut o1 := 0
  let mut o2 := 1
  let mut p1 := 0
  let mut p2 := 0
  let some b0 ← past left key arr base hint | return none
  if b0 then
    let mx := n - hint
    for _ in [0:n] do
      if o2 ≥ mx then break
      let some b ← past left key arr base (hint + o2) | return none
      if !b then break
      o1 := o2
      o2 := 2 * o2 + 1
    p1 := hint + o1 + 1
    p2 := hint + min o2 mx
  else
    let mx := hint + 1
    for _ in [0:n] do
      if o2 ≥ mx then break
      let some b ← past left key arr base (hint - o2) | return none
      if b then break
      o1 := o2
      o2 := 2 * o2 + 1
    p1 := hint + 1 - min o2 mx
    p2 := hint - o1
  for _ in [0:n] do
    if p1 ≥ p2 then break
    let m := p1 + (p2 - p1) / 2
    let some b ← past left key arr base m | return none
    if b then p1 := m + 1 else p2 := m
  return some p2) := rfl
section
variable {M : Model} {A : Around} {E : Value → Shared → Prop} {s : Shared}
theorem gal_ok {left : Bool} {key : Keyed} {arr : Array Keyed} {base n hint : Nat} {st : SortSt} {Q : Option Nat → SortSt → Prop} (g : Nat → Bool) (hh : hint < n)
    (hp : ∀ i, i < n → ∀ Q : Option Bool → SortSt → Prop, Q (some (g i)) st → wpS M A E s (past left key arr base i) Q st) (hm : ∀ i j, i ≤ j → j < n → g j = true → g i = true)
    (h : ∀ k, k ≤ n → (∀ i, i < k → g i = true) → (∀ i, k ≤ i → i < n → g i = false) → Q (some k) st) : wpS M A E s (gal left key arr base n hint) Q st := by
  have hm' : ∀ i j, i ≤ j → j < n → g i = false → g j = false := fun i j z1 z2 z3 => by
    cases e : g j with
    | false => rfl
    | true => rw [hm i j z1 z2 e] at z3; cases z3
  have last : ∀ p1 p2 : Nat, p1 ≤ p2 → p2 ≤ n → (∀ i, i < p1 → g i = true) → (∀ i, p2 ≤ i → i < n → g i = false) →
      wpS M A E s (forIn [0:n] ((none, p1, p2) : Option (Option Nat) × Nat × Nat) fun _ c => if c.2.1 ≥ c.2.2 then pure (ForInStep.done (none, c.2.1, c.2.2)) else do
        let r ← past left key arr base (c.2.1 + (c.2.2 - c.2.1) / 2)
        match r with
        | some b => if b = true then pure (ForInStep.yield (none, c.2.1 + (c.2.2 - c.2.1) / 2 + 1, c.2.2)) else pure (ForInStep.yield (none, c.2.1, c.2.1 + (c.2.2 - c.2.1) / 2))
        | _ => pure (ForInStep.done (some none, c.2.1, c.2.2))) (fun c st' => ∃ k, c = (none, k, k) ∧ st' = st ∧ k ≤ n ∧ (∀ i, i < k → g i = true) ∧ (∀ i, k ≤ i → i < n → g i = false)) st := by
    intro p1 p2 a1 a2 a3 a4
    refine wpS_forRange (I := fun x c st' => st' = st ∧ ∃ p1 p2, c = (none, p1, p2) ∧ p1 ≤ p2 ∧ p2 ≤ n ∧ p2 - p1 ≤ n - x ∧ (∀ i, i < p1 → g i = true) ∧ (∀ i, p2 ≤ i → i < n → g i = false)) ?_ ?_ ⟨rfl, p1, p2, rfl, a1, a2, by omega, a3, a4⟩
    · rintro x c st' _ hx ⟨rfl, p1, p2, rfl, b1, b2, b3, b4, b5⟩
      dsimp only
      by_cases hge : p1 ≥ p2
      · rw [if_pos hge]
        have : p1 = p2 := by omega
        subst this
        exact wpS_pure ⟨p1, rfl, rfl, b2, b4, b5⟩
      rw [if_neg hge]
      refine wpS_bind (hp _ (by omega) _ ?_)
      cases e : g (p1 + (p2 - p1) / 2) with
      | true => exact wpS_pure ⟨rfl, _, _, rfl, by omega, b2, by omega, fun i hi => hm i _ (by omega) (by omega) e, b5⟩
      | false => exact wpS_pure ⟨rfl, _, _, rfl, by omega, by omega, by omega, b4, fun i i1 i2 => hm' _ i i1 i2 e⟩
    · rintro c st' ⟨rfl, p1, p2, rfl, b1, b2, b3, b4, b5⟩
      have : p1 = p2 := by omega
      subst this
      exact ⟨p1, rfl, rfl, b2, b4, b5⟩
  rw [gal_eq]
  refine wpS_bind (hp hint hh _ ?_)
  cases e0 : g hint with
  | true =>
    refine wpS_bind (wpS_mono (wpS_forRange (I := fun x c st' => st' = st ∧ ∃ o1 o2, c = (none, o1, o2) ∧ o1 < o2 ∧ x + 1 ≤ o2 ∧ hint + o1 < n ∧ g (hint + o1) = true)
      (Q := fun c st' => st' = st ∧ ∃ o1 o2, c = (none, o1, o2) ∧ o1 < o2 ∧ hint + o1 < n ∧ g (hint + o1) = true ∧ (o2 ≥ n - hint ∨ (hint + o2 < n ∧ g (hint + o2) = false))) ?_ ?_ ⟨rfl, 0, 1, rfl, by omega, by omega, by omega, e0⟩) ?_)
    · rintro x c st' _ hx ⟨rfl, o1, o2, rfl, b1, b2, b3, b4⟩
      dsimp only
      by_cases hge : o2 ≥ n - hint
      · rw [if_pos hge]
        exact wpS_pure ⟨rfl, o1, o2, rfl, b1, b3, b4, .inl hge⟩
      rw [if_neg hge]
      refine wpS_bind (hp _ (by omega) _ ?_)
      cases e : g (hint + o2) with
      | true => exact wpS_pure ⟨rfl, _, _, rfl, by omega, by omega, by omega, e⟩
      | false => exact wpS_pure ⟨rfl, _, _, rfl, b1, b3, b4, .inr ⟨by omega, e⟩⟩
    · rintro c st' ⟨rfl, o1, o2, rfl, b1, b2, b3, b4⟩
      exact ⟨rfl, o1, o2, rfl, b1, b3, b4, .inl (by omega)⟩
    · rintro c st' ⟨rfl, o1, o2, rfl, b1, b3, b4, b5⟩
      dsimp only
      refine wpS_bind (wpS_mono (last (hint + o1 + 1) (hint + min o2 (n - hint)) (by omega) (by omega) (fun i hi => hm i _ (by omega) b3 b4) fun i i1 i2 => ?_) ?_)
      · rcases b5 with z | ⟨z1, z2⟩
        · omega
        · exact hm' _ i (by omega) i2 z2
      · rintro c st' ⟨k, rfl, rfl, k1, k2, k3⟩
        exact wpS_pure (h k k1 k2 k3)
  | false =>
    refine wpS_bind (wpS_mono (wpS_forRange (I := fun x c st' => st' = st ∧ ∃ o1 o2, c = (none, o1, o2) ∧ o1 < o2 ∧ x + 1 ≤ o2 ∧ o1 ≤ hint ∧ g (hint - o1) = false)
      (Q := fun c st' => st' = st ∧ ∃ o1 o2, c = (none, o1, o2) ∧ o1 < o2 ∧ o1 ≤ hint ∧ g (hint - o1) = false ∧ (o2 ≥ hint + 1 ∨ (o2 < hint + 1 ∧ g (hint - o2) = true))) ?_ ?_ ⟨rfl, 0, 1, rfl, by omega, by omega, by omega, e0⟩) ?_)
    · rintro x c st' _ hx ⟨rfl, o1, o2, rfl, b1, b2, b3, b4⟩
      dsimp only
      by_cases hge : o2 ≥ hint + 1
      · rw [if_pos hge]
        exact wpS_pure ⟨rfl, o1, o2, rfl, b1, b3, b4, .inl hge⟩
      rw [if_neg hge]
      refine wpS_bind (hp _ (by omega) _ ?_)
      cases e : g (hint - o2) with
      | true => exact wpS_pure ⟨rfl, _, _, rfl, b1, b3, b4, .inr ⟨by omega, e⟩⟩
      | false => exact wpS_pure ⟨rfl, _, _, rfl, by omega, by omega, by omega, e⟩
    · rintro c st' ⟨rfl, o1, o2, rfl, b1, b2, b3, b4⟩
      exact ⟨rfl, o1, o2, rfl, b1, b3, b4, .inl (by omega)⟩
    · rintro c st' ⟨rfl, o1, o2, rfl, b1, b3, b4, b5⟩
      dsimp only
      refine wpS_bind (wpS_mono (last (hint + 1 - min o2 (hint + 1)) (hint - o1) (by omega) (by omega) (fun i hi => ?_) fun i i1 i2 => hm' _ i i1 i2 b4) ?_)
      · rcases b5 with z | ⟨z1, z2⟩
        · omega
        · exact hm i _ (by omega) (by omega) z2
      · rintro c st' ⟨k, rfl, rfl, k1, k2, k3⟩
        exact wpS_pure (h k k1 k2 k3)
end
end L2S

set_option linter.all false
set_option maxRecDepth 100000
set_option maxHeartbeats 4000000
namespace L2S
open PySem PyProof.Rows
def mLo : Array Keyed → Array Keyed → StateT SortSt Sem (Array Keyed) := sortPriv% PySem.Builtin.mergeLo
abbrev setG (st : SortSt) (g : Nat) : SortSt := SortSt.mk' (kindOf st) (arrOf st) (pendingOf st) g (failedOf st)
theorem mLo_eq (a b : Array Keyed) : mLo a b = (do
  rule "list.sort.merge-lo"
  let tt := a.size + b.size
  let dn (o : Array Keyed) (i j : Nat) := o ++ a.extract i a.size ++ b.extract j b.size
  let la (o : Array Keyed) (i j : Nat) := o ++ b.extract j b.size ++ a.extract i a.size
  let mut o : Array Keyed := #[← elem' b 0]
  let mut i := 0
  let mut j := 1
  if j == b.size then return dn o i j
  if i + 1 == a.size then return la o i j
  let mut mg := gallopOf (← get)
  for _ in [0:tt] do
    let mut ac := 0
    let mut bc := 0
    for _ in [0:tt] do
      let some w ← lt' (← elem' b j) (← elem' a i) | return dn o i j
      if w then
        o := o.push (← elem' b j); j := j + 1; bc := bc + 1; ac := 0
        if j == b.size then return dn o i j
        if bc ≥ mg then break
      else
        o := o.push (← elem' a i); i := i + 1; ac := ac + 1; bc := 0
        if i + 1 == a.size then return la o i j
        if ac ≥ mg then break
    rule "list.sort.gallop"
    mg := mg + 1
    for _ in [0:tt] do
      if mg > 1 then mg := mg - 1
      modify fun st => setG st mg
      let some k ← gal false (← elem' b j) a i (a.size - i) 0 | return dn o i j
      ac := k
      if k > 0 then
        o := o ++ a.extract i (i + k); i := i + k
        if i + 1 == a.size then return la o i j
        if i == a.size then return dn o i j
      o := o.push (← elem' b j); j := j + 1
      if j == b.size then return dn o i j
      let some k ← gal true (← elem' a i) b j (b.size - j) 0 | return dn o i j
      bc := k
      if k > 0 then
        o := o ++ b.extract j (j + k); j := j + k
        if j == b.size then return dn o i j
      o := o.push (← elem' a i); i := i + 1
      if i + 1 == a.size then return la o i j
      if ac < 7 && bc < 7 then break
    mg := mg + 1
    modify fun st => setG st mg
  unsupported "internal:list.sort.merge-bound") := rfl

def leK (f : Keyed → Int) (x y : Keyed) : Prop := f x ≤ f y
/-- merged so far: o, of the one i, of the other j -/
structure Jm (f : Keyed → Int) (as bs o : List Keyed) (i j : Nat) : Prop where
  perm : o.Perm (as.take i ++ bs.take j)
  sa : (o ++ as.drop i).Pairwise (leK f)
  sb : (o ++ bs.drop j).Pairwise (leK f)
def Good (f : Keyed → Int) (as bs r : List Keyed) : Prop := r.Perm (as ++ bs) ∧ r.Pairwise (leK f)
theorem take_more (as : List Keyed) (i k : Nat) : as.take (i + k) = as.take i ++ (as.drop i).take k := List.take_add
theorem drop_more (as : List Keyed) (i k : Nat) : as.drop i = (as.drop i).take k ++ as.drop (i + k) := by rw [← List.drop_drop, List.take_append_drop]
section
variable {f : Keyed → Int} {as bs o : List Keyed} {i j : Nat}
theorem Jm.swap (h : Jm f as bs o i j) : Jm f bs as o j i := ⟨h.perm.trans List.perm_append_comm, h.sb, h.sa⟩
theorem Jm.chunk (h : Jm f as bs o i j) (k : Nat) (hc : ∀ x ∈ (as.drop i).take k, ∀ y ∈ bs.drop j, f x ≤ f y) : Jm f as bs (o ++ (as.drop i).take k) (i + k) j := by
  have sa := h.sa
  rw [drop_more as i k, ← List.append_assoc] at sa
  refine ⟨?_, sa, ?_⟩
  · rw [take_more]
    refine (List.Perm.append_right _ h.perm).trans ?_
    rw [List.append_assoc, List.append_assoc]
    exact List.Perm.append_left _ List.perm_append_comm
  · obtain ⟨p1, p2, p3⟩ := List.pairwise_append.mp h.sb
    obtain ⟨q1, q2, q3⟩ := List.pairwise_append.mp sa
    refine List.pairwise_append.mpr ⟨q1, p2, fun x hx y hy => ?_⟩
    rcases List.mem_append.mp hx with z | z
    · exact p3 x z y hy
    · exact hc x z y hy
theorem Jm.dn (h : Jm f as bs o i j) (e : as.drop i = [] ∨ bs.drop j = []) : Good f as bs (o ++ as.drop i ++ bs.drop j) := by
  refine ⟨?_, ?_⟩
  · have p : (o ++ as.drop i ++ bs.drop j).Perm ((as.take i ++ bs.take j) ++ as.drop i ++ bs.drop j) := List.Perm.append_right _ (List.Perm.append_right _ h.perm)
    refine p.trans ?_
    have e1 : (as.take i ++ bs.take j ++ as.drop i ++ bs.drop j).Perm (as.take i ++ as.drop i ++ (bs.take j ++ bs.drop j)) := by
      rw [List.append_assoc, List.append_assoc, List.append_assoc]
      refine List.Perm.append_left _ ?_
      rw [← List.append_assoc, ← List.append_assoc]
      exact List.Perm.append_right _ List.perm_append_comm
    rw [List.take_append_drop, List.take_append_drop] at e1
    exact e1
  · rcases e with e | e
    · rw [e, List.append_nil]; exact h.sb
    · rw [e, List.append_nil]; exact h.sa
theorem Jm.la (h : Jm f as bs o i j) (hl : ∀ x ∈ as.drop i, ∀ y ∈ bs.drop j, f y ≤ f x) : Good f as bs (o ++ bs.drop j ++ as.drop i) := by
  have c := h.swap.chunk (bs.length - j) (fun x hx y hy => hl y hy x (List.mem_of_mem_take hx))
  rw [List.take_of_length_le (by rw [List.length_drop]; exact Nat.le_refl _)] at c
  have g := c.dn (.inl (List.drop_eq_nil_of_le (by omega)))
  rw [List.drop_eq_nil_of_le (as := bs) (i := j + (bs.length - j)) (by omega), List.append_nil] at g
  exact ⟨g.1.trans List.perm_append_comm, g.2⟩
end
theorem ext_end (a : Array Keyed) (i : Nat) : (a.extract i a.size).toList = a.toList.drop i := by
  rw [Array.toList_extract, List.extract_eq_drop_take]
  exact List.take_of_length_le (by rw [List.length_drop]; simp)
theorem ext_mid (a : Array Keyed) (i k : Nat) : (a.extract i (i + k)).toList = (a.toList.drop i).take k := by
  rw [Array.toList_extract, List.extract_eq_drop_take, show i + k - i = k by omega]
theorem one_of {a : Array Keyed} {i : Nat} {x : Keyed} (h : a[i]? = some x) : (a.toList.drop i).take 1 = [x] := by
  have hi : i < a.toList.length := by
    rw [Array.length_toList]
    exact (Array.getElem?_eq_some_iff.mp h).1
  rw [List.drop_eq_getElem_cons hi]
  have : a.toList[i] = x := by
    rw [Array.getElem?_eq_some_iff] at h
    obtain ⟨_, e⟩ := h
    simpa using e
  rw [this]
  simp
/-- the same state but for the gallop's number -/
structure Ev (st st' : SortSt) : Prop where
  k : kindOf st' = kindOf st
  a : arrOf st' = arrOf st
  p : pendingOf st' = pendingOf st
  f : failedOf st' = failedOf st
theorem Ev.refl {st : SortSt} : Ev st st := ⟨rfl, rfl, rfl, rfl⟩
theorem Ev.setG {st st' : SortSt} (h : Ev st st') (g : Nat) : Ev st (setG st' g) := ⟨h.k, h.a, h.p, h.f⟩
section
variable {M : Model} {A : Around} {E : Value → Shared → Prop} {s : Shared} {κ : SortKind} {a₀ : Array Keyed} {f : Keyed → Int}
theorem elem_at {a : Array Keyed} {i : Nat} {x : Keyed} {st : SortSt} {Q : Keyed → SortSt → Prop} (h : a[i]? = some x) (q : Q x st) : wpS M A E s (elem' a i) Q st := by
  rw [elem'_eq, h]
  exact wpS_pure q
def InA (a₀ a : Array Keyed) : Prop := ∀ x ∈ a.toList, x ∈ a₀.toList
theorem InA.get {a : Array Keyed} (h : InA a₀ a) {i : Nat} {x : Keyed} (e : a[i]? = some x) : x ∈ a₀.toList := h x (by rw [Array.getElem?_eq_some_iff] at e; obtain ⟨_, rfl⟩ := e; simp)
theorem kn_at {a : Array Keyed} {i : Nat} {x : Keyed} (e : a[i]? = some x) : kn f a i = f x := by unfold kn; rw [e]; rfl
theorem at_of {a : Array Keyed} {i : Nat} (h : i < a.size) : ∃ x, a[i]? = some x := ⟨_, getElem?_pos a i h⟩
theorem past_at {left : Bool} {key x : Keyed} {arr : Array Keyed} {base i : Nat} {st : SortSt} {Q : Option Bool → SortSt → Prop} (L : Asks M A E s κ a₀ f) (hk : kindOf st = κ) (hx : arr[base + i]? = some x) (h1 : x ∈ a₀.toList) (h2 : key ∈ a₀.toList)
    (q : Q (some (if left = true then decide (f x < f key) else !decide (f key < f x))) st) : wpS M A E s (past left key arr base i) Q st := by
  unfold past
  refine wpS_bind (elem_at hx ?_)
  cases left with
  | true => exact L.lt x key h1 h2 st _ hk q
  | false =>
    refine wpS_bind (L.lt key x h2 h1 st _ hk ?_)
    exact wpS_pure q
theorem gal_no {key : Keyed} {arr : Array Keyed} {base n hint : Nat} {st : SortSt} {Q : Option Nat → SortSt → Prop} (L : Asks M A E s κ a₀ f) (hk : kindOf st = κ) (hi : InA a₀ arr) (hkey : key ∈ a₀.toList) (hh : hint < n) (hs : base + n ≤ arr.size) (hu : Up f arr base n)
    (h : ∀ k, k ≤ n → (∀ i, i < k → kn f arr (base + i) ≤ f key) → (∀ i, k ≤ i → i < n → f key < kn f arr (base + i)) → Q (some k) st) : wpS M A E s (gal false key arr base n hint) Q st := by
  refine gal_ok (fun i => !decide (f key < kn f arr (base + i))) hh (fun i hin Q q => ?_) (fun i j z1 z2 z3 => ?_) fun k k1 k2 k3 => h k k1 (fun i z => ?_) fun i z1 z2 => ?_
  · obtain ⟨x, hx⟩ := at_of (a := arr) (i := base + i) (by omega)
    refine past_at L hk hx (hi.get hx) hkey ?_
    rw [kn_at hx] at q
    exact q
  · have := hu (base + i) (base + j) (by omega) (by omega) (by omega)
    simp at z3 ⊢
    omega
  · have := k2 i z
    simp at this
    exact this
  · have := k3 i z1 z2
    simp at this
    exact this
theorem gal_yes {key : Keyed} {arr : Array Keyed} {base n hint : Nat} {st : SortSt} {Q : Option Nat → SortSt → Prop} (L : Asks M A E s κ a₀ f) (hk : kindOf st = κ) (hi : InA a₀ arr) (hkey : key ∈ a₀.toList) (hh : hint < n) (hs : base + n ≤ arr.size) (hu : Up f arr base n)
    (h : ∀ k, k ≤ n → (∀ i, i < k → kn f arr (base + i) < f key) → (∀ i, k ≤ i → i < n → f key ≤ kn f arr (base + i)) → Q (some k) st) : wpS M A E s (gal true key arr base n hint) Q st := by
  refine gal_ok (fun i => decide (kn f arr (base + i) < f key)) hh (fun i hin Q q => ?_) (fun i j z1 z2 z3 => ?_) fun k k1 k2 k3 => h k k1 (fun i z => ?_) fun i z1 z2 => ?_
  · obtain ⟨x, hx⟩ := at_of (a := arr) (i := base + i) (by omega)
    refine past_at L hk hx (hi.get hx) hkey ?_
    rw [kn_at hx] at q
    exact q
  · have := hu (base + i) (base + j) (by omega) (by omega) (by omega)
    simp at z3 ⊢
    omega
  · have := k2 i z
    simp at this
    exact this
  · have := k3 i z1 z2
    simp at this
    exact this
theorem mem_drop {a : Array Keyed} {i : Nat} {x : Keyed} (h : x ∈ a.toList.drop i) : ∃ k, i ≤ k ∧ k < a.size ∧ kn f a k = f x ∧ a[k]? = some x := by
  obtain ⟨n, hn⟩ := List.getElem?_of_mem h
  rw [List.getElem?_drop] at hn
  rw [Array.getElem?_toList] at hn
  exact ⟨i + n, by omega, (Array.getElem?_eq_some_iff.mp hn).1, kn_at hn, hn⟩
theorem mem_take {a : Array Keyed} {i k : Nat} {x : Keyed} (h : x ∈ (a.toList.drop i).take k) : ∃ n, i ≤ n ∧ n < i + k ∧ n < a.size ∧ kn f a n = f x := by
  obtain ⟨n, hn⟩ := List.getElem?_of_mem h
  have hl := (List.getElem?_eq_some_iff.mp hn).1
  rw [List.length_take] at hl
  rw [List.getElem?_take_of_lt (by omega), List.getElem?_drop, Array.getElem?_toList] at hn
  exact ⟨i + n, by omega, by omega, (Array.getElem?_eq_some_iff.mp hn).1, kn_at hn⟩
/-- the two that are merged -/
structure Two (a₀ : Array Keyed) (f : Keyed → Int) (a b : Array Keyed) : Prop where
  ia : InA a₀ a
  ib : InA a₀ b
  ua : Up f a 0 a.size
  ub : Up f b 0 b.size
  na : 1 ≤ a.size
  nb : 1 ≤ b.size
  lo : ∀ i, i < a.size → kn f b 0 ≤ kn f a i
  hi : ∀ j, j < b.size → kn f b j ≤ kn f a (a.size - 1)
end
end L2S

set_option linter.all false
set_option maxRecDepth 100000
set_option maxHeartbeats 4000000
namespace L2S
open PySem PyProof.Rows
abbrev C5 := Option (Array Keyed) × Array Keyed × Nat × Nat × Nat
abbrev C6 := Option (Array Keyed) × Array Keyed × Nat × Nat × Nat × Nat
abbrev C7 := Option (Array Keyed) × Array Keyed × Nat × Nat × Nat × Nat × Nat
abbrev SM (α : Type) := StateT SortSt Sem α
abbrev dnA (a b o : Array Keyed) (i j : Nat) : Array Keyed := o ++ a.extract i a.size ++ b.extract j b.size
abbrev laA (a b o : Array Keyed) (i j : Nat) : Array Keyed := o ++ b.extract j b.size ++ a.extract i a.size
def lo1 (a b : Array Keyed) (mg : Nat) (c : C6) : SM (ForInStep C6) := do
  let y ← elem' b c.2.2.2.1
  let x ← elem' a c.2.2.1
  let r ← lt' y x
  match r with
  | some w =>
    if w = true then do
      let y ← elem' b c.2.2.2.1
      if (c.2.2.2.1 + 1 == b.size) = true then pure (.done (some (dnA a b (c.2.1.push y) c.2.2.1 (c.2.2.2.1 + 1)), c.2.1.push y, c.2.2.1, c.2.2.2.1 + 1, 0, c.2.2.2.2.2 + 1))
      else if c.2.2.2.2.2 + 1 ≥ mg then pure (.done (none, c.2.1.push y, c.2.2.1, c.2.2.2.1 + 1, 0, c.2.2.2.2.2 + 1))
      else pure (.yield (none, c.2.1.push y, c.2.2.1, c.2.2.2.1 + 1, 0, c.2.2.2.2.2 + 1))
    else do
      let x ← elem' a c.2.2.1
      if (c.2.2.1 + 1 + 1 == a.size) = true then pure (.done (some (laA a b (c.2.1.push x) (c.2.2.1 + 1) c.2.2.2.1), c.2.1.push x, c.2.2.1 + 1, c.2.2.2.1, c.2.2.2.2.1 + 1, 0))
      else if c.2.2.2.2.1 + 1 ≥ mg then pure (.done (none, c.2.1.push x, c.2.2.1 + 1, c.2.2.2.1, c.2.2.2.2.1 + 1, 0))
      else pure (.yield (none, c.2.1.push x, c.2.2.1 + 1, c.2.2.2.1, c.2.2.2.2.1 + 1, 0))
  | _ => pure (.done (some (dnA a b c.2.1 c.2.2.1 c.2.2.2.1), c.2.1, c.2.2.1, c.2.2.2.1, c.2.2.2.2.1, c.2.2.2.2.2))
def lo4 (a b : Array Keyed) (g ac bc : Nat) (o : Array Keyed) (i j : Nat) : SM (ForInStep C7) := do
  let x ← elem' a i
  if (i + 1 + 1 == a.size) = true then pure (.done (some (laA a b (o.push x) (i + 1) j), o.push x, i + 1, j, g, ac, bc))
  else if (decide (ac < 7) && decide (bc < 7)) = true then pure (.done (none, o.push x, i + 1, j, g, ac, bc))
  else pure (.yield (none, o.push x, i + 1, j, g, ac, bc))
def lo3 (a b : Array Keyed) (g ac bc : Nat) (o : Array Keyed) (i j : Nat) : SM (ForInStep C7) := do
  let y ← elem' b j
  if (j + 1 == b.size) = true then pure (.done (some (dnA a b (o.push y) i (j + 1)), o.push y, i, j + 1, g, ac, bc))
  else do
    let x ← elem' a i
    let r ← gal true x b (j + 1) (b.size - (j + 1)) 0
    match r with
    | some k =>
      if k > 0 then
        if (j + 1 + k == b.size) = true then pure (.done (some (dnA a b (o.push y ++ b.extract (j + 1) (j + 1 + k)) i (j + 1 + k)), o.push y ++ b.extract (j + 1) (j + 1 + k), i, j + 1 + k, g, ac, k))
        else lo4 a b g ac k (o.push y ++ b.extract (j + 1) (j + 1 + k)) i (j + 1 + k)
      else lo4 a b g ac k (o.push y) i (j + 1)
    | _ => pure (.done (some (dnA a b (o.push y) i (j + 1)), o.push y, i, j + 1, g, ac, bc))
def lo2 (a b : Array Keyed) (g ac bc : Nat) (o : Array Keyed) (i j : Nat) : SM (ForInStep C7) := do
  modify fun st => setG st g
  let y ← elem' b j
  let r ← gal false y a i (a.size - i) 0
  match r with
  | some k =>
    if k > 0 then
      if (i + k + 1 == a.size) = true then pure (.done (some (laA a b (o ++ a.extract i (i + k)) (i + k) j), o ++ a.extract i (i + k), i + k, j, g, k, bc))
      else if (i + k == a.size) = true then pure (.done (some (dnA a b (o ++ a.extract i (i + k)) (i + k) j), o ++ a.extract i (i + k), i + k, j, g, k, bc))
      else lo3 a b g k bc (o ++ a.extract i (i + k)) (i + k) j
    else lo3 a b g k bc o i j
  | _ => pure (.done (some (dnA a b o i j), o, i, j, g, ac, bc))
def loB (a b : Array Keyed) (c : C7) : SM (ForInStep C7) :=
  if c.2.2.2.2.1 > 1 then lo2 a b (c.2.2.2.2.1 - 1) c.2.2.2.2.2.1 c.2.2.2.2.2.2 c.2.1 c.2.2.1 c.2.2.2.1
  else lo2 a b c.2.2.2.2.1 c.2.2.2.2.2.1 c.2.2.2.2.2.2 c.2.1 c.2.2.1 c.2.2.2.1
def loO (a b : Array Keyed) (c : C5) : SM (ForInStep C5) := do
  let c1 ← forIn [0:a.size + b.size] ((none, c.2.1, c.2.2.1, c.2.2.2.1, 0, 0) : C6) fun _ d => lo1 a b c.2.2.2.2 d
  match c1.1 with
  | some r => pure (.done (some r, c1.2.1, c1.2.2.1, c1.2.2.2.1, c.2.2.2.2))
  | none => do
    liftM (rule "list.sort.gallop")
    let c2 ← forIn [0:a.size + b.size] ((none, c1.2.1, c1.2.2.1, c1.2.2.2.1, c.2.2.2.2 + 1, c1.2.2.2.2.1, c1.2.2.2.2.2) : C7) fun _ d => loB a b d
    match c2.1 with
    | some r => pure (.done (some r, c2.2.1, c2.2.2.1, c2.2.2.2.1, c2.2.2.2.2.1))
    | none => do
      modify fun st => setG st (c2.2.2.2.2.1 + 1)
      pure (.yield (none, c2.2.1, c2.2.2.1, c2.2.2.2.1, c2.2.2.2.2.1 + 1))
theorem bnd2 {α β : Type} {m m' : StateT SortSt Sem α} {g h : α → StateT SortSt Sem β} (e0 : m = m') (e : ∀ a, g a = h a) : (m >>= g) = (m' >>= h) := by rw [e0, show g = h from funext e]
theorem for2 {β : Type} {r : Std.Legacy.Range} {c : β} {g h : Nat → β → StateT SortSt Sem (ForInStep β)} (e : ∀ x c, g x c = h x c) : forIn r c g = forIn r c h := by rw [show g = h from funext fun x => funext (e x)]
theorem if2 {α : Type} {c : Prop} [Decidable c] {x y x' y' : α} (e1 : x = x') (e2 : y = y') : (if c then x else y) = (if c then x' else y') := by rw [e1, e2]
theorem mLo_low (a b : Array Keyed) : mLo a b = (do
  liftM (rule "list.sort.merge-lo")
  let y ← elem' b 0
  if (1 == b.size) = true then pure (dnA a b #[y] 0 1)
  else if (0 + 1 == a.size) = true then pure (laA a b #[y] 0 1)
  else do
    let st ← get
    let c ← forIn [0:a.size + b.size] ((none, #[y], 0, 1, gallopOf st) : C5) fun _ d => loO a b d
    match c.1 with
    | some r => pure r
    | none => liftM (unsupported "internal:list.sort.merge-bound" : Sem (Array Keyed))) := by
  rw [mLo_eq]
  refine bnd _ fun _ => bnd _ fun y => ?_
  refine if2 rfl (if2 rfl ?_)
  refine bnd _ fun st => bnd2 (for2 fun _ c => ?_) fun c => ?_
  · unfold loO
    refine bnd2 (for2 fun _ d => ?_) fun c1 => ?_
    · rfl
    · obtain ⟨r, o, i, j, ac, bc⟩ := c1
      cases r with
      | some r => rfl
      | none =>
        refine bnd2 rfl fun _ => bnd2 (for2 fun _ d => ?_) fun c2 => ?_
        · unfold loB
          refine if2 ?_ ?_
          all_goals
            unfold lo2
            refine bnd2 rfl fun _ => bnd2 rfl fun y => bnd2 rfl fun r => ?_
            cases r with
            | none => rfl
            | some k =>
              refine if2 (if2 rfl (if2 rfl ?_)) ?_
              all_goals
                unfold lo3
                refine bnd2 rfl fun y2 => if2 rfl (bnd2 rfl fun x2 => bnd2 rfl fun r2 => ?_)
                cases r2 with
                | none => rfl
                | some k2 =>
                  refine if2 (if2 rfl ?_) ?_
                  all_goals
                    unfold lo4
                    refine bnd2 rfl fun x3 => if2 rfl (if2 rfl rfl)
        · obtain ⟨r, o, i, j, g, ac, bc⟩ := c2
          cases r with
          | some r => rfl
          | none => rfl
  · obtain ⟨r, o, i, j, g⟩ := c
    cases r with
    | some r => rfl
    | none => rfl
end L2S

set_option linter.all false
set_option maxRecDepth 100000
set_option maxHeartbeats 4000000
namespace L2S
open PySem PyProof.Rows
section
variable {M : Model} {A : Around} {E : Value → Shared → Prop} {s : Shared} {κ : SortKind} {a₀ : Array Keyed} {f : Keyed → Int} {a b o : Array Keyed} {i j : Nat}
theorem up_pw {a : Array Keyed} (h : Up f a 0 a.size) : a.toList.Pairwise (leK f) := by
  rw [List.pairwise_iff_getElem]
  intro i j hi hj hij
  rw [Array.length_toList] at hi hj
  have := h i j (Nat.zero_le _) (Nat.le_of_lt hij) (by omega)
  rw [kn_at (getElem?_pos a i hi), kn_at (getElem?_pos a j hj)] at this
  simpa [leK] using this
abbrev JA (f : Keyed → Int) (a b o : Array Keyed) (i j : Nat) : Prop := Jm f a.toList b.toList o.toList i j
abbrev Fin (f : Keyed → Int) (a b r : Array Keyed) : Prop := Good f a.toList b.toList r.toList
theorem JA.dn (h : JA f a b o i j) (e : a.size ≤ i ∨ b.size ≤ j) : Fin f a b (dnA a b o i j) := by
  have g := Jm.dn h (e.imp (fun z => List.drop_eq_nil_of_le (by rw [Array.length_toList]; exact z)) (fun z => List.drop_eq_nil_of_le (by rw [Array.length_toList]; exact z)))
  unfold Fin dnA
  rw [Array.toList_append, Array.toList_append, ext_end, ext_end]
  exact g
theorem JA.la (h : JA f a b o i j) (T : Two a₀ f a b) (e : i + 1 = a.size) : Fin f a b (laA a b o i j) := by
  have g := Jm.la h fun x hx y hy => by
    obtain ⟨k, k1, k2, k3, _⟩ := mem_drop (f := f) hx
    obtain ⟨n, n1, n2, n3, _⟩ := mem_drop (f := f) hy
    have := T.hi n n2
    rw [show a.size - 1 = k by omega, k3, n3] at this
    exact this
  unfold Fin laA
  rw [Array.toList_append, Array.toList_append, ext_end, ext_end]
  exact g
theorem JA.pushA {x : Keyed} (h : JA f a b o i j) (hx : a[i]? = some x) (hc : ∀ n, j ≤ n → n < b.size → f x ≤ kn f b n) : JA f a b (o.push x) (i + 1) j := by
  have g := Jm.chunk h 1 fun u hu y hy => by
    rw [one_of hx, List.mem_singleton] at hu
    obtain ⟨n, n1, n2, n3, _⟩ := mem_drop (f := f) hy
    rw [hu, ← n3]
    exact hc n n1 n2
  rw [one_of hx] at g
  unfold JA
  rw [Array.toList_push]
  exact g
theorem JA.pushB {x : Keyed} (h : JA f a b o i j) (hx : b[j]? = some x) (hc : ∀ n, i ≤ n → n < a.size → f x ≤ kn f a n) : JA f a b (o.push x) i (j + 1) :=
  (JA.pushA (Jm.swap h) hx hc).swap
theorem JA.chunkA (h : JA f a b o i j) (k : Nat) (hc : ∀ n m, i ≤ n → n < i + k → n < a.size → j ≤ m → m < b.size → kn f a n ≤ kn f b m) : JA f a b (o ++ a.extract i (i + k)) (i + k) j := by
  have g := Jm.chunk h k fun u hu y hy => by
    obtain ⟨n, n1, n2, n3, n4⟩ := mem_take (f := f) hu
    obtain ⟨m, m1, m2, m3, _⟩ := mem_drop (f := f) hy
    rw [← n4, ← m3]
    exact hc n m n1 n2 n3 m1 m2
  unfold JA
  rw [Array.toList_append, ext_mid]
  exact g
theorem JA.chunkB (h : JA f a b o i j) (k : Nat) (hc : ∀ n m, j ≤ n → n < j + k → n < b.size → i ≤ m → m < a.size → kn f b n ≤ kn f a m) : JA f a b (o ++ b.extract j (j + k)) i (j + k) :=
  (JA.chunkA (Jm.swap h) k hc).swap
theorem Up.sub {xs : Array Keyed} {n : Nat} (h : Up f xs 0 n) {lo m : Nat} (e : lo + m ≤ n) : Up f xs lo m := fun i j z1 z2 z3 => h i j (Nat.zero_le _) z2 (by omega)
def R7 (f : Keyed → Int) (a b : Array Keyed) (st : SortSt) (x : Nat) : ForInStep C7 → SortSt → Prop
  | .done c, st' => Ev st st' ∧ ((∃ r z, c = (some r, z) ∧ Fin f a b r) ∨ ∃ o i j g ac bc, c = (none, o, i, j, g, ac, bc) ∧ JA f a b o i j ∧ i + 1 < a.size ∧ j < b.size ∧ x + 2 ≤ i + j)
  | .yield c, st' => Ev st st' ∧ ∃ o i j g ac bc, c = (none, o, i, j, g, ac, bc) ∧ JA f a b o i j ∧ i + 1 < a.size ∧ j < b.size ∧ x + 2 ≤ i + j
theorem mLo_ok {st : SortSt} {Q : Array Keyed → SortSt → Prop} (L : Asks M A E s κ a₀ f) (hk : kindOf st = κ) (T : Two a₀ f a b) (h : ∀ r st', Ev st st' → Fin f a b r → Q r st') : wpS M A E s (mLo a b) Q st := by
  have ta := T.na
  have tb := T.nb
  have ua : ∀ n m, n ≤ m → m < a.size → kn f a n ≤ kn f a m := fun n m z1 z2 => T.ua n m (Nat.zero_le _) z1 (by omega)
  have ub : ∀ n m, n ≤ m → m < b.size → kn f b n ≤ kn f b m := fun n m z1 z2 => T.ub n m (Nat.zero_le _) z1 (by omega)
  rw [mLo_low]
  refine wpS_bind (wpS_lift (wpAny_rule ⟨rfl, ?_⟩))
  obtain ⟨y0, hy0⟩ := at_of (a := b) (i := 0) (by omega)
  refine wpS_bind (elem_at hy0 ?_)
  have J0 : JA f a b #[y0] 0 1 := by
    have e : JA f a b #[] 0 0 := ⟨by simp, by simpa using up_pw T.ua, by simpa using up_pw T.ub⟩
    have := JA.pushB e hy0 fun n _ n2 => by rw [← kn_at (f := f) hy0]; exact T.lo n n2
    exact this
  by_cases c1 : 1 = b.size
  · rw [if_pos (by simpa using c1)]
    exact wpS_pure (h _ st .refl (J0.dn (.inr (by omega))))
  rw [if_neg (by simpa using c1)]
  by_cases c2 : 0 + 1 = a.size
  · rw [if_pos (by simpa using c2)]
    exact wpS_pure (h _ st .refl (J0.la T c2))
  rw [if_neg (by simpa using c2)]
  refine wpS_bind (wpS_get ?_)
  refine wpS_bind (wpS_mono (wpS_forRange (I := fun x c st' => Ev st st' ∧ ∃ o i j g, c = (none, o, i, j, g) ∧ JA f a b o i j ∧ i + 1 < a.size ∧ j < b.size ∧ x + 1 ≤ i + j) (Q := fun c st' => Ev st st' ∧ ∃ r z, c = (some r, z) ∧ Fin f a b r) ?_ ?_ ⟨.refl, _, 0, 1, _, rfl, J0, by omega, by omega, by omega⟩) ?_)
  · rintro x c st1 _ hx ⟨e1, o, i, j, g, rfl, J, hi, hj, hp⟩
    unfold loO
    dsimp only
    refine wpS_bind (wpS_mono (wpS_forRange (I := fun y c st' => Ev st st' ∧ ∃ o i j ac bc, c = (none, o, i, j, ac, bc) ∧ JA f a b o i j ∧ i + 1 < a.size ∧ j < b.size ∧ x + 1 + y ≤ i + j)
      (Q := fun c st' => Ev st st' ∧ ((∃ r z, c = (some r, z) ∧ Fin f a b r) ∨ ∃ o i j ac bc, c = (none, o, i, j, ac, bc) ∧ JA f a b o i j ∧ i + 1 < a.size ∧ j < b.size ∧ x + 2 ≤ i + j)) ?_ ?_ ⟨e1, o, i, j, 0, 0, rfl, J, hi, hj, by omega⟩) ?_)
    · rintro y c st2 _ hy ⟨e2, o, i, j, ac, bc, rfl, J, hi, hj, hp⟩
      unfold lo1
      dsimp only
      obtain ⟨yb, hyb⟩ := at_of (a := b) hj
      obtain ⟨xa, hxa⟩ := at_of (a := a) (i := i) (by omega)
      refine wpS_bind (elem_at hyb ?_)
      refine wpS_bind (elem_at hxa ?_)
      refine wpS_bind (L.lt yb xa (T.ib.get hyb) (T.ia.get hxa) st2 _ (e2.k.trans hk) ?_)
      by_cases hw : f yb < f xa
      · rw [decide_eq_true hw]
        dsimp only
        rw [if_pos rfl]
        refine wpS_bind (elem_at hyb ?_)
        have J2 := J.pushB hyb fun n n1 n2 => by
          have := ua i n n1 n2
          rw [kn_at hxa] at this
          omega
        by_cases c3 : j + 1 = b.size
        · rw [if_pos (by simpa using c3)]
          exact wpS_pure ⟨e2, .inl ⟨_, _, rfl, J2.dn (.inr (by omega))⟩⟩
        rw [if_neg (by simpa using c3)]
        split
        · exact wpS_pure ⟨e2, .inr ⟨_, _, _, _, _, rfl, J2, hi, by omega, by omega⟩⟩
        · exact wpS_pure ⟨e2, _, _, _, _, _, rfl, J2, hi, by omega, by omega⟩
      · rw [decide_eq_false hw]
        dsimp only
        rw [if_neg (by decide)]
        refine wpS_bind (elem_at hxa ?_)
        have J2 := J.pushA hxa fun n n1 n2 => by
          have := ub j n n1 n2
          rw [kn_at hyb] at this
          omega
        by_cases c3 : i + 1 + 1 = a.size
        · rw [if_pos (by simpa using c3)]
          exact wpS_pure ⟨e2, .inl ⟨_, _, rfl, J2.la T c3⟩⟩
        rw [if_neg (by simpa using c3)]
        split
        · exact wpS_pure ⟨e2, .inr ⟨_, _, _, _, _, rfl, J2, by omega, hj, by omega⟩⟩
        · exact wpS_pure ⟨e2, _, _, _, _, _, rfl, J2, by omega, hj, by omega⟩
    · rintro c st2 ⟨e2, o, i, j, ac, bc, rfl, J, hi, hj, hp⟩
      exact ⟨e2, .inr ⟨_, _, _, _, _, rfl, J, hi, hj, by omega⟩⟩
    · rintro c st2 ⟨e2, ⟨r, z, rfl, hr⟩ | ⟨o, i, j, ac, bc, rfl, J, hi, hj, hp⟩⟩
      · exact wpS_pure ⟨e2, r, _, rfl, hr⟩
      dsimp only
      refine wpS_bind (wpS_lift (wpAny_rule ⟨rfl, ?_⟩))
      refine wpS_bind (wpS_mono (wpS_forRange (I := fun y c st' => Ev st st' ∧ ∃ o i j g ac bc, c = (none, o, i, j, g, ac, bc) ∧ JA f a b o i j ∧ i + 1 < a.size ∧ j < b.size ∧ x + 2 ≤ i + j)
        (Q := fun c st' => Ev st st' ∧ ((∃ r z, c = (some r, z) ∧ Fin f a b r) ∨ ∃ o i j g ac bc, c = (none, o, i, j, g, ac, bc) ∧ JA f a b o i j ∧ i + 1 < a.size ∧ j < b.size ∧ x + 2 ≤ i + j)) ?_ ?_ ⟨e2, o, i, j, _, ac, bc, rfl, J, hi, hj, hp⟩) ?_)
      · rintro y c st3 _ hy ⟨e3, o, i, j, g, ac, bc, rfl, J, hi, hj, hp⟩
        have four : ∀ (g ac bc : Nat) (o : Array Keyed) (i j : Nat) (st4 : SortSt) (xa : Keyed), Ev st st4 → JA f a b o i j → i + 1 < a.size → j < b.size → x + 2 ≤ i + j → a[i]? = some xa → (∀ n, j ≤ n → n < b.size → f xa ≤ kn f b n) →
            wpS M A E s (lo4 a b g ac bc o i j) (R7 f a b st x) st4 := by
          intro g ac bc o i j st4 xa e4 J hi hj hp hxa hle
          unfold lo4
          refine wpS_bind (elem_at hxa ?_)
          have J2 := J.pushA hxa hle
          by_cases c3 : i + 1 + 1 = a.size
          · rw [if_pos (by simpa using c3)]
            exact wpS_pure ⟨e4, .inl ⟨_, _, rfl, J2.la T c3⟩⟩
          rw [if_neg (by simpa using c3)]
          split
          · exact wpS_pure ⟨e4, .inr ⟨_, _, _, _, _, _, rfl, J2, by omega, hj, by omega⟩⟩
          · exact wpS_pure ⟨e4, _, _, _, _, _, _, rfl, J2, by omega, hj, by omega⟩
        have three : ∀ (g ac bc : Nat) (o : Array Keyed) (i j : Nat) (st4 : SortSt) (yb : Keyed), Ev st st4 → JA f a b o i j → i + 1 < a.size → j < b.size → x + 2 ≤ i + j → b[j]? = some yb → (∀ n, i ≤ n → n < a.size → f yb ≤ kn f a n) →
            wpS M A E s (lo3 a b g ac bc o i j) (R7 f a b st x) st4 := by
          intro g ac bc o i j st4 yb e4 J hi hj hp hyb hle
          unfold lo3
          refine wpS_bind (elem_at hyb ?_)
          have J2 := J.pushB hyb hle
          by_cases c3 : j + 1 = b.size
          · rw [if_pos (by simpa using c3)]
            exact wpS_pure ⟨e4, .inl ⟨_, _, rfl, J2.dn (.inr (by omega))⟩⟩
          rw [if_neg (by simpa using c3)]
          obtain ⟨xa, hxa⟩ := at_of (a := a) (i := i) (by omega)
          refine wpS_bind (elem_at hxa ?_)
          refine wpS_bind (gal_yes L (e4.k.trans hk) T.ib (T.ia.get hxa) (by omega) (by omega) (T.ub.sub (by omega)) fun k k1 k2 k3 => ?_)
          dsimp only
          have rest : ∀ n, j + 1 + k ≤ n → n < b.size → f xa ≤ kn f b n := fun n n1 n2 => by
            have := k3 (n - (j + 1)) (by omega) (by omega)
            rw [show j + 1 + (n - (j + 1)) = n by omega] at this
            exact this
          by_cases hk0 : k > 0
          · rw [if_pos hk0]
            have J3 := J2.chunkB k fun n m n1 n2 n3 m1 m2 => by
              have z := k2 (n - (j + 1)) (by omega)
              rw [show j + 1 + (n - (j + 1)) = n by omega] at z
              have z2 := ua i m m1 m2
              rw [kn_at hxa] at z2
              omega
            by_cases c4 : j + 1 + k = b.size
            · rw [if_pos (by simpa using c4)]
              exact wpS_pure ⟨e4, .inl ⟨_, _, rfl, J3.dn (.inr (by omega))⟩⟩
            rw [if_neg (by simpa using c4)]
            exact four _ _ _ _ _ _ _ xa e4 J3 hi (by omega) (by omega) hxa rest
          · rw [if_neg hk0]
            have : k = 0 := by omega
            subst this
            exact four _ _ _ _ _ _ _ xa e4 J2 hi (by omega) (by omega) hxa rest
        have two : ∀ (g ac bc : Nat), wpS M A E s (lo2 a b g ac bc o i j) (R7 f a b st x) st3 := by
          intro g ac bc
          unfold lo2
          obtain ⟨yb, hyb⟩ := at_of (a := b) hj
          refine wpS_bind (wpS_modify ?_)
          have e4 := e3.setG g
          refine wpS_bind (elem_at hyb ?_)
          refine wpS_bind (gal_no L (e4.k.trans hk) T.ia (T.ib.get hyb) (by omega) (by omega) (T.ua.sub (by omega)) fun k k1 k2 k3 => ?_)
          dsimp only
          have rest : ∀ n, i + k ≤ n → n < a.size → f yb ≤ kn f a n := fun n n1 n2 => by
            have := k3 (n - i) (by omega) (by omega)
            rw [show i + (n - i) = n by omega] at this
            omega
          by_cases hk0 : k > 0
          · rw [if_pos hk0]
            have J3 := J.chunkA k fun n m n1 n2 n3 m1 m2 => by
              have z := k2 (n - i) (by omega)
              rw [show i + (n - i) = n by omega] at z
              have z2 := ub j m m1 m2
              rw [kn_at hyb] at z2
              omega
            by_cases c4 : i + k + 1 = a.size
            · rw [if_pos (by simpa using c4)]
              exact wpS_pure ⟨e4, .inl ⟨_, _, rfl, J3.la T c4⟩⟩
            rw [if_neg (by simpa using c4)]
            by_cases c5 : i + k = a.size
            · rw [if_pos (by simpa using c5)]
              exact wpS_pure ⟨e4, .inl ⟨_, _, rfl, J3.dn (.inl (by omega))⟩⟩
            rw [if_neg (by simpa using c5)]
            exact three _ _ _ _ _ _ _ yb e4 J3 (by omega) hj (by omega) hyb rest
          · rw [if_neg hk0]
            have : k = 0 := by omega
            subst this
            exact three _ _ _ _ _ _ _ yb e4 J hi hj hp hyb rest
        unfold loB
        dsimp only
        split
        · exact wpS_mono (two _ _ _) fun r st' z => by cases r <;> exact z
        · exact wpS_mono (two _ _ _) fun r st' z => by cases r <;> exact z
      · rintro c st3 ⟨e3, o, i, j, g, ac, bc, rfl, J, hi, hj, hp⟩
        exact ⟨e3, .inr ⟨_, _, _, _, _, _, rfl, J, hi, hj, hp⟩⟩
      · rintro c st3 ⟨e3, ⟨r, z, rfl, hr⟩ | ⟨o, i, j, g, ac, bc, rfl, J, hi, hj, hp⟩⟩
        · exact wpS_pure ⟨e3, r, _, rfl, hr⟩
        · dsimp only
          exact wpS_bind (wpS_modify (wpS_pure ⟨e3.setG _, _, _, _, _, rfl, J, hi, hj, by omega⟩))
  · rintro c st1 ⟨e1, o, i, j, g, rfl, J, hi, hj, hp⟩
    omega
  · rintro c st1 ⟨e1, r, z, rfl, hr⟩
    exact wpS_pure (h r st1 e1 hr)
end
end L2S

set_option linter.all false
set_option maxRecDepth 100000
set_option maxHeartbeats 4000000
namespace L2S
open PySem PyProof.Rows
def mHi : Array Keyed → Array Keyed → StateT SortSt Sem (Array Keyed) := sortPriv% PySem.Builtin.mergeHi
theorem mHi_eq (a b : Array Keyed) : mHi a b = (do
  rule "list.sort.merge-hi"
  let tt := a.size + b.size
  let dn (o : Array Keyed) (i j : Nat) := a.extract 0 i ++ b.extract 0 j ++ o.reverse
  let fb (o : Array Keyed) (i j : Nat) := b.extract 0 j ++ a.extract 0 i ++ o.reverse
  let mut i := a.size - 1
  let mut j := b.size
  let mut o : Array Keyed := #[← elem' a i]
  if i == 0 then return dn o i j
  if j == 1 then return fb o i j
  let mut mg := gallopOf (← get)
  for _ in [0:tt] do
    let mut ac := 0
    let mut bc := 0
    for _ in [0:tt] do
      let some w ← lt' (← elem' b (j - 1)) (← elem' a (i - 1)) | return dn o i j
      if w then
        i := i - 1; o := o.push (← elem' a i); ac := ac + 1; bc := 0
        if i == 0 then return dn o i j
        if ac ≥ mg then break
      else
        j := j - 1; o := o.push (← elem' b j); bc := bc + 1; ac := 0
        if j == 1 then return fb o i j
        if bc ≥ mg then break
    rule "list.sort.gallop"
    mg := mg + 1
    for _ in [0:tt] do
      if mg > 1 then mg := mg - 1
      modify fun st => setG st mg
      let some t ← gal false (← elem' b (j - 1)) a 0 i (i - 1) | return dn o i j
      let k := i - t
      ac := k
      if k > 0 then
        o := o ++ (a.extract t i).reverse; i := t
        if i == 0 then return dn o i j
      j := j - 1; o := o.push (← elem' b j)
      if j == 1 then return fb o i j
      let some t ← gal true (← elem' a (i - 1)) b 0 j (j - 1) | return dn o i j
      let k := j - t
      bc := k
      if k > 0 then
        o := o ++ (b.extract t j).reverse; j := t
        if j == 1 then return fb o i j
        if j == 0 then return dn o i j
      i := i - 1; o := o.push (← elem' a i)
      if i == 0 then return dn o i j
      if ac < 7 && bc < 7 then break
    mg := mg + 1
    modify fun st => setG st mg
  unsupported "internal:list.sort.merge-bound") := rfl
abbrev D5 := Option (Array Keyed) × Nat × Nat × Array Keyed × Nat
abbrev D6 := Option (Array Keyed) × Nat × Nat × Array Keyed × Nat × Nat
abbrev D7 := Option (Array Keyed) × Nat × Nat × Array Keyed × Nat × Nat × Nat
abbrev dnH (a b o : Array Keyed) (i j : Nat) : Array Keyed := a.extract 0 i ++ b.extract 0 j ++ o.reverse
abbrev fbH (a b o : Array Keyed) (i j : Nat) : Array Keyed := b.extract 0 j ++ a.extract 0 i ++ o.reverse
def hi1 (a b : Array Keyed) (mg : Nat) (c : D6) : SM (ForInStep D6) := do
  let y ← elem' b (c.2.2.1 - 1)
  let x ← elem' a (c.2.1 - 1)
  let r ← lt' y x
  match r with
  | some w =>
    if w = true then do
      let x ← elem' a (c.2.1 - 1)
      if (c.2.1 - 1 == 0) = true then pure (.done (some (dnH a b (c.2.2.2.1.push x) (c.2.1 - 1) c.2.2.1), c.2.1 - 1, c.2.2.1, c.2.2.2.1.push x, c.2.2.2.2.1 + 1, 0))
      else if c.2.2.2.2.1 + 1 ≥ mg then pure (.done (none, c.2.1 - 1, c.2.2.1, c.2.2.2.1.push x, c.2.2.2.2.1 + 1, 0))
      else pure (.yield (none, c.2.1 - 1, c.2.2.1, c.2.2.2.1.push x, c.2.2.2.2.1 + 1, 0))
    else do
      let y ← elem' b (c.2.2.1 - 1)
      if (c.2.2.1 - 1 == 1) = true then pure (.done (some (fbH a b (c.2.2.2.1.push y) c.2.1 (c.2.2.1 - 1)), c.2.1, c.2.2.1 - 1, c.2.2.2.1.push y, 0, c.2.2.2.2.2 + 1))
      else if c.2.2.2.2.2 + 1 ≥ mg then pure (.done (none, c.2.1, c.2.2.1 - 1, c.2.2.2.1.push y, 0, c.2.2.2.2.2 + 1))
      else pure (.yield (none, c.2.1, c.2.2.1 - 1, c.2.2.2.1.push y, 0, c.2.2.2.2.2 + 1))
  | _ => pure (.done (some (dnH a b c.2.2.2.1 c.2.1 c.2.2.1), c.2.1, c.2.2.1, c.2.2.2.1, c.2.2.2.2.1, c.2.2.2.2.2))
def hi4 (a b : Array Keyed) (g ac bc : Nat) (o : Array Keyed) (i j : Nat) : SM (ForInStep D7) := do
  let x ← elem' a (i - 1)
  if (i - 1 == 0) = true then pure (.done (some (dnH a b (o.push x) (i - 1) j), i - 1, j, o.push x, g, ac, bc))
  else if (decide (ac < 7) && decide (bc < 7)) = true then pure (.done (none, i - 1, j, o.push x, g, ac, bc))
  else pure (.yield (none, i - 1, j, o.push x, g, ac, bc))
def hi3 (a b : Array Keyed) (g ac bc : Nat) (o : Array Keyed) (i j : Nat) : SM (ForInStep D7) := do
  let y ← elem' b (j - 1)
  if (j - 1 == 1) = true then pure (.done (some (fbH a b (o.push y) i (j - 1)), i, j - 1, o.push y, g, ac, bc))
  else do
    let x ← elem' a (i - 1)
    let r ← gal true x b 0 (j - 1) (j - 1 - 1)
    match r with
    | some t =>
      if j - 1 - t > 0 then
        if (t == 1) = true then pure (.done (some (fbH a b (o.push y ++ (b.extract t (j - 1)).reverse) i t), i, t, o.push y ++ (b.extract t (j - 1)).reverse, g, ac, j - 1 - t))
        else if (t == 0) = true then pure (.done (some (dnH a b (o.push y ++ (b.extract t (j - 1)).reverse) i t), i, t, o.push y ++ (b.extract t (j - 1)).reverse, g, ac, j - 1 - t))
        else hi4 a b g ac (j - 1 - t) (o.push y ++ (b.extract t (j - 1)).reverse) i t
      else hi4 a b g ac (j - 1 - t) (o.push y) i (j - 1)
    | _ => pure (.done (some (dnH a b (o.push y) i (j - 1)), i, j - 1, o.push y, g, ac, bc))
def hi2 (a b : Array Keyed) (g ac bc : Nat) (o : Array Keyed) (i j : Nat) : SM (ForInStep D7) := do
  modify fun st => setG st g
  let y ← elem' b (j - 1)
  let r ← gal false y a 0 i (i - 1)
  match r with
  | some t =>
    if i - t > 0 then
      if (t == 0) = true then pure (.done (some (dnH a b (o ++ (a.extract t i).reverse) t j), t, j, o ++ (a.extract t i).reverse, g, i - t, bc))
      else hi3 a b g (i - t) bc (o ++ (a.extract t i).reverse) t j
    else hi3 a b g (i - t) bc o i j
  | _ => pure (.done (some (dnH a b o i j), i, j, o, g, ac, bc))
def hiB (a b : Array Keyed) (c : D7) : SM (ForInStep D7) :=
  if c.2.2.2.2.1 > 1 then hi2 a b (c.2.2.2.2.1 - 1) c.2.2.2.2.2.1 c.2.2.2.2.2.2 c.2.2.2.1 c.2.1 c.2.2.1
  else hi2 a b c.2.2.2.2.1 c.2.2.2.2.2.1 c.2.2.2.2.2.2 c.2.2.2.1 c.2.1 c.2.2.1
def hiO (a b : Array Keyed) (c : D5) : SM (ForInStep D5) := do
  let c1 ← forIn [0:a.size + b.size] ((none, c.2.1, c.2.2.1, c.2.2.2.1, 0, 0) : D6) fun _ d => hi1 a b c.2.2.2.2 d
  match c1.1 with
  | some r => pure (.done (some r, c1.2.1, c1.2.2.1, c1.2.2.2.1, c.2.2.2.2))
  | none => do
    liftM (rule "list.sort.gallop")
    let c2 ← forIn [0:a.size + b.size] ((none, c1.2.1, c1.2.2.1, c1.2.2.2.1, c.2.2.2.2 + 1, c1.2.2.2.2.1, c1.2.2.2.2.2) : D7) fun _ d => hiB a b d
    match c2.1 with
    | some r => pure (.done (some r, c2.2.1, c2.2.2.1, c2.2.2.2.1, c2.2.2.2.2.1))
    | none => do
      modify fun st => setG st (c2.2.2.2.2.1 + 1)
      pure (.yield (none, c2.2.1, c2.2.2.1, c2.2.2.2.1, c2.2.2.2.2.1 + 1))
theorem mHi_low (a b : Array Keyed) : mHi a b = (do
  liftM (rule "list.sort.merge-hi")
  let x ← elem' a (a.size - 1)
  if (a.size - 1 == 0) = true then pure (dnH a b #[x] (a.size - 1) b.size)
  else if (b.size == 1) = true then pure (fbH a b #[x] (a.size - 1) b.size)
  else do
    let st ← get
    let c ← forIn [0:a.size + b.size] ((none, a.size - 1, b.size, #[x], gallopOf st) : D5) fun _ d => hiO a b d
    match c.1 with
    | some r => pure r
    | none => liftM (unsupported "internal:list.sort.merge-bound" : Sem (Array Keyed))) := by
  rw [mHi_eq]
  refine bnd _ fun _ => bnd _ fun y => ?_
  refine if2 rfl (if2 rfl ?_)
  refine bnd _ fun st => bnd2 (for2 fun _ c => ?_) fun c => ?_
  · unfold hiO
    refine bnd2 (for2 fun _ d => ?_) fun c1 => ?_
    · rfl
    · obtain ⟨r, i, j, o, ac, bc⟩ := c1
      cases r with
      | some r => rfl
      | none =>
        refine bnd2 rfl fun _ => bnd2 (for2 fun _ d => ?_) fun c2 => ?_
        · unfold hiB
          refine if2 ?_ ?_
          all_goals
            unfold hi2
            refine bnd2 rfl fun _ => bnd2 rfl fun y => bnd2 rfl fun r => ?_
            cases r with
            | none => rfl
            | some k =>
              refine if2 (if2 rfl ?_) ?_
              all_goals
                unfold hi3
                refine bnd2 rfl fun y2 => if2 rfl (bnd2 rfl fun x2 => bnd2 rfl fun r2 => ?_)
                cases r2 with
                | none => rfl
                | some k2 =>
                  refine if2 (if2 rfl (if2 rfl ?_)) ?_
                  all_goals
                    unfold hi4
                    refine bnd2 rfl fun x3 => if2 rfl (if2 rfl rfl)
        · obtain ⟨r, i, j, o, g, ac, bc⟩ := c2
          cases r with
          | some r => rfl
          | none => rfl
  · obtain ⟨r, i, j, o, g⟩ := c
    cases r with
    | some r => rfl
    | none => rfl
end L2S

set_option linter.all false
set_option maxRecDepth 100000
set_option maxHeartbeats 4000000
namespace L2S
open PySem PyProof.Rows
section
variable {M : Model} {A : Around} {E : Value → Shared → Prop} {s : Shared} {κ : SortKind} {a₀ : Array Keyed} {f : Keyed → Int} {a b o : Array Keyed} {i j : Nat}
/-- merged from behind: o, the other way round -/
abbrev JH (f : Keyed → Int) (a b o : Array Keyed) (i j : Nat) : Prop := Jm (fun x => - f x) a.toList.reverse b.toList.reverse o.toList (a.size - i) (b.size - j)
theorem rev_drop {a : Array Keyed} {i : Nat} (h : i ≤ a.size) : a.toList.reverse.drop (a.size - i) = (a.toList.take i).reverse := by
  rw [List.drop_reverse, Array.length_toList, show a.size - (a.size - i) = i by omega]
theorem ext_to (a : Array Keyed) (i : Nat) : (a.extract 0 i).toList = a.toList.take i := by
  rw [Array.toList_extract, List.extract_eq_drop_take, Nat.sub_zero]
  rfl
theorem mem_rev {a : Array Keyed} {i : Nat} {x : Keyed} (h : i ≤ a.size) (hx : x ∈ a.toList.reverse.drop (a.size - i)) : ∃ k, k < i ∧ kn f a k = f x := by
  rw [rev_drop h, List.mem_reverse] at hx
  obtain ⟨n, hn⟩ := List.getElem?_of_mem hx
  have hl := (List.getElem?_eq_some_iff.mp hn).1
  rw [List.length_take] at hl
  rw [List.getElem?_take_of_lt (by omega), Array.getElem?_toList] at hn
  exact ⟨n, by omega, kn_at hn⟩
theorem good_rev {as bs r : List Keyed} (h : Good (fun x => - f x) as.reverse bs.reverse r) : Good f as bs r.reverse := by
  refine ⟨?_, ?_⟩
  · refine (List.reverse_perm r).trans (h.1.trans ?_)
    exact List.Perm.append (List.reverse_perm as) (List.reverse_perm bs)
  · rw [List.pairwise_reverse]
    refine h.2.imp fun {x y} z => ?_
    have w : - f x ≤ - f y := z
    show f y ≤ f x
    omega
theorem JH.dn (h : JH f a b o i j) (hi : i ≤ a.size) (hj : j ≤ b.size) (e : i = 0 ∨ j = 0) : Fin f a b (dnH a b o i j) := by
  have g := Jm.dn (Jm.swap h) (e.symm.imp (fun z => by rw [rev_drop hj, z]; rfl) (fun z => by rw [rev_drop hi, z]; rfl))
  have g2 := good_rev g
  rw [rev_drop hi, rev_drop hj, List.reverse_append, List.reverse_append, List.reverse_reverse, List.reverse_reverse, ← List.append_assoc] at g2
  unfold Fin dnH
  rw [Array.toList_append, Array.toList_append, ext_to, ext_to, Array.toList_reverse]
  exact ⟨g2.1.trans List.perm_append_comm, g2.2⟩
theorem JH.fb (h : JH f a b o i j) (T : Two a₀ f a b) (hi : i ≤ a.size) (hj : j ≤ b.size) (e : j = 1) : Fin f a b (fbH a b o i j) := by
  have g := Jm.la (Jm.swap h) fun x hx y hy => by
    obtain ⟨k, k1, k2⟩ := mem_rev (f := f) hj hx
    obtain ⟨n, n1, n2⟩ := mem_rev (f := f) hi hy
    have := T.lo n (by omega)
    rw [show k = 0 by omega] at k2
    rw [k2, n2] at this
    show - f y ≤ - f x
    omega
  have g2 := good_rev g
  rw [rev_drop hi, rev_drop hj, List.reverse_append, List.reverse_append, List.reverse_reverse, List.reverse_reverse, ← List.append_assoc] at g2
  unfold Fin fbH
  rw [Array.toList_append, Array.toList_append, ext_to, ext_to, Array.toList_reverse]
  exact ⟨g2.1.trans List.perm_append_comm, g2.2⟩
theorem JH.chunkA (h : JH f a b o i j) {t : Nat} (ht : t ≤ i) (hi : i ≤ a.size) (hj : j ≤ b.size) (hc : ∀ n m, t ≤ n → n < i → m < j → kn f b m ≤ kn f a n) : JH f a b (o ++ (a.extract t i).reverse) t j := by
  have e : (a.toList.reverse.drop (a.size - i)).take (i - t) = (a.extract t i).reverse.toList := by
    rw [rev_drop hi, List.take_reverse, Array.toList_reverse, Array.toList_extract, List.extract_eq_drop_take, List.length_take, Array.length_toList, Nat.min_eq_left hi, show i - (i - t) = t by omega, List.drop_take]
  have g := Jm.chunk h (i - t) fun u hu y hy => by
    obtain ⟨m, m1, m2⟩ := mem_rev (f := f) hj hy
    rw [e, Array.toList_reverse, List.mem_reverse, show i = t + (i - t) by omega, ext_mid] at hu
    obtain ⟨n, n1, n2, n3, n4⟩ := mem_take (f := f) hu
    have := hc n m n1 (by omega) m1
    show - f u ≤ - f y
    omega
  rw [e] at g
  unfold JH
  rw [Array.toList_append, show a.size - t = a.size - i + (i - t) by omega]
  exact g
theorem JH.chunkB (h : JH f a b o i j) {t : Nat} (ht : t ≤ j) (hi : i ≤ a.size) (hj : j ≤ b.size) (hc : ∀ n m, t ≤ n → n < j → m < i → kn f a m ≤ kn f b n) : JH f a b (o ++ (b.extract t j).reverse) i t :=
  (JH.chunkA (Jm.swap h) ht hj hi hc).swap
theorem one_rev {x : Keyed} (hx : a[i - 1]? = some x) (hi : 1 ≤ i) : (a.extract (i - 1) i).reverse = #[x] := by
  have e : (a.extract (i - 1) i).toList = [x] := by
    have := ext_mid a (i - 1) 1
    rw [show i - 1 + 1 = i by omega] at this
    rw [this]
    exact one_of hx
  apply Array.toList_inj.mp
  rw [Array.toList_reverse, e]
  rfl
theorem JH.pushA {x : Keyed} (h : JH f a b o i j) (hx : a[i - 1]? = some x) (h1 : 1 ≤ i) (hi : i ≤ a.size) (hj : j ≤ b.size) (hc : ∀ m, m < j → kn f b m ≤ f x) : JH f a b (o.push x) (i - 1) j := by
  have g := JH.chunkA h (t := i - 1) (by omega) hi hj fun n m n1 n2 m1 => by
    rw [show n = i - 1 by omega, kn_at hx]
    exact hc m m1
  rw [one_rev hx h1] at g
  rw [show o.push x = o ++ #[x] from rfl]
  exact g
theorem JH.pushB {x : Keyed} (h : JH f a b o i j) (hx : b[j - 1]? = some x) (h1 : 1 ≤ j) (hi : i ≤ a.size) (hj : j ≤ b.size) (hc : ∀ m, m < i → kn f a m ≤ f x) : JH f a b (o.push x) i (j - 1) :=
  (JH.pushA (Jm.swap h) hx h1 hj hi hc).swap
/-- where a turn of the loops stands -/
structure At (f : Keyed → Int) (a b : Array Keyed) (x : Nat) (i j : Nat) (o : Array Keyed) : Prop where
  J : JH f a b o i j
  i1 : 1 ≤ i
  i2 : i ≤ a.size
  j1 : 2 ≤ j
  j2 : j ≤ b.size
  p : x + i + j ≤ a.size + b.size
def R7h (f : Keyed → Int) (a b : Array Keyed) (st : SortSt) (x : Nat) : ForInStep D7 → SortSt → Prop
  | .done c, st' => Ev st st' ∧ ((∃ r z, c = (some r, z) ∧ Fin f a b r) ∨ ∃ i j o g ac bc, c = (none, i, j, o, g, ac, bc) ∧ At f a b x i j o)
  | .yield c, st' => Ev st st' ∧ ∃ i j o g ac bc, c = (none, i, j, o, g, ac, bc) ∧ At f a b x i j o
theorem mHi_ok {st : SortSt} {Q : Array Keyed → SortSt → Prop} (L : Asks M A E s κ a₀ f) (hk : kindOf st = κ) (T : Two a₀ f a b) (h : ∀ r st', Ev st st' → Fin f a b r → Q r st') : wpS M A E s (mHi a b) Q st := by
  have ta := T.na
  have tb := T.nb
  have ua : ∀ n m, n ≤ m → m < a.size → kn f a n ≤ kn f a m := fun n m z1 z2 => T.ua n m (Nat.zero_le _) z1 (by omega)
  have ub : ∀ n m, n ≤ m → m < b.size → kn f b n ≤ kn f b m := fun n m z1 z2 => T.ub n m (Nat.zero_le _) z1 (by omega)
  have pr : ∀ l : List Keyed, l.Pairwise (leK f) → l.reverse.Pairwise (leK fun x => - f x) := fun l z => by
    rw [List.pairwise_reverse]
    refine z.imp fun {x y} w => ?_
    have w' : f x ≤ f y := w
    show - f y ≤ - f x
    omega
  rw [mHi_low]
  refine wpS_bind (wpS_lift (wpAny_rule ⟨rfl, ?_⟩))
  obtain ⟨x0, hx0⟩ := at_of (a := a) (i := a.size - 1) (by omega)
  refine wpS_bind (elem_at hx0 ?_)
  have J0 : JH f a b #[x0] (a.size - 1) b.size := by
    have e : JH f a b #[] a.size b.size := ⟨by simp, by simpa using pr _ (up_pw T.ua), by simpa using pr _ (up_pw T.ub)⟩
    exact JH.pushA e hx0 ta (Nat.le_refl _) (Nat.le_refl _) fun m m1 => by rw [← kn_at (f := f) hx0]; exact T.hi m m1
  by_cases c1 : a.size - 1 = 0
  · rw [if_pos (by simpa using c1)]
    exact wpS_pure (h _ st .refl (J0.dn (by omega) (Nat.le_refl _) (.inl c1)))
  rw [if_neg (by simpa using c1)]
  by_cases c2 : b.size = 1
  · rw [if_pos (by simpa using c2)]
    exact wpS_pure (h _ st .refl (J0.fb T (by omega) (Nat.le_refl _) c2))
  rw [if_neg (by simpa using c2)]
  refine wpS_bind (wpS_get ?_)
  refine wpS_bind (wpS_mono (wpS_forRange (I := fun x c st' => Ev st st' ∧ ∃ i j o g, c = (none, i, j, o, g) ∧ At f a b (x + 1) i j o) (Q := fun c st' => Ev st st' ∧ ∃ r z, c = (some r, z) ∧ Fin f a b r) ?_ ?_ ⟨.refl, _, _, _, _, rfl, J0, by omega, by omega, by omega, by omega, by omega⟩) ?_)
  · rintro x c st1 _ hx ⟨e1, i, j, o, g, rfl, W⟩
    unfold hiO
    dsimp only
    refine wpS_bind (wpS_mono (wpS_forRange (I := fun y c st' => Ev st st' ∧ ∃ i j o ac bc, c = (none, i, j, o, ac, bc) ∧ At f a b (x + 1 + y) i j o)
      (Q := fun c st' => Ev st st' ∧ ((∃ r z, c = (some r, z) ∧ Fin f a b r) ∨ ∃ i j o ac bc, c = (none, i, j, o, ac, bc) ∧ At f a b (x + 2) i j o)) ?_ ?_ ⟨e1, i, j, o, 0, 0, rfl, W⟩) ?_)
    · rintro y c st2 _ hy ⟨e2, i, j, o, ac, bc, rfl, J, i1, i2, j1, j2, hp⟩
      unfold hi1
      dsimp only
      obtain ⟨yb, hyb⟩ := at_of (a := b) (i := j - 1) (by omega)
      obtain ⟨xa, hxa⟩ := at_of (a := a) (i := i - 1) (by omega)
      refine wpS_bind (elem_at hyb ?_)
      refine wpS_bind (elem_at hxa ?_)
      refine wpS_bind (L.lt yb xa (T.ib.get hyb) (T.ia.get hxa) st2 _ (e2.k.trans hk) ?_)
      by_cases hw : f yb < f xa
      · rw [decide_eq_true hw]
        dsimp only
        rw [if_pos rfl]
        refine wpS_bind (elem_at hxa ?_)
        have J2 := J.pushA hxa i1 i2 j2 fun m m1 => by
          have := ub m (j - 1) (by omega) (by omega)
          rw [kn_at hyb] at this
          omega
        by_cases c3 : i - 1 = 0
        · rw [if_pos (by simpa using c3)]
          exact wpS_pure ⟨e2, .inl ⟨_, _, rfl, J2.dn (by omega) j2 (.inl c3)⟩⟩
        rw [if_neg (by simpa using c3)]
        split
        · exact wpS_pure ⟨e2, .inr ⟨_, _, _, _, _, rfl, J2, by omega, by omega, j1, j2, by omega⟩⟩
        · exact wpS_pure ⟨e2, _, _, _, _, _, rfl, J2, by omega, by omega, j1, j2, by omega⟩
      · rw [decide_eq_false hw]
        dsimp only
        rw [if_neg (by decide)]
        refine wpS_bind (elem_at hyb ?_)
        have J2 := J.pushB hyb (by omega) i2 j2 fun m m1 => by
          have := ua m (i - 1) (by omega) (by omega)
          rw [kn_at hxa] at this
          omega
        by_cases c3 : j - 1 = 1
        · rw [if_pos (by simpa using c3)]
          exact wpS_pure ⟨e2, .inl ⟨_, _, rfl, J2.fb T i2 (by omega) c3⟩⟩
        rw [if_neg (by simpa using c3)]
        split
        · exact wpS_pure ⟨e2, .inr ⟨_, _, _, _, _, rfl, J2, i1, i2, by omega, by omega, by omega⟩⟩
        · exact wpS_pure ⟨e2, _, _, _, _, _, rfl, J2, i1, i2, by omega, by omega, by omega⟩
    · rintro c st2 ⟨e2, i, j, o, ac, bc, rfl, J, i1, i2, j1, j2, hp⟩
      exact ⟨e2, .inr ⟨_, _, _, _, _, rfl, J, i1, i2, j1, j2, by omega⟩⟩
    · rintro c st2 ⟨e2, ⟨r, z, rfl, hr⟩ | ⟨i, j, o, ac, bc, rfl, W⟩⟩
      · exact wpS_pure ⟨e2, r, _, rfl, hr⟩
      dsimp only
      refine wpS_bind (wpS_lift (wpAny_rule ⟨rfl, ?_⟩))
      refine wpS_bind (wpS_mono (wpS_forRange (I := fun y c st' => Ev st st' ∧ ∃ i j o g ac bc, c = (none, i, j, o, g, ac, bc) ∧ At f a b (x + 2) i j o)
        (Q := fun c st' => Ev st st' ∧ ((∃ r z, c = (some r, z) ∧ Fin f a b r) ∨ ∃ i j o g ac bc, c = (none, i, j, o, g, ac, bc) ∧ At f a b (x + 2) i j o)) ?_ ?_ ⟨e2, i, j, o, _, ac, bc, rfl, W⟩) ?_)
      · rintro y c st3 _ hy ⟨e3, i, j, o, g, ac, bc, rfl, J, i1, i2, j1, j2, hp⟩
        have four : ∀ (g ac bc : Nat) (o : Array Keyed) (i j : Nat) (st4 : SortSt) (xa : Keyed), Ev st st4 → At f a b (x + 2) i j o → a[i - 1]? = some xa → (∀ n, n < j → kn f b n ≤ f xa) → wpS M A E s (hi4 a b g ac bc o i j) (R7h f a b st (x + 2)) st4 := by
          rintro g ac bc o i j st4 xa e4 ⟨J, i1, i2, j1, j2, hp⟩ hxa hle
          unfold hi4
          refine wpS_bind (elem_at hxa ?_)
          have J2 := J.pushA hxa i1 i2 j2 hle
          by_cases c3 : i - 1 = 0
          · rw [if_pos (by simpa using c3)]
            exact wpS_pure ⟨e4, .inl ⟨_, _, rfl, J2.dn (by omega) j2 (.inl c3)⟩⟩
          rw [if_neg (by simpa using c3)]
          split
          · exact wpS_pure ⟨e4, .inr ⟨_, _, _, _, _, _, rfl, J2, by omega, by omega, j1, j2, by omega⟩⟩
          · exact wpS_pure ⟨e4, _, _, _, _, _, _, rfl, J2, by omega, by omega, j1, j2, by omega⟩
        have three : ∀ (g ac bc : Nat) (o : Array Keyed) (i j : Nat) (st4 : SortSt) (yb : Keyed), Ev st st4 → At f a b (x + 2) i j o → b[j - 1]? = some yb → (∀ n, n < i → kn f a n ≤ f yb) → wpS M A E s (hi3 a b g ac bc o i j) (R7h f a b st (x + 2)) st4 := by
          rintro g ac bc o i j st4 yb e4 ⟨J, i1, i2, j1, j2, hp⟩ hyb hle
          unfold hi3
          refine wpS_bind (elem_at hyb ?_)
          have J2 := J.pushB hyb (by omega) i2 j2 hle
          by_cases c3 : j - 1 = 1
          · rw [if_pos (by simpa using c3)]
            exact wpS_pure ⟨e4, .inl ⟨_, _, rfl, J2.fb T i2 (by omega) c3⟩⟩
          rw [if_neg (by simpa using c3)]
          obtain ⟨xa, hxa⟩ := at_of (a := a) (i := i - 1) (by omega)
          refine wpS_bind (elem_at hxa ?_)
          refine wpS_bind (gal_yes L (e4.k.trans hk) T.ib (T.ia.get hxa) (by omega) (by omega) (T.ub.sub (by omega)) fun t k1 k2 k3 => ?_)
          dsimp only
          have rest : ∀ n, n < t → kn f b n ≤ f xa := fun n n1 => by
            have := k2 n n1
            rw [Nat.zero_add] at this
            omega
          by_cases hk0 : j - 1 - t > 0
          · rw [if_pos hk0]
            have J3 := J2.chunkB k1 i2 (by omega) fun n m n1 n2 m1 => by
              have z := k3 n n1 n2
              rw [Nat.zero_add] at z
              have z2 := ua m (i - 1) (by omega) (by omega)
              rw [kn_at hxa] at z2
              omega
            by_cases c4 : t = 1
            · rw [if_pos (by simpa using c4)]
              exact wpS_pure ⟨e4, .inl ⟨_, _, rfl, J3.fb T i2 (by omega) c4⟩⟩
            rw [if_neg (by simpa using c4)]
            by_cases c5 : t = 0
            · rw [if_pos (by simpa using c5)]
              exact wpS_pure ⟨e4, .inl ⟨_, _, rfl, J3.dn i2 (by omega) (.inr c5)⟩⟩
            rw [if_neg (by simpa using c5)]
            exact four _ _ _ _ _ _ _ xa e4 ⟨J3, i1, i2, by omega, by omega, by omega⟩ hxa rest
          · rw [if_neg hk0]
            have : t = j - 1 := by omega
            subst this
            exact four _ _ _ _ _ _ _ xa e4 ⟨J2, i1, i2, by omega, by omega, by omega⟩ hxa rest
        have two : ∀ (g ac bc : Nat), wpS M A E s (hi2 a b g ac bc o i j) (R7h f a b st (x + 2)) st3 := by
          intro g ac bc
          unfold hi2
          obtain ⟨yb, hyb⟩ := at_of (a := b) (i := j - 1) (by omega)
          refine wpS_bind (wpS_modify ?_)
          have e4 := e3.setG g
          refine wpS_bind (elem_at hyb ?_)
          refine wpS_bind (gal_no L (e4.k.trans hk) T.ia (T.ib.get hyb) (by omega) (by omega) (T.ua.sub (by omega)) fun t k1 k2 k3 => ?_)
          dsimp only
          have rest : ∀ n, n < t → kn f a n ≤ f yb := fun n n1 => by
            have := k2 n n1
            rw [Nat.zero_add] at this
            exact this
          by_cases hk0 : i - t > 0
          · rw [if_pos hk0]
            have J3 := J.chunkA k1 i2 j2 fun n m n1 n2 m1 => by
              have z := k3 n n1 n2
              rw [Nat.zero_add] at z
              have z2 := ub m (j - 1) (by omega) (by omega)
              rw [kn_at hyb] at z2
              omega
            by_cases c4 : t = 0
            · rw [if_pos (by simpa using c4)]
              exact wpS_pure ⟨e4, .inl ⟨_, _, rfl, J3.dn (by omega) j2 (.inl c4)⟩⟩
            rw [if_neg (by simpa using c4)]
            exact three _ _ _ _ _ _ _ yb e4 ⟨J3, by omega, by omega, j1, j2, by omega⟩ hyb rest
          · rw [if_neg hk0]
            have : t = i := by omega
            subst this
            exact three _ _ _ _ _ _ _ yb e4 ⟨J, i1, i2, j1, j2, hp⟩ hyb rest
        unfold hiB
        dsimp only
        split
        · exact wpS_mono (two _ _ _) fun r st' z => by cases r <;> exact z
        · exact wpS_mono (two _ _ _) fun r st' z => by cases r <;> exact z
      · rintro c st3 ⟨e3, i, j, o, g, ac, bc, rfl, W⟩
        exact ⟨e3, .inr ⟨_, _, _, _, _, _, rfl, W⟩⟩
      · rintro c st3 ⟨e3, ⟨r, z, rfl, hr⟩ | ⟨i, j, o, g, ac, bc, rfl, W⟩⟩
        · exact wpS_pure ⟨e3, r, _, rfl, hr⟩
        · dsimp only
          exact wpS_bind (wpS_modify (wpS_pure ⟨e3.setG _, _, _, _, _, rfl, W⟩))
  · rintro c st1 ⟨e1, i, j, o, g, rfl, J, i1, i2, j1, j2, hp⟩
    omega
  · rintro c st1 ⟨e1, r, z, rfl, hr⟩
    exact wpS_pure (h r st1 e1 hr)
end
end L2S

set_option linter.all false
set_option maxRecDepth 100000
set_option maxHeartbeats 4000000
namespace L2S
open PySem PyProof.Rows
abbrev PT := Nat × Nat × Nat
def layIn (xs m : Array Keyed) (lo : Nat) : Array Keyed := m.toList.zipIdx.foldl (fun a (p, j) => a.setIfInBounds (lo + j) p) xs
theorem mAt_eq (i : Nat) : mergeAt' i = (do
  let z ← get
  let (some (s1, n1, w1), some (s2, n2, _)) := ((pendingOf z)[i]?, (pendingOf z)[i + 1]?) | unsupported "internal:list.sort.pending"
  set (setPending z (((pendingOf z).setIfInBounds i (s1, n1 + n2, w1)).eraseIdxIfInBounds (i + 1)))
  let some k ← gal false (← elem' (arrOf z) s2) (arrOf z) s1 n1 0 | return false
  let (s1, n1) := (s1 + k, n1 - k)
  if n1 == 0 then return true
  let some n2 ← gal true (← elem' (arrOf z) (s1 + n1 - 1)) (arrOf z) s2 n2 (n2 - 1) | return false
  if n2 == 0 then return true
  let x := (arrOf z).extract s1 s2
  let y := (arrOf z).extract s2 (s2 + n2)
  let m ← if n1 ≤ n2 then mLo x y else mHi x y
  modify fun z => setArr z (layIn (arrOf z) m s1)
  return (failedOf (← get)).isNone) := rfl
theorem wpS_set {M : Model} {A : Around} {E : Value → Shared → Prop} {s : Shared} {σ : Type} {x : σ} {Q : PUnit → σ → Prop} {st : σ} (h : Q ⟨⟩ x) : wpS M A E s (set x : StateT σ Sem PUnit) Q st := by
  unfold wpS; rw [StateT.run_set]; exact wpAny_pure ⟨rfl, h⟩
theorem lay_go (lo : Nat) : ∀ (l : List Keyed) (k : Nat) (xs : Array Keyed), lo + k + l.length ≤ xs.size →
    (((l.zipIdx k).foldl (fun a (p : Keyed × Nat) => a.setIfInBounds (lo + p.2) p.1) xs).size = xs.size) ∧ ∀ n, ((l.zipIdx k).foldl (fun a (p : Keyed × Nat) => a.setIfInBounds (lo + p.2) p.1) xs)[n]? = if lo + k ≤ n ∧ n < lo + k + l.length then l[n - (lo + k)]? else xs[n]?
  | [], k, xs, _ => by
    refine ⟨rfl, fun n => ?_⟩
    rw [if_neg (fun z => by rw [List.length_nil] at z; omega)]
    rfl
  | x :: r, k, xs, h => by
    rw [List.length_cons] at h
    rw [List.zipIdx_cons, List.foldl_cons]
    obtain ⟨i1, i2⟩ := lay_go lo r (k + 1) (xs.setIfInBounds (lo + k) x) (by rw [Array.size_setIfInBounds]; omega)
    refine ⟨by rw [i1, Array.size_setIfInBounds], fun n => ?_⟩
    rw [i2, List.length_cons]
    by_cases c1 : lo + (k + 1) ≤ n ∧ n < lo + (k + 1) + r.length
    · rw [if_pos c1, if_pos (by omega), show n - (lo + k) = (n - (lo + (k + 1))) + 1 by omega, List.getElem?_cons_succ]
    · rw [if_neg c1, Array.getElem?_setIfInBounds]
      by_cases c2 : lo + k = n
      · rw [if_pos c2, if_pos (by omega), if_pos (by omega), show n - (lo + k) = 0 by omega]
        rfl
      · rw [if_neg c2, if_neg (by omega)]
theorem lay_get {xs m : Array Keyed} {lo : Nat} (h : lo + m.size ≤ xs.size) (n : Nat) : (layIn xs m lo)[n]? = if lo ≤ n ∧ n < lo + m.size then m[n - lo]? else xs[n]? := by
  have := (lay_go lo m.toList 0 xs (by rw [Array.length_toList]; omega)).2 n
  rw [Array.length_toList, Nat.add_zero, Array.getElem?_toList] at this
  exact this
theorem lay_list {xs m : Array Keyed} {lo : Nat} (h : lo + m.size ≤ xs.size) : (layIn xs m lo).toList = xs.toList.take lo ++ m.toList ++ xs.toList.drop (lo + m.size) := by
  refine List.ext_getElem? fun n => ?_
  rw [Array.getElem?_toList, lay_get h]
  by_cases c1 : n < lo
  · rw [if_neg (by omega), List.append_assoc, List.getElem?_append_left (by rw [List.length_take, Array.length_toList]; omega), List.getElem?_take_of_lt c1, Array.getElem?_toList]
  · by_cases c2 : n < lo + m.size
    · rw [if_pos (by omega), List.append_assoc, List.getElem?_append_right (by rw [List.length_take, Array.length_toList]; omega), List.length_take, Array.length_toList, Nat.min_eq_left (by omega), List.getElem?_append_left (by rw [Array.length_toList]; omega), Array.getElem?_toList]
    · rw [if_neg (by omega), List.getElem?_append_right (by rw [List.length_append, List.length_take, Array.length_toList, Array.length_toList]; omega), List.length_append, List.length_take, Array.length_toList, Array.length_toList, Nat.min_eq_left (by omega), List.getElem?_drop, Array.getElem?_toList]
      congr 1
      omega
section
variable {M : Model} {A : Around} {E : Value → Shared → Prop} {s : Shared} {κ : SortKind} {a₀ : Array Keyed} {f : Keyed → Int}
theorem SB.inA {st : SortSt} (h : SB κ a₀ st) : InA a₀ (arrOf st) := fun x hx => (Array.perm_iff_toList_perm.mp h.perm).mem_iff.mp hx
theorem ext_get {xs : Array Keyed} {i j n : Nat} (h : j ≤ xs.size) (hn : n < j - i) : (xs.extract i j)[n]? = xs[i + n]? := by
  rw [Array.getElem?_extract]
  rw [if_pos (by omega)]
theorem merge_at {st : SortSt} {i sa na w nb v : Nat} {Q : Bool → SortSt → Prop} (L : Asks M A E s κ a₀ f) (hB : SB κ a₀ st) (p1 : (pendingOf st)[i]? = some (sa, na, w)) (p2 : (pendingOf st)[i + 1]? = some (sa + na, nb, v)) (na1 : 1 ≤ na) (nb1 : 1 ≤ nb) (hz : sa + na + nb ≤ a₀.size)
    (ua : Up f (arrOf st) sa na) (ub : Up f (arrOf st) (sa + na) nb)
    (h : ∀ st', SB κ a₀ st' → pendingOf st' = ((pendingOf st).setIfInBounds i (sa, na + nb, w)).eraseIdxIfInBounds (i + 1) → Up f (arrOf st') sa (na + nb) → (∀ k, k < sa ∨ sa + na + nb ≤ k → (arrOf st')[k]? = (arrOf st)[k]?) → Q true st') : wpS M A E s (mergeAt' i) Q st := by
  have hsz := hB.size
  rw [mAt_eq]
  refine wpS_bind (wpS_get ?_)
  rw [p1, p2]
  dsimp only
  refine wpS_bind (wpS_set ?_)
  have hB1 : SB κ a₀ (setPending st (((pendingOf st).setIfInBounds i (sa, na + nb, w)).eraseIdxIfInBounds (i + 1))) := ⟨hB.perm, hB.kind, hB.fail⟩
  obtain ⟨b0, hb0⟩ := at_of (a := arrOf st) (i := sa + na) (by omega)
  refine wpS_bind (elem_at hb0 ?_)
  refine wpS_bind (gal_no L hB1.kind hB.inA (hB.inA.get hb0) (by omega) (by omega) ua fun k k1 k2 k3 => ?_)
  dsimp only
  have lowA : ∀ n, sa ≤ n → n < sa + k → kn f (arrOf st) n ≤ f b0 := fun n n1 n2 => by
    have := k2 (n - sa) (by omega)
    rw [show sa + (n - sa) = n by omega] at this
    exact this
  have fromB : ∀ n, sa + na ≤ n → n < sa + na + nb → f b0 ≤ kn f (arrOf st) n := fun n n1 n2 => by
    have := ub (sa + na) n (Nat.le_refl _) n1 n2
    rw [kn_at hb0] at this
    exact this
  by_cases c1 : na - k = 0
  · rw [if_pos (by simpa using c1)]
    refine wpS_pure (h _ hB1 rfl (fun n m n1 n2 n3 => ?_) fun _ _ => rfl)
    by_cases d1 : m < sa + na
    · exact ua n m n1 n2 d1
    · by_cases d2 : n < sa + na
      · have z1 := lowA n n1 (by omega)
        have z2 := fromB m (by omega) (by omega)
        show kn f (arrOf st) n ≤ kn f (arrOf st) m
        omega
      · exact ub n m (by omega) n2 (by omega)
  rw [if_neg (by simpa using c1)]
  rw [show sa + k + (na - k) - 1 = sa + na - 1 by omega]
  obtain ⟨aN, haN⟩ := at_of (a := arrOf st) (i := sa + na - 1) (by omega)
  refine wpS_bind (elem_at haN ?_)
  refine wpS_bind (gal_yes L hB1.kind hB.inA (hB.inA.get haN) (by omega) (by omega) ub fun t t1 t2 t3 => ?_)
  dsimp only
  have highB : ∀ n, sa + na + t ≤ n → n < sa + na + nb → f aN ≤ kn f (arrOf st) n := fun n n1 n2 => by
    have := t3 (n - (sa + na)) (by omega) (by omega)
    rw [show sa + na + (n - (sa + na)) = n by omega] at this
    exact this
  have toA : ∀ n, sa ≤ n → n < sa + na → kn f (arrOf st) n ≤ f aN := fun n n1 n2 => by
    have := ua n (sa + na - 1) n1 (by omega) (by omega)
    rw [kn_at haN] at this
    exact this
  by_cases c2 : t = 0
  · rw [if_pos (by simpa using c2)]
    refine wpS_pure (h _ hB1 rfl (fun n m n1 n2 n3 => ?_) fun _ _ => rfl)
    by_cases d1 : m < sa + na
    · exact ua n m n1 n2 d1
    · by_cases d2 : n < sa + na
      · have z1 := toA n n1 d2
        have z2 := highB m (by omega) (by omega)
        show kn f (arrOf st) n ≤ kn f (arrOf st) m
        omega
      · exact ub n m (by omega) n2 (by omega)
  rw [if_neg (by simpa using c2)]
  have x1 : ((arrOf st).extract (sa + k) (sa + na)).size = na - k := by rw [Array.size_extract]; omega
  have y1 : ((arrOf st).extract (sa + na) (sa + na + t)).size = t := by rw [Array.size_extract]; omega
  have xg : ∀ n, n < na - k → kn f ((arrOf st).extract (sa + k) (sa + na)) n = kn f (arrOf st) (sa + k + n) := fun n hn => kn_congr (ext_get (by omega) (by omega))
  have yg : ∀ n, n < t → kn f ((arrOf st).extract (sa + na) (sa + na + t)) n = kn f (arrOf st) (sa + na + n) := fun n hn => kn_congr (ext_get (by omega) (by omega))
  have hiA : ∀ n, sa + k ≤ n → n < sa + na → f b0 < kn f (arrOf st) n := fun n n1 n2 => by
    have := k3 (n - sa) (by omega) (by omega)
    rw [show sa + (n - sa) = n by omega] at this
    exact this
  have inx : ∀ (lo hi : Nat), InA a₀ ((arrOf st).extract lo hi) := fun lo hi x hx => by
    rw [Array.toList_extract, List.extract_eq_drop_take] at hx
    exact hB.inA x (List.mem_of_mem_drop (List.mem_of_mem_take hx))
  have T : Two a₀ f ((arrOf st).extract (sa + k) (sa + na)) ((arrOf st).extract (sa + na) (sa + na + t)) := {
    ia := inx _ _
    ib := inx _ _
    ua := fun n m _ n2 n3 => by
      rw [xg n (by omega), xg m (by omega)]
      exact ua _ _ (by omega) (by omega) (by omega)
    ub := fun n m _ n2 n3 => by
      rw [yg n (by omega), yg m (by omega)]
      exact ub _ _ (by omega) (by omega) (by omega)
    na := by omega
    nb := by omega
    lo := fun n hn => by
      rw [xg n (by omega), yg 0 (by omega), Nat.add_zero, kn_at hb0]
      exact Int.le_of_lt (hiA _ (by omega) (by omega))
    hi := fun n hn => by
      rw [x1, xg _ (by omega), yg n (by omega), show sa + k + (na - k - 1) = sa + na - 1 by omega, kn_at haN]
      exact Int.le_of_lt (t2 n (by omega)) }
  have fin : ∀ m st', Ev (setPending st (((pendingOf st).setIfInBounds i (sa, na + nb, w)).eraseIdxIfInBounds (i + 1))) st' → Fin f ((arrOf st).extract (sa + k) (sa + na)) ((arrOf st).extract (sa + na) (sa + na + t)) m →
      wpS M A E s (modify (fun z => setArr z (layIn (arrOf z) m (sa + k))) >>= fun _ => get >>= fun z => pure (failedOf z).isNone) Q st' := by
    intro m st' ev g
    have ea : arrOf st' = arrOf st := ev.a
    have hm : m.size = na - k + t := by
      have := g.1.length_eq
      rw [Array.length_toList, List.length_append, Array.length_toList, Array.length_toList, x1, y1] at this
      exact this
    refine wpS_bind (wpS_modify (wpS_bind (wpS_get (wpS_pure ?_))))
    have hf : failedOf st' = none := ev.f.trans hB.fail
    show Q (failedOf st').isNone _
    rw [hf]
    have hl : sa + k + m.size ≤ (arrOf st).size := by omega
    have mel : ∀ n, n < m.size → ∃ p, sa + k ≤ p ∧ p < sa + na + t ∧ kn f m n = kn f (arrOf st) p := fun n hn => by
      obtain ⟨x, hx⟩ := at_of (a := m) hn
      have hxm : x ∈ m.toList := by
        rw [Array.getElem?_eq_some_iff] at hx
        obtain ⟨_, rfl⟩ := hx
        simp
      have := g.1.mem_iff.mp hxm
      rw [kn_at hx]
      rcases List.mem_append.mp this with z | z
      · obtain ⟨q, q1⟩ := List.getElem?_of_mem z
        rw [Array.getElem?_toList] at q1
        have q2 := (Array.getElem?_eq_some_iff.mp q1).1
        refine ⟨sa + k + q, by omega, by omega, ?_⟩
        rw [← xg q (by omega), kn_at q1]
      · obtain ⟨q, q1⟩ := List.getElem?_of_mem z
        rw [Array.getElem?_toList] at q1
        have q2 := (Array.getElem?_eq_some_iff.mp q1).1
        refine ⟨sa + na + q, by omega, by omega, ?_⟩
        rw [← yg q (by omega), kn_at q1]
    have ms : ∀ n q, n ≤ q → q < m.size → kn f m n ≤ kn f m q := fun n q n1 n2 => by
      by_cases e : n = q
      · rw [e]; exact Int.le_refl _
      · have := List.pairwise_iff_getElem.mp g.2 n q (by rw [Array.length_toList]; omega) (by rw [Array.length_toList]; omega) (by omega)
        rw [kn_at (getElem?_pos m n (by omega)), kn_at (getElem?_pos m q n2)]
        simpa [leK] using this
    have lk : ∀ n, kn f (layIn (arrOf st') m (sa + k)) n = if sa + k ≤ n ∧ n < sa + na + t then kn f m (n - (sa + k)) else kn f (arrOf st) n := fun n => by
      rw [ea]
      have := lay_get hl n
      by_cases e : sa + k ≤ n ∧ n < sa + na + t
      · rw [if_pos e]
        rw [if_pos (by omega)] at this
        exact kn_congr this
      · rw [if_neg e]
        rw [if_neg (by omega)] at this
        exact kn_congr this
    refine h (setArr st' (layIn (arrOf st') m (sa + k))) ⟨?_, ev.k.trans hB.kind, hf⟩ ev.p (fun n q n1 n2 n3 => ?_) fun n hn => ?_
    · show (layIn (arrOf st') m (sa + k)).Perm a₀
      rw [ea]
      refine Array.Perm.trans ?_ hB.perm
      rw [Array.perm_iff_toList_perm, lay_list hl]
      have e1 : (arrOf st).toList = (arrOf st).toList.take (sa + k) ++ (((arrOf st).extract (sa + k) (sa + na)).toList ++ ((arrOf st).extract (sa + na) (sa + na + t)).toList) ++ (arrOf st).toList.drop (sa + k + m.size) := by
        rw [Array.toList_extract, Array.toList_extract, List.extract_eq_drop_take, List.extract_eq_drop_take]
        have s1 : ((arrOf st).toList.drop (sa + k)).take (sa + na - (sa + k)) ++ ((arrOf st).toList.drop (sa + na)).take (sa + na + t - (sa + na)) = ((arrOf st).toList.drop (sa + k)).take m.size := by
          rw [show m.size = (sa + na - (sa + k)) + (sa + na + t - (sa + na)) by omega, List.take_add, List.drop_drop, show sa + k + (sa + na - (sa + k)) = sa + na by omega]
        rw [s1, List.append_assoc, show (arrOf st).toList.drop (sa + k + m.size) = ((arrOf st).toList.drop (sa + k)).drop m.size by rw [List.drop_drop], List.take_append_drop, List.take_append_drop]
      conv => rhs; rw [e1]
      exact List.Perm.append_right _ (List.Perm.append_left _ g.1)
    · show kn f (layIn (arrOf st') m (sa + k)) n ≤ kn f (layIn (arrOf st') m (sa + k)) q
      rw [lk, lk]
      by_cases c3 : sa + k ≤ n ∧ n < sa + na + t
      · rw [if_pos c3]
        by_cases c4 : sa + k ≤ q ∧ q < sa + na + t
        · rw [if_pos c4]
          exact ms _ _ (by omega) (by omega)
        · rw [if_neg c4]
          obtain ⟨p, q1, q2, q3⟩ := mel (n - (sa + k)) (by omega)
          rw [q3]
          by_cases c5 : p < sa + na
          · have z1 := toA p (by omega) c5
            have z2 := highB q (by omega) (by omega)
            omega
          · exact ub p q (by omega) (by omega) (by omega)
      · rw [if_neg c3]
        by_cases c4 : sa + k ≤ q ∧ q < sa + na + t
        · rw [if_pos c4]
          obtain ⟨p, q1, q2, q3⟩ := mel (q - (sa + k)) (by omega)
          rw [q3]
          have z1 := lowA n n1 (by omega)
          by_cases c5 : p < sa + na
          · exact ua n p n1 (by omega) c5
          · have z2 := fromB p (by omega) (by omega)
            omega
        · rw [if_neg c4]
          by_cases c5 : q < sa + na
          · exact ua n q n1 n2 c5
          · by_cases c6 : n < sa + na
            · have z1 := lowA n n1 (by omega)
              have z2 := fromB q (by omega) (by omega)
              omega
            · exact ub n q (by omega) n2 (by omega)
    · show (layIn (arrOf st') m (sa + k))[n]? = (arrOf st)[n]?
      rw [ea, lay_get hl, if_neg (by omega)]
  by_cases c3 : na - k ≤ t
  · rw [if_pos c3]
    exact wpS_bind (mLo_ok L hB1.kind T fin)
  · rw [if_neg c3]
    exact wpS_bind (mHi_ok L hB1.kind T fin)
end
end L2S

set_option linter.all false
set_option maxRecDepth 100000
set_option maxHeartbeats 4000000
namespace L2S
open PySem PyProof.Rows
section
variable {M : Model} {A : Around} {E : Value → Shared → Prop} {s : Shared} {κ : SortKind} {a₀ : Array Keyed} {f : Keyed → Int}
/-- runs end to end -/
def Chn (f : Keyed → Int) (xs : Array Keyed) : Nat → List PT → Nat → Prop
  | a, [], e => a = e
  | a, (b, n, _) :: r, e => b = a ∧ 1 ≤ n ∧ Up f xs a n ∧ Chn f xs (a + n) r e
theorem Chn.le {xs : Array Keyed} : ∀ {l : List PT} {a e : Nat}, Chn f xs a l e → a + l.length ≤ e
  | [], a, e, h => by have : a = e := h; rw [List.length_nil]; omega
  | (b, n, w) :: r, a, e, h => by
    obtain ⟨_, h1, _, h2⟩ := h
    have := h2.le
    rw [List.length_cons]
    omega
theorem Chn.keep {xs ys : Array Keyed} : ∀ {l : List PT} {a e : Nat}, Chn f xs a l e → (∀ k, a ≤ k → k < e → ys[k]? = xs[k]?) → Chn f ys a l e
  | [], a, e, h, _ => h
  | (b, n, w) :: r, a, e, ⟨h0, h1, h2, h3⟩, k => by
    have hl := h3.le
    refine ⟨h0, h1, fun i j z1 z2 z3 => ?_, h3.keep fun m m1 m2 => k m (by omega) m2⟩
    rw [kn_congr (k i z1 (by omega)), kn_congr (k j (by omega) (by omega))]
    exact h2 i j z1 z2 z3
theorem Chn.app {xs : Array Keyed} : ∀ {l m : List PT} {a e : Nat}, Chn f xs a (l ++ m) e ↔ ∃ c, Chn f xs a l c ∧ Chn f xs c m e
  | [], m, a, e => ⟨fun h => ⟨a, rfl, h⟩, fun ⟨c, h1, h2⟩ => by have : a = c := h1; rw [this]; exact h2⟩
  | (b, n, w) :: r, m, a, e => by
    constructor
    · rintro ⟨h0, h1, h2, h3⟩
      obtain ⟨c, h4, h5⟩ := Chn.app.mp h3
      exact ⟨c, ⟨h0, h1, h2, h4⟩, h5⟩
    · rintro ⟨c, ⟨h0, h1, h2, h4⟩, h5⟩
      exact ⟨h0, h1, h2, Chn.app.mpr ⟨c, h4, h5⟩⟩
theorem two_of {l : List PT} {i : Nat} (h : i + 1 < l.length) : ∃ l1 x y l2, l = l1 ++ x :: y :: l2 ∧ l1.length = i := by
  refine ⟨l.take i, l[i], l[i + 1], l.drop (i + 2), ?_, by rw [List.length_take]; omega⟩
  rw [← List.drop_eq_getElem_cons (by omega), ← List.drop_eq_getElem_cons (by omega), List.take_append_drop]
theorem join_of {l1 l2 : List PT} {x y v : PT} {i : Nat} (h : l1.length = i) : ((l1 ++ x :: y :: l2).set i v).eraseIdx (i + 1) = l1 ++ v :: l2 := by
  subst h
  rw [List.set_append_right _ _ (Nat.le_refl _), Nat.sub_self, List.set_cons_zero, List.eraseIdx_append_of_length_le (by omega), show l1.length + 1 - l1.length = 1 by omega]
  rfl
/-- two neighbours of the runs joined -/
theorem join_at {st : SortSt} {i lo : Nat} {Q : Bool → SortSt → Prop} (L : Asks M A E s κ a₀ f) (hB : SB κ a₀ st) (hc : Chn f (arrOf st) 0 (pendingOf st).toList lo) (hlo : lo ≤ a₀.size) (hi : i + 1 < (pendingOf st).size)
    (h : ∀ st', SB κ a₀ st' → Chn f (arrOf st') 0 (pendingOf st').toList lo → (pendingOf st').size + 1 = (pendingOf st).size → (∀ k, lo ≤ k → (arrOf st')[k]? = (arrOf st)[k]?) → Q true st') : wpS M A E s (mergeAt' i) Q st := by
  obtain ⟨l1, ⟨b1, n1, w1⟩, ⟨b2, n2, w2⟩, l2, el, hl⟩ := two_of (l := (pendingOf st).toList) (i := i) (by rw [Array.length_toList]; exact hi)
  have hc' := hc
  rw [el] at hc'
  obtain ⟨c, c1, rfl, c2, c3, rfl, c4, c5, c6⟩ := Chn.app.mp hc'
  have le := c6.le
  have p1 : (pendingOf st)[i]? = some (b1, n1, w1) := by
    rw [← Array.getElem?_toList, el, List.getElem?_append_right (by omega), hl, Nat.sub_self]
    rfl
  have p2 : (pendingOf st)[i + 1]? = some (b1 + n1, n2, w2) := by
    rw [← Array.getElem?_toList, el, List.getElem?_append_right (by omega), show i + 1 - l1.length = 1 by omega]
    rfl
  refine merge_at L hB p1 p2 c2 c4 (by omega) c3 c5 fun st' hB' hp hu hk => ?_
  have e2 : (pendingOf st').toList = l1 ++ (b1, n1 + n2, w1) :: l2 := by
    rw [hp, Array.toList_eraseIdxIfInBounds, Array.toList_setIfInBounds, el]
    exact join_of hl
  refine h st' hB' ?_ ?_ fun k hk2 => hk k (.inr (by omega))
  · rw [e2]
    have le1 := c1.le
    refine Chn.app.mpr ⟨b1, c1.keep fun k k1 k2 => hk k (.inl k2), rfl, by omega, hu, ?_⟩
    rw [show b1 + (n1 + n2) = b1 + n1 + n2 by omega]
    exact c6.keep fun k k1 k2 => hk k (.inr k1)
  · have z1 := congrArg List.length e2
    have z2 := congrArg List.length el
    rw [Array.length_toList, List.length_append, List.length_cons] at z1 z2
    rw [List.length_cons] at z2
    omega
theorem Chn.pow {xs : Array Keyed} {l : List PT} {b n w v a e : Nat} (h : Chn f xs a (l ++ [(b, n, w)]) e) : Chn f xs a (l ++ [(b, n, v)]) e := by
  obtain ⟨c, c1, c2, c3, c4, c5⟩ := Chn.app.mp h
  exact Chn.app.mpr ⟨c, c1, c2, c3, c4, c5⟩
def more (sz pw : Nat) : SM (Option Unit × Unit) := forIn [0:sz] ((none, ()) : Option Unit × Unit) fun _ _ => do
  let z ← get
  match if (pendingOf z).size > 1 then (pendingOf z)[(pendingOf z).size - 2]? else none with
  | some (_, _, old) =>
    if old ≤ pw then pure (ForInStep.done (none, ()))
    else do
      let b ← mergeAt' ((pendingOf z).size - 2)
      if (!b) = true then pure (ForInStep.done (some (), ())) else pure (ForInStep.yield (none, ()))
  | _ => pure (ForInStep.done (none, ()))
def pile (sz lo n : Nat) : SM (ForInStep (Option Unit × Nat)) := do
  let z ← get
  match (pendingOf z).back? with
  | some (s1, n1, _) => do
    let c ← more sz (power' sz (2 * s1 + n1) (2 * s1 + n1 + n1 + n) sz)
    match c.fst with
    | some r => pure (ForInStep.done (some r, lo))
    | none => do
      modify fun z => setPending z ((pendingOf z).modify ((pendingOf z).size - 1) fun x => (x.fst, x.2.fst, power' sz (2 * s1 + n1) (2 * s1 + n1 + n1 + n) sz))
      modify fun z => setPending z ((pendingOf z).push (lo, n, 0))
      pure (ForInStep.yield (none, lo + n))
  | _ => do
    modify fun z => setPending z ((pendingOf z).push (lo, n, 0))
    pure (ForInStep.yield (none, lo + n))
abbrev PQ (κ : SortKind) (a₀ : Array Keyed) (f : Keyed → Int) (lo n : Nat) (st : SortSt) : Prop := SB κ a₀ st ∧ Chn f (arrOf st) 0 (pendingOf st).toList lo ∧ Up f (arrOf st) lo n
theorem more_ok {sz pw lo n : Nat} {st : SortSt} {Q : Option Unit × Unit → SortSt → Prop} (L : Asks M A E s κ a₀ f) (hlo : lo ≤ a₀.size) (hq : PQ κ a₀ f lo n st) (h : ∀ st', PQ κ a₀ f lo n st' → Q (none, ()) st') : wpS M A E s (more sz pw) Q st := by
  unfold more
  refine wpS_forRange (I := fun x c st' => c = (none, ()) ∧ PQ κ a₀ f lo n st') ?_ ?_ ⟨rfl, hq⟩
  · rintro x c st1 _ _ ⟨rfl, hB, hc, hu⟩
    refine wpS_bind (wpS_get ?_)
    by_cases h1 : (pendingOf st1).size > 1
    · rw [if_pos h1, getElem?_pos (pendingOf st1) ((pendingOf st1).size - 2) (by omega)]
      dsimp only
      split
      · exact wpS_pure (h _ ⟨hB, hc, hu⟩)
      · refine wpS_bind (join_at L hB hc hlo (by omega) fun st2 hB2 hc2 _ hk2 => ?_)
        exact wpS_pure ⟨rfl, hB2, hc2, fun i j z1 z2 z3 => by rw [kn_congr (hk2 i z1), kn_congr (hk2 j (by omega))]; exact hu i j z1 z2 z3⟩
    · rw [if_neg h1]
      exact wpS_pure (h _ ⟨hB, hc, hu⟩)
  · rintro c st1 ⟨rfl, hq⟩
    exact h _ hq
theorem modify_last {p : Array PT} {w : Nat} {l : List PT} {b n v : Nat} (h : p.toList = l ++ [(b, n, v)]) : (p.modify (p.size - 1) fun x => (x.fst, x.2.fst, w)).toList = l ++ [(b, n, w)] := by
  have hs : p.size = l.length + 1 := by rw [← Array.length_toList, h, List.length_append]; rfl
  refine List.ext_getElem? fun i => ?_
  rw [Array.getElem?_toList, Array.getElem?_modify]
  rw [← Array.getElem?_toList, h]
  by_cases c : p.size - 1 = i
  · rw [if_pos c, List.getElem?_append_right (by omega), List.getElem?_append_right (by omega), show i - l.length = 0 by omega]
    rfl
  · rw [if_neg c]
    by_cases c2 : i < l.length
    · rw [List.getElem?_append_left c2, List.getElem?_append_left c2]
    · rw [List.getElem?_eq_none (by rw [List.length_append, List.length_singleton]; omega), List.getElem?_eq_none (by rw [List.length_append, List.length_singleton]; omega)]
theorem pile_ok {lo n : Nat} {st : SortSt} {Q : ForInStep (Option Unit × Nat) → SortSt → Prop} (L : Asks M A E s κ a₀ f) (hn : 1 ≤ n) (hln : lo + n ≤ a₀.size) (hq : PQ κ a₀ f lo n st)
    (h : ∀ st', SB κ a₀ st' → Chn f (arrOf st') 0 (pendingOf st').toList (lo + n) → Q (.yield (none, lo + n)) st') : wpS M A E s (pile a₀.size lo n) Q st := by
  have fin : ∀ st3 : SortSt, PQ κ a₀ f lo n st3 → wpS M A E s (modify (fun z => setPending z ((pendingOf z).push (lo, n, 0))) >>= fun _ => pure (ForInStep.yield ((none, lo + n) : Option Unit × Nat))) Q st3 := by
    rintro st3 ⟨hB3, hc3, hu3⟩
    refine wpS_bind (wpS_modify (wpS_pure (h _ ⟨hB3.perm, hB3.kind, hB3.fail⟩ ?_)))
    show Chn f (arrOf st3) 0 ((pendingOf st3).push (lo, n, 0)).toList (lo + n)
    rw [Array.toList_push]
    exact Chn.app.mpr ⟨lo, hc3, rfl, hn, hu3, rfl⟩
  unfold pile
  refine wpS_bind (wpS_get ?_)
  cases hb : (pendingOf st).back? with
  | none => exact fin st hq
  | some t =>
    obtain ⟨s1, n1, w1⟩ := t
    dsimp only
    refine wpS_bind (more_ok L (by omega) hq fun st2 hq2 => ?_)
    dsimp only
    refine wpS_bind (wpS_modify (fin _ ?_))
    obtain ⟨hB2, hc2, hu2⟩ := hq2
    refine ⟨⟨hB2.perm, hB2.kind, hB2.fail⟩, ?_, hu2⟩
    show Chn f (arrOf st2) 0 ((pendingOf st2).modify _ _).toList lo
    rcases List.eq_nil_or_concat (pendingOf st2).toList with e | ⟨l, ⟨b, k, v⟩, e⟩
    · have : pendingOf st2 = #[] := by rw [← Array.toList_inj, e]
      rw [this] at hc2 ⊢
      exact hc2
    · rw [List.concat_eq_append] at e
      rw [modify_last e]
      rw [e] at hc2
      exact hc2.pow
theorem ite_less (c : Prop) [Decidable c] (n : Nat) : (if c then n - 1 else n) ≤ n := by split <;> omega
theorem wpS_cast {α : Type} {m m' : SM α} {Q Q' : α → SortSt → Prop} {st : SortSt} (e : m = m') (h : wpS M A E s m' Q' st) (q : ∀ a st', Q' a st' → Q a st') : wpS M A E s m Q st := by rw [e]; exact wpS_mono h q
theorem sort_runs {st : SortSt} {Q : Unit → SortSt → Prop} (L : Asks M A E s κ a₀ f) (hB : SB κ a₀ st) (hp : pendingOf st = #[]) (h2 : 2 ≤ a₀.size)
    (h : ∀ st', SB κ a₀ st' → Up f (arrOf st') 0 a₀.size → Q () st') : wpS M A E s sortRuns' Q st := by
  rw [sortRuns'_eq]
  refine wpS_bind (wpS_get ?_)
  dsimp only
  rw [hB.size]
  generalize minRun' a₀.size a₀.size 0 = mr
  refine wpS_bind (wpS_mono (wpS_forRange (I := fun x c st' => ∃ lo, c = (none, lo) ∧ SB κ a₀ st' ∧ Chn f (arrOf st') 0 (pendingOf st').toList lo ∧ lo ≤ a₀.size ∧ min x a₀.size ≤ lo)
    (Q := fun c st' => c = (none, a₀.size) ∧ SB κ a₀ st' ∧ Chn f (arrOf st') 0 (pendingOf st').toList a₀.size) ?_ ?_ ⟨0, rfl, hB, by rw [hp]; rfl, by omega, by omega⟩) ?_)
  · rintro x c st1 _ hx ⟨lo, rfl, hB1, hc1, hlo, hxl⟩
    dsimp only
    by_cases hge : lo ≥ a₀.size
    · rw [if_pos hge]
      have : lo = a₀.size := by omega
      subst this
      exact wpS_pure ⟨rfl, hB1, hc1⟩
    rw [if_neg hge]
    refine wpS_bind (count_run L (by omega) (by omega) hB1 fun m st2 hB2 hm1 hm2 hu2 hk2 hp2 => ?_)
    dsimp only
    have hc2 : Chn f (arrOf st2) 0 (pendingOf st2).toList lo := by
      rw [hp2]
      exact hc1.keep fun k _ k2 => hk2 k k2
    have done : ∀ (n : Nat) (st3 : SortSt), 1 ≤ n → lo + n ≤ a₀.size → PQ κ a₀ f lo n st3 → wpS M A E s (pile a₀.size lo n)
        (fun r st' => match r with | .done c' => c' = (none, a₀.size) ∧ SB κ a₀ st' ∧ Chn f (arrOf st') 0 (pendingOf st').toList a₀.size | .yield c' => ∃ lo, c' = (none, lo) ∧ SB κ a₀ st' ∧ Chn f (arrOf st') 0 (pendingOf st').toList lo ∧ lo ≤ a₀.size ∧ min (x + 1) a₀.size ≤ lo) st3 :=
      fun n st3 hn hln hq => pile_ok L hn hln hq fun st' hB' hc' => ⟨lo + n, rfl, hB', hc', hln, by omega⟩
    by_cases hlt : m < mr
    · rw [if_pos hlt]
      refine wpS_bind (wpS_lift (wpAny_rule ⟨rfl, ?_⟩))
      refine wpS_bind (bin_sort L (by omega) (by omega) hB2 hu2 fun st3 hB3 hu3 hk3 hp3 => ?_)
      rw [if_neg (by decide)]
      refine wpS_cast (by
        refine bnd _ fun z => ?_
        cases (pendingOf z).back? with
        | none => rfl
        | some t =>
          obtain ⟨s1, n1, w1⟩ := t
          refine bnd2 (for2 fun _ c => bnd _ fun z2 => ?_) fun c => ?_
          · generalize (if (pendingOf z2).size > 1 then (pendingOf z2)[(pendingOf z2).size - 2]? else none) = t2
            cases t2 with
            | none => rfl
            | some t2 => rfl
          · obtain ⟨r, u⟩ := c
            cases r with
            | none => rfl
            | some r => rfl) (done _ st3 (by omega) (by omega) ⟨hB3, by rw [hp3]; exact hc2.keep fun k _ k2 => hk3 k k2, hu3⟩) fun r st' z => by cases r <;> exact z
    · rw [if_neg hlt]
      refine wpS_cast (by
        refine bnd _ fun z => ?_
        cases (pendingOf z).back? with
        | none => rfl
        | some t =>
          obtain ⟨s1, n1, w1⟩ := t
          refine bnd2 (for2 fun _ c => bnd _ fun z2 => ?_) fun c => ?_
          · generalize (if (pendingOf z2).size > 1 then (pendingOf z2)[(pendingOf z2).size - 2]? else none) = t2
            cases t2 with
            | none => rfl
            | some t2 => rfl
          · obtain ⟨r, u⟩ := c
            cases r with
            | none => rfl
            | some r => rfl) (done m st2 hm1 (by omega) ⟨hB2, hc2, hu2⟩) fun r st' z => by cases r <;> exact z
  · rintro c st1 ⟨lo, rfl, hB1, hc1, hlo, hxl⟩
    have : lo = a₀.size := by omega
    subst this
    exact ⟨rfl, hB1, hc1⟩
  · rintro c st1 ⟨rfl, hB1, hc1⟩
    dsimp only
    refine wpS_bind (wpS_mono (wpS_forRange (I := fun x c st' => c = (none, ()) ∧ SB κ a₀ st' ∧ Chn f (arrOf st') 0 (pendingOf st').toList a₀.size ∧ ((pendingOf st').size + x ≤ a₀.size ∨ (pendingOf st').size ≤ 1))
      (Q := fun c st' => c = (none, ()) ∧ SB κ a₀ st' ∧ Chn f (arrOf st') 0 (pendingOf st').toList a₀.size ∧ (pendingOf st').size ≤ 1) ?_ ?_ ?_) ?_)
    · rintro x c st2 _ hx ⟨rfl, hB2, hc2, hz2⟩
      refine wpS_bind (wpS_get ?_)
      by_cases h1 : (pendingOf st2).size ≤ 1
      · rw [if_pos h1]
        exact wpS_pure ⟨rfl, hB2, hc2, h1⟩
      rw [if_neg h1]
      have go : ∀ i, i + 1 < (pendingOf st2).size → wpS M A E s (mergeAt' i >>= fun b => if (!b) = true then pure (ForInStep.done (some (), ())) else pure (ForInStep.yield ((none, ()) : Option Unit × Unit)))
          (fun r st' => match r with | .done c' => c' = (none, ()) ∧ SB κ a₀ st' ∧ Chn f (arrOf st') 0 (pendingOf st').toList a₀.size ∧ (pendingOf st').size ≤ 1 | .yield c' => c' = (none, ()) ∧ SB κ a₀ st' ∧ Chn f (arrOf st') 0 (pendingOf st').toList a₀.size ∧ ((pendingOf st').size + (x + 1) ≤ a₀.size ∨ (pendingOf st').size ≤ 1)) st2 := fun i hi => by
        refine wpS_bind (join_at L hB2 hc2 (Nat.le_refl _) hi fun st3 hB3 hc3 hz3 _ => ?_)
        exact wpS_pure ⟨rfl, hB3, hc3, by omega⟩
      refine wpS_mono (go _ ?_) fun r st' z => by cases r <;> exact z
      exact Nat.lt_of_le_of_lt (Nat.add_le_add_right (ite_less _ _) 1) (by omega)
    · rintro c st2 ⟨rfl, hB2, hc2, hz2⟩
      exact ⟨rfl, hB2, hc2, by omega⟩
    · refine ⟨rfl, hB1, hc1, .inl ?_⟩
      have := hc1.le
      rw [Array.length_toList] at this
      omega
    · rintro c st2 ⟨rfl, hB2, hc2, hz2⟩
      refine wpS_pure (h st2 hB2 ?_)
      cases e : (pendingOf st2).toList with
      | nil =>
        rw [e] at hc2
        have : 0 = a₀.size := hc2
        omega
      | cons t r =>
        have hl := congrArg List.length e
        rw [Array.length_toList, List.length_cons] at hl
        have hr : r = [] := List.length_eq_zero_iff.mp (by omega)
        subst hr
        obtain ⟨b, n, w⟩ := t
        rw [e] at hc2
        obtain ⟨_, _, hu, hn⟩ := hc2
        have : 0 + n = a₀.size := hn
        rw [Nat.zero_add] at this
        rw [← this]
        exact hu
end
end L2S

set_option linter.all false
set_option maxRecDepth 100000
set_option maxHeartbeats 4000000
namespace L2S
open PySem PyProof.Rows
/-- the heap while a list is sorted -/
abbrev midHeap (h : Heap) (a : Addr) (vs : List Value) : Heap := ((h.update a (Obj.mapSeq fun _ => #[])).push (seqObj "tuple" vs.toArray 0)).push (seqObj "list" #[] 0)
section
variable {prog : Program} {w : World} {A : Around} {E : Value → Shared → Prop} {s : Shared}
theorem mid_old {h : Heap} {a b : Addr} {vs : List Value} {o : Obj} (hb : b ≠ a) (e : h.get? b = some o) : (midHeap h a vs).get? b = some o := by
  refine Heap.get?_push_of_some _ (Heap.get?_push_of_some _ ?_)
  exact (Heap.get?_update_other _ _ (Ne.symm hb)).trans e
theorem sort_any {a : Addr} {vs : List Value} {n : Nat} {κ : SortKind} {f : Keyed → Int} {P : PySem.Fin → Shared → Prop} (ho : s.heap.get? a = some (seqObj "list" vs.toArray n)) (hz : vs.length ≤ 1000)
    (hkind : 2 ≤ vs.length → ∀ Q' : SortKind → Shared → Prop, Q' κ { s with heap := midHeap s.heap a vs } → wpAny (model prog w) A (keyKind' vs.toArray) Q' E { s with heap := midHeap s.heap a vs })
    (hask : 2 ≤ vs.length → Asks (model prog w) A E { s with heap := midHeap s.heap a vs } κ (pairsOf vs) f)
    (h : ∀ out : Array Keyed, out.Perm (pairsOf vs) → Up f out 0 vs.length → P (.done (.ret .none)) { s with heap := sortedHeap s.heap a vs (out.map (·.2)) }) : wpAny (model prog w) A (Builtin.«list.sort» ⟨[.ref a], []⟩) P E s := by
  rw [list_sort_plain]
  have ha : a < s.heap.objs.size := Heap.lt_size ho
  refine wpAny_bind (listItems_at ho rfl ?_)
  refine wpAny_bind (listUpdate_at ho rfl ?_)
  obtain ⟨e1, ho1⟩ : ∃ e1, (s.heap.update a (Obj.mapSeq fun _ => #[])).get? a = some (seqObj "list" #[] e1) := ⟨_, get?_update_seq ho (fun _ => #[])⟩
  refine wpAny_bind (seqEpoch_at ho1 rfl ?_)
  refine wpAny_bind (wpAny_newTuple (wpAny_bind (wpAny_newList (wpAny_holding ?_))))
  have ho6 : (midHeap s.heap a vs).get? a = some (seqObj "list" #[] e1) := Heap.get?_push_of_some _ (Heap.get?_push_of_some _ ho1)
  show wpAny (model prog w) A _ P E { s with heap := midHeap s.heap a vs }
  dsimp only
  have hsz : vs.toArray.size = vs.length := List.size_toArray ..
  have hl : vs.length ≤ sizeLine := Nat.le_trans hz (by decide)
  rw [hsz]
  by_cases h2 : vs.length < 2
  · rw [if_pos h2, if_pos h2]
    refine wpAny_bind (wpAny_pure ?_)
    rw [StateT.run_pure]
    refine wpAny_bind (wpAny_pure ?_)
    dsimp only
    refine wpAny_bind (seqEpoch_at ho6 rfl ?_)
    refine wpAny_bind (listUpdate_at ho6 rfl ?_ (hsz2 := by rw [Array.size_map]; show (pairsOf vs).size ≤ _; rw [pairsOf_size]; omega))
    rw [if_neg (by simp)]
    exact wpAny_pure (h (pairsOf vs) (Array.Perm.refl _) fun i j _ z2 z3 => by rw [show i = j by omega]; exact Int.le_refl _)
  · rw [if_neg h2, if_neg h2]
    refine wpAny_bind (hkind (by omega) _ ?_)
    refine wpAny_bind (wpAny_mono (sort_runs (st := SortSt.mk' κ (vs.toArray.zip vs.toArray) #[] 7 none) (Q := fun _ st' => SB κ (pairsOf vs) st' ∧ Up f (arrOf st') 0 (pairsOf vs).size) (hask (by omega)) ⟨Array.Perm.refl _, rfl, rfl⟩ rfl (by rw [pairsOf_size]; omega) fun st' a1 a2 => ⟨a1, a2⟩) ?_ fun _ _ e => e)
    rintro ⟨⟨⟩, st'⟩ s' ⟨rfl, hB, hu⟩
    dsimp only
    refine wpAny_bind (seqEpoch_at ho6 rfl ?_)
    have hs : (arrOf st').size = (pairsOf vs).size := hB.size
    rw [pairsOf_size] at hs hu
    refine wpAny_bind (listUpdate_at ho6 rfl ?_ (hsz2 := by rw [Array.size_map]; omega))
    rw [hB.fail, if_neg (by simp)]
    exact wpAny_pure (h _ hB.perm hu)
theorem sorted_any {l : Addr} {vs : List Value} {κ : SortKind} {f : Keyed → Int} {Q : Value → Shared → Prop} (hl : s.heap.IsList l vs.toArray) (hz : vs.length ≤ 1000)
    (hkind : ∀ h' : Heap, (∀ b o, s.heap.get? b = some o → h'.get? b = some o) → 2 ≤ vs.length → ∀ (A' : Around) (E' : Value → Shared → Prop) (Q' : SortKind → Shared → Prop), A'.units ≤ A.units + 8 → Q' κ { s with heap := h' } → wpAny (model prog w) A' (keyKind' vs.toArray) Q' E' { s with heap := h' })
    (hask : ∀ h' : Heap, (∀ b o, s.heap.get? b = some o → h'.get? b = some o) → 2 ≤ vs.length → ∀ (A' : Around) (E' : Value → Shared → Prop), A'.units ≤ A.units + 8 → Asks (model prog w) A' E' { s with heap := h' } κ (pairsOf vs) f)
    (h : ∀ out : Array Keyed, out.Perm (pairsOf vs) → Up f out 0 vs.length → Q (.ref (s.heap.objs.size + 1)) { s with heap := sortedAll s.heap vs (out.map (·.2)) }) : wpAny (model prog w) A (call (.builtin "sorted") [.ref l]) Q E s := by
  refine Calls.call_function_entry kind_sorted plain_sorted entry_sorted (args_sorted1 _) ?_
  unfold Builtin.«sorted»
  refine wpAny_bind (m := checkCount "sorted" 1 1 _) (wpAny_pure ?_)
  refine wpAny_bind (collect_list hl ?_ (Nat.le_trans hz (by decide)))
  refine wpAny_bind (wpAny_newList ?_)
  have z1 : ((s.heap.push (seqObj "list" #[] 0)).update s.heap.objs.size (Obj.mapSeq (· ++ vs.toArray))).objs.size = s.heap.objs.size + 1 := (Heap.size_update ..).trans (size_push' ..)
  have g1 : (((s.heap.push (seqObj "list" #[] 0)).update s.heap.objs.size (Obj.mapSeq (· ++ vs.toArray))).push (seqObj "list" vs.toArray 0)).get? (s.heap.objs.size + 1) = some (seqObj "list" vs.toArray 0) := by
    rw [← z1]; exact Heap.get?_push_size _ rfl
  have old : ∀ b o, s.heap.get? b = some o → (midHeap (((s.heap.push (seqObj "list" #[] 0)).update s.heap.objs.size (Obj.mapSeq (· ++ vs.toArray))).push (seqObj "list" vs.toArray 0)) (s.heap.objs.size + 1) vs).get? b = some o := fun b o e => by
    have lt := Heap.lt_size e
    refine mid_old (Nat.ne_of_lt (Nat.lt_succ_of_lt lt)) (Heap.get?_push_of_some _ ?_)
    exact (Heap.get?_update_other _ _ (Nat.ne_of_gt lt)).trans (Heap.get?_push_of_some _ e)
  show wpAny _ _ _ _ _ { s with heap := ((s.heap.push (seqObj "list" #[] 0)).update s.heap.objs.size (Obj.mapSeq (· ++ vs.toArray))).push (seqObj "list" vs.toArray 0) }
  rw [z1]
  refine wpAny_bind (wpAny_holding (wpAny_call_entry slot_list_sort ⟨_, g1, rfl⟩ entry_list_sort (sort_any g1 hz (fun h2 Q' q => hkind _ old h2 _ _ Q' ?_ q) (fun h2 => hask _ old h2 _ _ ?_) fun out a1 a2 => ⟨_, rfl, ?_⟩) (args_list_sort _)))
  · show A.units + 1 + 1 ≤ A.units + 8; omega
  · show A.units + 1 + 1 ≤ A.units + 8; omega
  · exact wpAny_pure ⟨_, rfl, h out a1 a2⟩
end
end L2S

set_option linter.all false
set_option maxRecDepth 100000
set_option maxHeartbeats 4000000
namespace L2
open PySem PySem.Spec PyProof.Rows L2S
theorem kn_K {xs : Array Keyed} {i : Nat} : kn (fun p => numOf p.1) xs i = PyProof.Rows.K xs i := by
  unfold kn PyProof.Rows.K
  cases xs[i]? <;> rfl
section
variable {prog : Program} {w : World} {A : Around} {E : Value → Shared → Prop} {s : Shared}
theorem asks_ints {a₀ : Array Keyed} (h0 : IntKeys a₀) : Asks (model prog w) A E s oneType' a₀ fun p => numOf p.1 where
  lt := fun x y hx hy st Q hk q => by
    obtain ⟨n, t, e1⟩ := h0 x hx
    obtain ⟨m, u, e2⟩ := h0 y hy
    rw [lt'_eq]
    refine wpS_bind (wpS_get ?_)
    rw [hk, keyLt'_oneType]
    rw [e1, e2] at q ⊢
    exact wpS_bind (wpS_lift (wpAny_attempt (oneLt_int ⟨rfl, wpS_pure q⟩)))
theorem kind_of_ints {vs : List Value} {ns : List Int} (hI : IntsAre vs ns) (h2 : 2 ≤ vs.length) : keyKind' vs.toArray = pure oneType' := by
  cases vs with
  | nil => exact absurd h2 (by simp)
  | cons v₁ r =>
    cases r with
    | nil => exact absurd h2 (by simp)
    | cons v₂ r => exact keyKind_ints hI
theorem sorted_intsB {l : Addr} {vs : List Value} {ns : List Int} {Q : Value → Shared → Prop} (hl : s.heap.IsList l vs.toArray) (hI : IntsAre vs ns) (hz : vs.length ≤ 1000)
    (h : ∀ (out : Array Value) (ns' : List Int), IntsAre out.toList ns' → ns'.Perm ns → ns'.Pairwise (· ≤ ·) → Q (.ref (s.heap.objs.size + 1)) { s with heap := sortedAll s.heap vs out }) : wpAny (model prog w) A (call (.builtin "sorted") [.ref l]) Q E s := by
  refine sorted_any (κ := oneType') (f := fun p => numOf p.1) hl hz (fun h' _ h2 A' E' Q' _ q => ?_) (fun h' _ h2 A' E' _ => asks_ints hI.intKeys) fun out hp hu => ?_
  · rw [kind_of_ints hI h2]
    exact wpAny_pure q
  · obtain ⟨ns', a1, a2, a3⟩ := sorted_out hI hp (fun i j z1 z2 => by
      rw [pairsOf_size] at z2
      have := hu i j (Nat.zero_le _) z1 (by omega)
      rw [kn_K, kn_K] at this
      exact this)
    exact h _ ns' a1 a2 a3
end
section
variable {X : Cx}
/-- sorted(ints), up to a thousand -/
theorem call_sortedB : CallR X (.builtin "sorted") (fun xs H Q => ∃ (p : Addr) (ns : List Int), xs = [.ref p] ∧ SqL X.K H p (ns.map V.int) ∧ ns.length ≤ 1000 ∧ ∀ (l : Addr) (ms : List Int), H l = none → ms.Perm ns → ms.Pairwise (· ≤ ·) → Q (.ref l) (upd H l (.lst (ms.map V.int)))) := by
  intro pins s σ H xs us Q I r h
  obtain ⟨p, ns, rfl, hq, hn, q⟩ := h
  obtain ⟨u, rfl, rx⟩ := vals1 r
  cases rx
  obtain ⟨its, r', pl, hz⟩ := I.list hq
  have hlen := r'.length
  rw [List.length_map] at hlen
  refine sorted_intsB pl.isList (intsAre_of r') (by omega) fun out ns' a1 a2 a3 => ?_
  obtain ⟨e, he⟩ := sortedAll_at s.heap its out
  have hl' : ns'.length = ns.length := a2.length_eq
  refine ⟨.ref (s.heap.objs.size + 1), _, I.laid (t' := s.toks) (fun b o e => sortedAll_old e) (Nat.le_succ _) (o := .lst (ns'.map V.int)) ⟨?_, out.toList, e, vals_ints a1, by simpa using he⟩, rfl, q _ ns' (I.hok.fresh (Nat.le_succ _)) a2 a3⟩
  rw [List.length_map]
  exact le_line (by omega)
end
end L2

set_option linter.all false
set_option maxRecDepth 100000
set_option maxHeartbeats 4000000
namespace L2
open PySem PySem.Spec PyProof.Rows
section
variable {κ : Type} [DecidableEq κ]
def valV (kvs : List (κ × V)) (k : κ) : Option V := (kvs.find? fun kv => decide (kv.1 = k)).map (·.2)
/-- in its place, or at the end -/
def putK (kvs : List (κ × V)) (k : κ) (v : V) : List (κ × V) :=
  if (kvs.any fun kv => decide (kv.1 = k)) = true then kvs.map (fun kv => if kv.1 = k then (kv.1, v) else kv) else kvs ++ [(k, v)]
theorem valV_nil {k : κ} : valV ([] : List (κ × V)) k = none := rfl
theorem valV_pos {p : κ × V} {r : List (κ × V)} {k : κ} (e : p.1 = k) : valV (p :: r) k = some p.2 := by simp [valV, List.find?_cons, e]
theorem valV_neg {p : κ × V} {r : List (κ × V)} {k : κ} (e : ¬ p.1 = k) : valV (p :: r) k = valV r k := by simp [valV, List.find?_cons, e]
theorem valV_any (k : κ) : ∀ kvs : List (κ × V), (kvs.any fun kv => decide (kv.1 = k)) = (valV kvs k).isSome
  | [] => rfl
  | p :: r => by
    rw [List.any_cons]
    by_cases e : p.1 = k
    · simp only [valV_pos e, decide_eq_true e, Bool.true_or, Option.isSome_some]
    · rw [valV_neg e, decide_eq_false e, Bool.false_or]; exact valV_any k r
theorem valV_map (k j : κ) (y : V) : ∀ kvs : List (κ × V), valV (kvs.map fun kv => if kv.1 = k then (kv.1, y) else kv) j = (valV kvs j).map fun x => if j = k then y else x
  | [] => rfl
  | p :: r => by
    have ih := valV_map k j y r
    rw [List.map_cons]
    by_cases h : p.1 = k
    · rw [if_pos h]
      by_cases e : p.1 = j
      · rw [valV_pos (p := (p.1, y)) e, valV_pos e, Option.map_some, if_pos (e.symm.trans h)]
      · rw [valV_neg (p := (p.1, y)) e, valV_neg e, ih]
    · rw [if_neg h]
      by_cases e : p.1 = j
      · rw [valV_pos (p := p) e, valV_pos e, Option.map_some, if_neg (fun z => h (e.trans z))]
      · rw [valV_neg (p := p) e, valV_neg e, ih]
theorem valV_snoc (k j : κ) (y : V) : ∀ kvs : List (κ × V), valV kvs k = none → valV (kvs ++ [(k, y)]) j = if j = k then some y else valV kvs j
  | [], _ => by
    by_cases e : k = j
    · rw [if_pos e.symm]; exact valV_pos (p := (k, y)) e
    · rw [if_neg (fun z => e z.symm)]; exact valV_neg (p := (k, y)) e
  | p :: r, hn => by
    rw [List.cons_append]
    have hk : ¬ p.1 = k := fun z => by rw [valV_pos z] at hn; cases hn
    rw [valV_neg hk] at hn
    have ih := valV_snoc k j y r hn
    by_cases e : p.1 = j
    · rw [valV_pos e, valV_pos e, if_neg (fun z => hk (e.trans z))]
    · rw [valV_neg e, valV_neg e, ih]
theorem valV_put (kvs : List (κ × V)) (k j : κ) (y : V) : valV (putK kvs k y) j = if j = k then some y else valV kvs j := by
  unfold putK
  by_cases a : (kvs.any fun kv => decide (kv.1 = k)) = true
  · rw [if_pos a, valV_map]
    rw [valV_any] at a
    by_cases e : j = k
    · obtain ⟨x, hx⟩ := Option.isSome_iff_exists.mp a
      rw [if_pos e, e, hx, Option.map_some, if_pos rfl]
    · rw [if_neg e]
      cases valV kvs j with
      | none => rfl
      | some x => rw [Option.map_some, if_neg e]
  · rw [if_neg a]
    refine valV_snoc k j y kvs ?_
    rw [valV_any] at a
    cases q : valV kvs k with
    | none => rfl
    | some x => rw [q] at a; exact (a rfl).elim
theorem length_putK (kvs : List (κ × V)) (k : κ) (v : V) : (putK kvs k v).length ≤ kvs.length + 1 := by
  unfold putK
  split
  · rw [List.length_map]; omega
  · rw [List.length_append, List.length_cons, List.length_nil]; omega
theorem RelO.isSome_eq {o : Option V} {u : Option Value} (r : RelO o u) : o.isSome = u.isSome := by
  cases o with
  | none => cases u with
    | none => rfl
    | some _ => exact (show False from r).elim
  | some _ => cases u with
    | none => exact (show False from r).elim
    | some _ => rfl
/-- raw tables of the same keys -/
theorem KV.val {kvs : List (κ × V)} {vs : List (κ × Value)} (r : KV kvs vs) (k : κ) : RelO (valV kvs k) (valueAt vs k) := by
  unfold KV at r
  induction r with
  | nil => exact True.intro
  | @cons p q ps qs h t ih =>
    obtain ⟨h1, h2⟩ := h
    by_cases e : p.1 = k
    · have e' : q.1 = k := h1.symm.trans e
      have b : valueAt (q :: qs) k = some q.2 := by simp [valueAt, List.find?_cons, e']
      rw [valV_pos e, b]; exact h2
    · have e' : ¬ q.1 = k := fun z => e (h1.trans z)
      have b : valueAt (q :: qs) k = valueAt qs k := by simp [valueAt, List.find?_cons, e']
      rw [valV_neg e, b]; exact ih
end


theorem kV_is {P : Program} {w : World} {k : Key} {u : Value} (r : RelV (kV k) u) : (mixKind P w).is k u = true := by
  cases k with
  | inl i => obtain ⟨t, e⟩ := (show ∃ t, u = Value.int i t from r); subst e; exact mixKind_int P w i t
  | inr x => obtain ⟨t, e⟩ := (show ∃ t, u = Value.str x t from r); subst e; exact mixKind_str P w x t
theorem items_are {P : Program} {w : World} : ∀ {ks : List Key} {us : List Value}, Vals (ks.map kV) us → ItemsAre (mixKind P w) ks us
  | [], _, r => by rw [List.map_nil] at r; cases r; exact .nil
  | k :: ks, _, r => by
    rw [List.map_cons] at r
    cases r with
    | cons h t => exact .cons (kV_is h) (items_are t)

/-- raw entries of a dict with tuple keys -/
abbrev KT (H : Hp) : List (List Key × V) → List (List Key × Addr × Value) → Prop := Paired fun p q => p.1 = q.1 ∧ H q.2.1 = some (.tup (p.1.map kV)) ∧ RelV p.2 q.2.2
theorem KT.val {H : Hp} {kvs : List (List Key × V)} {xs : List (List Key × Addr × Value)} (r : KT H kvs xs) (k : List Key) : RelO (valV kvs k) ((atKey xs k).map (·.2)) := by
  induction r with
  | nil => exact True.intro
  | @cons p q ps qs h t ih =>
    obtain ⟨h1, _, h2⟩ := h
    by_cases e : p.1 = k
    · have e' : q.1 = k := h1.symm.trans e
      have b : atKey (q :: qs) k = some q.2 := by simp [atKey, List.find?_cons, e']
      rw [valV_pos e, b]; exact h2
    · have e' : ¬ q.1 = k := fun z => e (h1.trans z)
      have b : atKey (q :: qs) k = atKey qs k := by simp [atKey, List.find?_cons, e']
      rw [valV_neg e, b]; exact ih
theorem KT.repl {H : Hp} {kvs : List (List Key × V)} {xs : List (List Key × Addr × Value)} (r : KT H kvs xs) (k : List Key) {y : V} {u : Value} (ry : RelV y u) :
    KT H (kvs.map fun kv => if kv.1 = k then (kv.1, y) else kv) (xs.map (putAt k u)) := by
  induction r with
  | nil => exact .nil
  | @cons p q ps qs h t ih =>
    rw [List.map_cons, List.map_cons]
    refine .cons ?_ ih
    obtain ⟨h1, h2, h3⟩ := h
    unfold putAt
    by_cases e : p.1 = k
    · rw [if_pos e, if_pos (h1.symm.trans e)]; exact ⟨h1, h2, ry⟩
    · rw [if_neg e, if_neg (fun z => e (h1.trans z))]; exact ⟨h1, h2, h3⟩
theorem KT.put {H : Hp} {kvs : List (List Key × V)} {xs : List (List Key × Addr × Value)} (r : KT H kvs xs) (k : List Key) {b : Addr} {y : V} {u : Value} (hb : H b = some (.tup (k.map kV))) (ry : RelV y u) :
    KT H (putK kvs k y) (storedH xs k b u) := by
  have e : (kvs.any fun kv => decide (kv.1 = k)) = (atKey xs k).isSome := by
    rw [valV_any, (r.val k).isSome_eq, Option.isSome_map]
  unfold putK storedH
  rw [e]
  by_cases q : (atKey xs k).isSome = true
  · rw [if_pos q, if_pos q]; exact r.repl k ry
  · rw [if_neg q, if_neg q]; exact Paired.snoc r ⟨rfl, hb, ry⟩
theorem KT.keeps {H H' : Hp} {kvs : List (List Key × V)} {xs : List (List Key × Addr × Value)} (r : KT H kvs xs) (ht : ∀ b ys, H b = some (.tup ys) → H' b = some (.tup ys)) : KT H' kvs xs :=
  Paired.mapP r fun _ _ z => ⟨z.1, ht _ _ z.2.1, z.2.2⟩

section
variable {P : Program} {w : World} {H : Hp} {h : Heap} {a : Addr}
theorem rd_of {u : HO} (ok : HOk P w H h) (e : Rd H a u) : ObjOk P w H h a u := e.ok ok
theorem dk_rd {kvs : List (Key × V)} (ok : HOk P w H h) (e : Rd H a (.dK kvs)) : kvs.length ≤ sizeLine ∧ (a == sysModules) = false ∧ ∃ vs, KV kvs vs ∧ h.DictOf (mixKind P w) a vs :=
  show ObjOk P w H h a (.dK kvs) from rd_of ok e
/-- a tracked tuple of ints and texts is a key -/
theorem key_of {ks : List Key} (ok : HOk P w H h) (e : H a = some (.tup (ks.map kV))) : (tupleKind (mixKind P w)).is h ks a := by
  obtain ⟨_, its, r, o, h1, h2, n, h3⟩ := (show ObjOk P w H h a (.tup (ks.map kV)) from ok a _ e)
  exact ⟨o, its.toArray, n, h1, h2, h3, by simpa using items_are r⟩
theorem dt_rd {kvs : List (List Key × V)} (ok : HOk P w H h) (e : Rd H a (.dT kvs)) : kvs.length ≤ sizeLine ∧ (a == sysModules) = false ∧
    ∃ xs, KT H kvs xs ∧ h.DictOfH (tupleKind (mixKind P w)) a xs := by
  obtain ⟨z, y, xs, r, o, es, ep, h1, h2, h3, h4, h5⟩ := (show ObjOk P w H h a (.dT kvs) from rd_of ok e)
  refine ⟨z, y, xs, r, o, es, ep, h1, h2, h3, h4, fun x hx => ?_, h5⟩
  have all : ∀ {l : List (List Key × V)} {m : List (List Key × Addr × Value)}, KT H l m → ∀ x ∈ m, (tupleKind (mixKind P w)).is h x.1 x.2.1 := by
    intro l m q
    induction q with
    | nil => intro x hx; exact nomatch hx
    | @cons p q ps qs hq t ih =>
      intro x hx
      rcases List.mem_cons.mp hx with e | hx
      · subst e
        exact key_of ok (by rw [← hq.1]; exact hq.2.1)
      · exact ih x hx
  exact all r x hx
end

/-- what the dict at a holds at the key y -/
def DGet (H : Hp) (a : Addr) (y : V) (r : Option V) : Prop :=
  (∃ kvs k, Rd H a (.dK kvs) ∧ y = kV k ∧ r = valV kvs k) ∨ ∃ kvs k b, Rd H a (.dT kvs) ∧ y = .ref b ∧ H b = some (.tup (k.map kV)) ∧ r = valV kvs k
/-- the heap behind a[y] = v -/
def DPut (H : Hp) (a : Addr) (y v : V) (H' : Hp) : Prop :=
  (∃ kvs k, H a = some (.dK kvs) ∧ y = kV k ∧ kvs.length < sizeLine ∧ H' = upd H a (.dK (putK kvs k v))) ∨
  ∃ kvs k b, H a = some (.dT kvs) ∧ y = .ref b ∧ H b = some (.tup (k.map kV)) ∧ kvs.length < sizeLine ∧ H' = upd H a (.dT (putK kvs k v))
theorem DGet.t {H : Hp} {a b : Addr} {kvs : List (List Key × V)} {k : List Key} (e : H a = some (.dT kvs)) (eb : H b = some (.tup (k.map kV))) : DGet H a (.ref b) (valV kvs k) := .inr ⟨kvs, k, b, .inl e, rfl, eb, rfl⟩
section
variable {X : Cx} {pins : List (Addr × Obj)} {σ : St} {H : Hp} {s : Shared} {a : Addr} {y v : V} {u r : Value} {o : Option V} {A : Around} {E : Value → Shared → Prop}

theorem Inv.big (I : Inv X pins σ H s) : sysModules < s.heap.objs.size := by
  have h : mainGlobals < s.heap.objs.size := (I.mod.glob.keeps I.bk).lt
  exact Nat.lt_trans (by decide) h

/-- y in d -/
theorem d_in {Q : Value → Shared → Prop} (hu : A.units + 1 < cLine) (I : Inv X pins σ H s) (g : DGet H a y o) (ry : RelV y u) (h : ∀ s', Inv X pins σ H s' → Q (.bool o.isSome) s') :
    wpAny (model X.prog X.w) A (compareOp .In u (.ref a)) Q E s := by
  rcases g with ⟨kvs, k, e, ey, l⟩ | ⟨kvs, k, b, e, ey, eb, l⟩
  · subst ey
    obtain ⟨z, hd, vs, rel, dd⟩ := dk_rd I.hok e
    refine wpAny_in_of (kV_is ry) hd dd.mapOf ?_
    rw [← (rel.val k).isSome_eq, ← l]
    exact h _ (I.tok _)
  · subst ey
    cases (show u = Value.ref b from ry)
    obtain ⟨z, hd, xs, rel, dd⟩ := dt_rd I.hok e
    refine wpAny_in_heap (tupleKind_room_in1 hu) (key_of I.hok eb) hd dd ?_
    have q := (rel.val k).isSome_eq
    rw [Option.isSome_map] at q
    rw [← q, ← l]
    exact h _ (I.tok _)
end

section
variable {X : Cx} {pins : List (Addr × Obj)} {σ : St} {H : Hp} {s : Shared} {a : Addr} {kvs : List (Key × V)} {k : Key} {u : Value} {A : Around} {E : Value → Shared → Prop}
end


/-- y in d, y not in d -/
def tDIn (ty td : TE) : TE := fun σ H Q => ty σ H fun y H1 => td σ H1 fun x H2 => ∃ a o, x = .ref a ∧ DGet H2 a y o ∧ Q (.bl o.isSome) H2
def tDNotIn (ty td : TE) : TE := fun σ H Q => ty σ H fun y H1 => td σ H1 fun x H2 => ∃ a o, x = .ref a ∧ DGet H2 a y o ∧ Q (.bl (!o.isSome)) H2
/-- d[y] = v -/
def sDPut (td ty tv : TE) : TS := fun D σ H => tv σ H fun v H1 => td σ H1 fun x H2 => ty σ H2 fun y H3 => ∃ a H4, x = .ref a ∧ DPut H3 a y v H4 ∧ D.nx σ H4
section
variable {X : Cx} {o i e value : Expr} {pos pos' tpos : Pos} {td ty tv : TE}
theorem pc_din (hu : X.A.units + 1 < cLine) (hi : PE X i ty) (ho : PE X o td) : PC X .In i o (tDIn ty td) := by
  intro pins s σ H Q I h
  refine thn (hi pins s σ H _ I h) fun iv s1 ⟨y, H1, I1, ry, q1⟩ => thn (ho pins s1 σ H1 _ I1 q1) fun u s2 ⟨x, H2, I2, rx, a, ov, ex, g, q2⟩ => ?_
  subst ex
  obtain rfl : u = Value.ref a := rx
  exact d_in hu I2 g ry fun s3 I3 => ⟨.bl ov.isSome, H2, I3, rfl, q2⟩
end


def tDNewT : TE := fun _ H Q => ∀ p, H p = none → Q (.ref p) (upd H p (.dT []))
section
variable {X : Cx} {pos : Pos}
end
end L2

set_option linter.all false
set_option maxRecDepth 100000
set_option maxHeartbeats 4000000
namespace L2
open PySem PySem.Spec PyProof.Rows
end L2
namespace L2
open PySem PySem.Spec PyProof.Rows
end L2

set_option linter.all false
set_option maxRecDepth 100000
set_option maxHeartbeats 4000000
namespace PySem
open Sem (wp)
namespace F
theorem lk_list_keys : typeLookup (.type "list") "keys" = pure none := by rw [typeLookup_type, builtinLookup_eq_fast]; kernel_rfl
theorem lk_list_getattr : typeLookup (.type "list") "__getattr__" = pure none := by rw [typeLookup_type, builtinLookup_eq_fast]; kernel_rfl
theorem sub_ae : isSubtype (.type "AttributeError") (.type "AttributeError") = pure true := by rw [isSubtype_type]; kernel_rfl
end F
section
variable {α : Type} {prog : Program} {w : World} {A : Around} {E : Value → Shared → Prop} {s : Shared}
/-- an exception of this class is new -/
def NewX (h h' : Heap) (e : Addr) : Prop := (∀ b u, h.get? b = some u → h'.get? b = some u) ∧ ∃ ob, h'.get? e = some ob ∧ ob.cls = .type "AttributeError"
theorem note_any {h : Heap} {g : Array GenState} {d : Drawn} {t : Nat} {os : OsState} {e : Addr} {v nm t0 : Value} {Q : Unit → Shared → Prop} (he : h.get? e = some { cls := .type "AttributeError", data := .fields #[t0, .none, .none, .none, .bool false, .none, unsetMember, unsetMember] })
    (hq : Q () ⟨h.update e (Obj.mapFields fun vs => vs.extract 0 6 ++ #[nm, v]), g, d, t, os⟩) : wpAny (model prog w) A (noteAttr (.ref e) v nm) Q E ⟨h, g, d, t, os⟩ := by
  have f1 := F.sub_ae
  have hT : (⟨h, g, d, t, os⟩ : Shared).TypeIs (.ref e) "AttributeError" := ⟨_, he, rfl⟩
  unfold noteAttr lacksNameAndObj
  refine wpAny_bind (wpAny_bind (wpAny_isInstance (b := true) hT f1 ?_))
  refine wpAny_bind (wpAny_load he ?_)
  refine wpAny_of_eq (a := true) (by kernel_rfl) ?_
  rw [if_pos rfl]
  refine wpAny_bind (wpAny_rule ?_)
  refine wpAny_bind (wpAny_typeOf hT ?_)
  show wpAny _ _ (layMembers e 6 #[nm, v]) _ _ _
  unfold layMembers
  refine wpAny_bind (wpAny_load he ?_)
  show wpAny _ _ (update e (Obj.mapFields fun vs => vs.extract 0 6 ++ #[nm, v])) _ _ _
  exact wpAny_update he hq
theorem raiseAttr_any {v : Value} {x msg : Str} {h : Heap} {g : Array GenState} {d : Drawn} {t : Nat} {os : OsState} {Q : α → Shared → Prop} (hh : A.handled = none) (hm : msg.length ≤ sizeLine)
    (hq : ∀ h' t' e, NewX h h' e → E (.ref e) ⟨h', g, d, t', os⟩) : wpAny (model prog w) A (raiseAttrError v x msg : Sem α) Q E ⟨h, g, d, t, os⟩ := by
  unfold raiseAttrError
  refine wpAny_bind (wpAny_mkStr (wpAny_bind ?_) hm)
  unfold newExc newTuple
  refine wpAny_bind (wpAny_newObj_type ?_)
  refine wpAny_bind (m := firstArgMember _ _) (wpAny_of_eq (a := Value.none) (by kernel_rfl) ?_)
  refine wpAny_newObj_type ?_
  have hk : ∀ b u, h.get? b = some u → (h.push { cls := .type "tuple", data := .seq [Value.str msg t].toArray }).get? b = some u := fun b u e => Heap.get?_push_of_some _ e
  show wpAny (model prog w) A (do noteAttr (.ref (h.push { cls := .type "tuple", data := .seq [Value.str msg t].toArray }).objs.size) v (← mkText x); raiseNew (.ref (h.push { cls := .type "tuple", data := .seq [Value.str msg t].toArray }).objs.size)) Q E ⟨(h.push { cls := .type "tuple", data := .seq [Value.str msg t].toArray }).push { cls := .type "AttributeError", data := .fields #[.ref h.objs.size, .none, .none, .none, .bool false, .none, unsetMember, unsetMember] }, g, d, t + 1, os⟩
  generalize (h.push { cls := .type "tuple", data := .seq [Value.str msg t].toArray }) = h1 at hk ⊢
  have hk2 : ∀ b u, h.get? b = some u → (h1.push { cls := .type "AttributeError", data := .fields #[.ref h.objs.size, .none, .none, .none, .bool false, .none, unsetMember, unsetMember] }).get? b = some u := fun b u e => Heap.get?_push_of_some _ (hk b u e)
  have hlt : ∀ b u, h.get? b = some u → b ≠ h1.objs.size := fun b u e => Nat.ne_of_lt (Heap.lt_size (hk b u e))
  have he : (h1.push { cls := .type "AttributeError", data := .fields #[.ref h.objs.size, .none, .none, .none, .bool false, .none, unsetMember, unsetMember] }).get? h1.objs.size = some { cls := .type "AttributeError", data := .fields #[.ref h.objs.size, .none, .none, .none, .bool false, .none, unsetMember, unsetMember] } := Heap.get?_push_size _ rfl
  generalize h1.push { cls := .type "AttributeError", data := .fields #[.ref h.objs.size, .none, .none, .none, .bool false, .none, unsetMember, unsetMember] } = h2 at hk2 he ⊢
  generalize h1.objs.size = ea at hlt he ⊢
  refine wpAny_bind (wpAny_mkText ?_)
  refine wpAny_bind (note_any he ?_)
  unfold raiseNew
  refine wpAny_bind (wpAny_handled ?_)
  rw [hh]
  first
    | refine wpAny_throw ?_
    | refine wpAny_bind (wpAny_pure (wpAny_throw ?_))
  exact hq _ _ _ ⟨fun b u e => (Heap.get?_update_other _ _ (Ne.symm (hlt b u e))).trans (hk2 b u e), _, Heap.get?_update_self _ he rfl, rfl⟩
end
section
variable {prog : Program} {w : World} {A : Around} {E : Value → Shared → Prop} {h : Heap} {g : Array GenState} {d : Drawn} {t : Nat} {os : OsState} {a : Addr} {its : Array Value} {n : Nat}
theorem nokeys_entry {tk : Tok} {Q : Fin → Shared → Prop} (hh : A.handled = none) (hx : h.get? a = some { cls := .type "list", data := .seq its n })
    (hq : ∀ h' t' e, NewX h h' e → E (.ref e) ⟨h', g, d, t', os⟩) :
    wpAny (model prog w) A (Builtin.«object.__getattribute__» ⟨[.ref a, .str "keys" tk], []⟩) Q E ⟨h, g, d, t, os⟩ := by
  have hT : (⟨h, g, d, t, os⟩ : Shared).TypeIs (.ref a) "list" := ⟨_, hx, rfl⟩
  have f4 := F.lk_list_keys
  repeat (any_goals (first | assumption | wp_step))
  exact raiseAttr_any hh (by decide +kernel) hq
theorem nokeys_call {tk : Tok} {R : Result → Shared → Prop} (hh : A.handled = none) (hx : h.get? a = some { cls := .type "list", data := .seq its n })
    (hq : ∀ h' t' e, NewX h h' e → R (.error (.ref e)) ⟨h', g, d, t', os⟩) :
    codeAny (model prog w) A (.call (.builtin "list.__getattribute__") ⟨[.ref a, .str "keys" tk], []⟩) R ⟨h, g, d, t, os⟩ :=
  codeAny_call_builtin F.slot_list_getattribute.plain F.entry_list_ga (F.slot_list_getattribute.check _ _ _ _ _ _ _ _ (show (⟨h, g, d, t, os⟩ : Shared).TypeIs (.ref a) "list" from ⟨_, hx, rfl⟩) (F.args_list_getattribute_2 _ _) (nokeys_entry hh hx hq))
theorem nokeys_by {tk : Tok} {Q : Value → Shared → Prop} (hh : A.handled = none) (hx : h.get? a = some { cls := .type "list", data := .seq its n })
    (hq : ∀ h' t' e, NewX h h' e → E (.ref e) ⟨h', g, d, t', os⟩) : wpAny (model prog w) A (getAttrBy (.ref a) (.str "keys" tk) false) Q E ⟨h, g, d, t, os⟩ := by
  have hT : (⟨h, g, d, t, os⟩ : Shared).TypeIs (.ref a) "list" := ⟨_, hx, rfl⟩
  have f2 := F.slot_list_getattribute.lookup
  have f3 := F.slot_list_getattribute.bind (.ref a)
  have f5 := F.lk_list_getattr
  have f6 := F.sub_ae
  repeat (any_goals (first | assumption | wp_step))
  refine nokeys_call hh hx fun h' t' e hn => ?_
  obtain ⟨k, ob, he, hc⟩ := id hn
  show wpAny _ _ (getattributeRaised (Value.ref a) (Value.str (Str.ofString "keys") tk) (Value.type "list") (.ref e) none false false) _ _ _
  unfold getattributeRaised
  refine wpAny_bind (wpAny_isInstance (b := true) (show (⟨h', g, d, t', os⟩ : Shared).TypeIs (.ref e) "AttributeError" from ⟨_, he, hc⟩) f6 ?_)
  rw [if_pos rfl]
  refine wpAny_bind (m := hookBehind _ _) (wpAny_of_eq (a := none) f5 ?_)
  show wpAny _ _ (attributeErrorLeaves _ _ _ false false) _ _ _
  unfold attributeErrorLeaves
  dsimp only
  rw [if_pos (by decide)]
  exact wpAny_bind (wpAny_throw (hq _ _ _ hn))
theorem nokeys_attr {Q : Option Value → Shared → Prop} (hh : A.handled = none) (hx : h.get? a = some { cls := .type "list", data := .seq its n })
    (hq : ∀ h' t', (∀ b u, h.get? b = some u → h'.get? b = some u) → Q none ⟨h', g, d, t', os⟩) : wpAny (model prog w) A (getAttr? (.ref a) "keys") Q E ⟨h, g, d, t, os⟩ := by
  have f6 := F.sub_ae
  unfold getAttr? getAttrBy?
  refine wpAny_bind (wpAny_mkText ?_)
  refine wpAny_bind (wpAny_attempt ?_)
  refine nokeys_by hh hx fun h' t' e hn => ?_
  obtain ⟨k, ob, he, hc⟩ := id hn
  show wpAny _ _ (do if ← isInstance (.ref e) (.type "AttributeError") then pure none else throw (.ref e)) _ _ _
  refine wpAny_bind (wpAny_isInstance (b := true) (show (⟨h', g, d, t', os⟩ : Shared).TypeIs (.ref e) "AttributeError" from ⟨_, he, hc⟩) f6 ?_)
  rw [if_pos rfl]
  exact wpAny_pure (hq _ _ k)
end
end PySem
namespace PySem
namespace F
theorem entry_upd_loop : entryFor table "dict.update.loop" = some Builtin.«dict.update.loop» := entryFor_of_tree (by kernel_rfl)
theorem plain_upd_loop : plainId "dict.update.loop" = true := by decide +kernel
end F
end PySem
namespace L2
open PySem PySem.Spec PyProof.Rows
theorem key_mono {P : Program} {w : World} {h h' : Heap} {ks : List Key} {a : Addr} (m : ∀ b o, h.get? b = some o → h'.get? b = some o) (k : (tupleKind (mixKind P w)).is h ks a) : (tupleKind (mixKind P w)).is h' ks a := by
  obtain ⟨o, its, n, h1, r⟩ := k
  exact ⟨o, its, n, m _ _ h1, r⟩
theorem KT.is {P : Program} {w : World} {H : Hp} {h : Heap} (ok : HOk P w H h) : ∀ {l : List (List Key × V)} {m : List (List Key × Addr × Value)}, KT H l m → ∀ x ∈ m, (tupleKind (mixKind P w)).is h x.1 x.2.1 := by
  intro l m q
  induction q with
  | nil => intro x hx; exact nomatch hx
  | @cons p q ps qs hq t ih =>
    intro x hx
    rcases List.mem_cons.mp hx with e | hx
    · subst e
      exact key_of ok (by rw [← hq.1]; exact hq.2.1)
    · exact ih x hx
/-- the pairs that dict(l) takes: the pair's place, the key's place, the key, the value -/
abbrev PQ := Addr × Addr × List Key × V
def putAll (m : List (List Key × V)) (ps : List PQ) : List (List Key × V) := ps.foldl (fun m q => putK m q.2.2.1 q.2.2.2) m
theorem putAll_len : ∀ (ps : List PQ) (m : List (List Key × V)), (putAll m ps).length ≤ m.length + ps.length
  | [], m => Nat.le_refl _
  | q :: r, m => by
    have := putAll_len r (putK m q.2.2.1 q.2.2.2)
    have h2 := length_putK m q.2.2.1 q.2.2.2
    show (putAll (putK m q.2.2.1 q.2.2.2) r).length ≤ _
    rw [List.length_cons]; omega
section
variable {X : Cx} {pins : List (Addr × Obj)} {σ : St} {H : Hp} {s1 : Shared} {A : Around}
def Lp (X : Cx) (H : Hp) (s1 s : Shared) (d : Addr) (kvs : List (List Key × V)) : Prop :=
  (∀ b o, s1.heap.get? b = some o → s.heap.get? b = some o) ∧ s = { s1 with heap := s.heap, toks := s.toks } ∧ ∃ xs, KT H kvs xs ∧ s.heap.DictOfH (tupleKind (mixKind X.prog X.w)) d xs
theorem dict_loop {R : Result → Shared → Prop} (I1 : Inv X pins σ H s1) (hh : A.handled = none) (hu : A.units + 1 < cLine) {I l d : Addr} {its : List Value} {ps : List PQ} (hps : Vals (ps.map fun q => V.ref q.1) its)
    (hp : ∀ q ∈ ps, H q.1 = some (.tup [.ref q.2.1, q.2.2.2]) ∧ H q.2.1 = some (.tup (q.2.2.1.map kV))) (hz : ps.length ≤ sizeLine) (hlI : l ≠ I) (hdI : d ≠ I) (hld : l ≠ d) (nI : s1.heap.get? I = none) (nd : s1.heap.get? d = none) :
    ∀ (k i : Nat) (s : Shared) (kvs : List (List Key × V)), ps.length - i = k → i ≤ ps.length → kvs.length ≤ i → (s.heap.IsListIter I l i ∧ s.heap.IsList l its.toArray) → Lp X H s1 s d kvs →
    (∀ s', Lp X H s1 s' d (putAll kvs (ps.drop i)) → R (.ok (.ret .none)) s') →
    codeAny (model X.prog X.w) A (.builtin "dict.update.loop" ⟨[.ref d, .ref I, rawInt i, .none], []⟩) R s := by
  have W := Walks.list (prog := X.prog) (w := X.w) (A := A.in1) hh I l hlI its.toArray
  have hn : its.toArray.size = ps.length := by rw [List.size_toArray, ← hps.length, List.length_map]
  rw [hn] at W
  have mv : ∀ {s : Shared} {h' : Heap} {tk : Nat} {kvs : List (List Key × V)}, Lp X H s1 s d kvs → (∀ b o, b ∉ [I] → s.heap.get? b = some o → h'.get? b = some o) → Lp X H s1 { s with heap := h', toks := tk } d kvs := by
    rintro s h' tk kvs ⟨p, e, xs, kt, o, es, ep, h1, h2, h3, h4, h5, h6⟩ m
    have p' : ∀ b o, s1.heap.get? b = some o → h'.get? b = some o := fun b o hb => m b o (fun z => by rw [List.mem_singleton.mp z, nI] at hb; cases hb) (p b o hb)
    exact ⟨p', by rw [e], xs, kt, o, es, ep, m d o (fun z => hdI (List.mem_singleton.mp z)) h1, h2, h3, h4, fun x hx => key_mono p' (KT.is I1.hok kt x hx), h6⟩
  intro k
  induction k with
  | zero =>
    intro i s kvs hk hi hkv hst hL hR
    have hin : i = ps.length := by omega
    subst hin
    refine codeAny_builtin F.entry_upd_loop ?_
    rw [Around.under_plainId F.plain_upd_loop _]
    show wpAny _ A.in1 (pyNext (.ref I) >>= _) _ _ s
    refine wpAny_bind (W.done s _ _ hst fun h' tk m => ?_)
    show wpAny _ A.in1 (Builtin.Dict.addKeywords d [] >>= fun _ => ret .none) _ _ _
    refine wpAny_bind (wpAny_pure (wpAny_pure ?_))
    refine hR _ ?_
    rw [List.drop_of_length_le (Nat.le_refl _)]
    exact mv hL m
  | succ k ih =>
    intro i s kvs hk hi hkv hst hL hR
    have hlt : i < ps.length := by omega
    refine codeAny_builtin F.entry_upd_loop ?_
    rw [Around.under_plainId F.plain_upd_loop _]
    show wpAny _ A.in1 (pyNext (.ref I) >>= _) _ _ s
    refine wpAny_bind (W.item i s _ _ hlt hst fun v h' tk hP hst' m => ?_)
    have hL' := mv (tk := tk) hL m
    obtain ⟨q, hq⟩ : ∃ q, ps[i]? = some q := ⟨_, List.getElem?_eq_getElem hlt⟩
    obtain ⟨u, hu1, ru⟩ := hps.get (show (ps.map fun q => V.ref q.1)[i]? = some (V.ref q.1) by rw [List.getElem?_map, hq]; rfl)
    have hv : v = u := by
      rw [← Array.getElem?_toList] at hP
      rw [hu1] at hP
      exact (Option.some.inj hP).symm
    subst hv
    cases (show v = Value.ref q.1 from ru)
    obtain ⟨ht, hkq⟩ := hp q (List.mem_of_getElem? hq)
    obtain ⟨pz, pe, xs, kt, hdd⟩ := hL'
    obtain ⟨_, its2, r2, o2, g1, g2, n2, g3⟩ := (show ObjOk X.prog X.w H s1.heap q.1 (.tup [.ref q.2.1, q.2.2.2]) from I1.hok q.1 _ ht)
    obtain ⟨u1, u2, rfl, rb, rv⟩ : ∃ u1 u2, its2 = [u1, u2] ∧ RelV (.ref q.2.1) u1 ∧ RelV q.2.2.2 u2 := by
      cases r2 with
      | cons p q =>
        cases q with
        | cons p' q' =>
          cases q'
          exact ⟨_, _, rfl, p, p'⟩
    cases (show u1 = Value.ref q.2.1 from rb)
    dsimp only
    refine wpAny_bind (wpAny_holding (wpAny_bind (wpAny_tryCatch ?_)))
    unfold Builtin.Dict.pairItems
    refine wpAny_bind (wpAny_typeOf (show Shared.TypeIs _ _ "tuple" from ⟨o2, pz _ _ g1, g2⟩) ?_)
    rw [if_pos (by decide)]
    refine wpAny_bind (wpAny_seqItems (pz _ _ g1) g3 (wpAny_pure ?_))
    show wpAny _ A.in1 (holding [.ref q.2.1, u2] (dictSet d (.ref q.2.1) u2)) _ _ _
    have hxl : xs.length = kvs.length := (Paired.length kt).symm
    refine wpAny_holding (wpAny_dictSet_heap (knd := tupleKind (mixKind X.prog X.w)) (tupleKind_room_in1 hu) (key_mono pz (key_of I1.hok hkq)) hdd (fun h2 dd2 sb => ?_) (by omega))
    refine wpAny_pure ⟨plainId_quiet F.plain_upd_loop _, ?_⟩
    have nb : ∀ {b : Addr} {o : Obj}, s1.heap.get? b = some o → b ≠ d := fun hb z => by rw [z, nd] at hb; cases hb
    refine ih (i + 1) _ (putK kvs q.2.2.1 q.2.2.2) (by omega) hlt (Nat.le_trans (length_putK _ _ _) (by omega)) (W.frame (i + 1) h' h2 hst' fun b hb o e => ?_) ⟨fun b o hb => (sb.2 b (nb hb)).trans (pz b o hb), by rw [hL.2.1], storedH xs q.2.2.1 q.2.1 u2, kt.put _ hkq rv, dd2⟩ fun s' hs' => hR s' ?_
    · refine (sb.2 b fun z => ?_).trans e
      rcases List.mem_cons.mp hb with y | y
      · exact hdI (z.symm.trans y)
      · exact hld ((List.mem_singleton.mp y).symm.trans z)
    · have e : ps.drop i = q :: ps.drop (i + 1) := by
        obtain ⟨h1, h2⟩ := List.getElem?_eq_some_iff.mp hq
        rw [List.drop_eq_getElem_cons h1, h2]
      rw [e]
      exact hs'
theorem call_dictP (hc : X.calm = true) (hu : X.A.units + 64 < cLine) : CallR X (.type "dict") (fun xs H Q => ∃ (p : Addr) (ps : List PQ), xs = [.ref p] ∧ H p = some (.lst (ps.map fun q => V.ref q.1)) ∧ (∀ q ∈ ps, H q.1 = some (.tup [.ref q.2.1, q.2.2.2]) ∧ H q.2.1 = some (.tup (q.2.2.1.map kV))) ∧
    ∀ d, H d = none → Q (.ref d) (upd H d (.dT (putAll [] ps)))) := by
  intro pins s σ H xs us Q I r h
  obtain ⟨p, ps, rfl, hpl, hps, q⟩ := h
  obtain ⟨u, rfl, rx⟩ := vals1 r
  cases rx
  obtain ⟨z, its, n, r', hl, e⟩ := I.lstM hpl
  rw [List.length_map] at z
  have hh : X.A.handled = none := I.ok.hd hc
  refine callType_codes (Q₁ := fun obj s₁ => obj = .ref s.heap.objs.size ∧ s₁ = { s with heap := s.heap.push { cls := .type "dict", data := .dict #[] } }) F.kt_called_dict (F.kt_typeCall_dict_1 _) F.entry_dict_init (kt_code_dict_new _ ⟨rfl, rfl⟩) ?_
  rintro obj s₁ ⟨rfl, rfl⟩
  have hdn : (s.heap.push { cls := .type "dict", data := .dict #[] }).get? s.heap.objs.size = some { cls := .type "dict", data := .dict #[] } := Heap.get?_push_size _ rfl
  have hk1 : ∀ b o, s.heap.get? b = some o → (s.heap.push { cls := .type "dict", data := .dict #[] }).get? b = some o := fun b o hb => Heap.get?_push_of_some _ hb
  have hT : Shared.TypeIs { s with heap := s.heap.push { cls := .type "dict", data := .dict #[] } } (.ref s.heap.objs.size) "dict" := ⟨_, hdn, rfl⟩
  refine ⟨hT, F.args_dict_init_2 _ _, ?_⟩
  unfold Builtin.«dict.__init__»
  refine wpAny_bind ?_
  unfold Builtin.Dict.selfAndRest
  refine wpAny_bind (wpAny_notOrdered_dict hT ?_)
  show wpAny _ _ (pure (s.heap.objs.size, [Value.ref p])) _ _ _
  refine wpAny_pure ?_
  show wpAny _ _ (Builtin.Dict.updateFrom "dict.__init__" s.heap.objs.size (.ref p) [] .none) _ _ _
  unfold Builtin.Dict.updateFrom
  refine wpAny_bind (wpAny_typeOf (show Shared.TypeIs _ (.ref p) "list" from ⟨_, hk1 _ _ e, rfl⟩) ?_)
  rw [if_pos (by decide)]
  refine wpAny_bind (nokeys_attr hh (hk1 _ _ e) fun h' t' k => ?_)
  rw [if_pos (by rfl)]
  refine wpAny_bind (wpAny_rule ?_)
  refine wpAny_bind (wpAny_pyIter_list (s := ⟨h', s.gens, s.drawn, t', s.os⟩) (items := its.toArray) ⟨_, k _ _ (hk1 _ _ e), rfl, n, rfl⟩ ?_)
  have hkd := k _ _ hdn
  have hlt : ∀ b o, s.heap.get? b = some o → b ≠ s.heap.objs.size := fun b o hb => Nat.ne_of_lt (Heap.lt_size hb)
  have hlt2 : ∀ b o, h'.get? b = some o → b ≠ h'.objs.size := fun b o hb => Nat.ne_of_lt (Heap.lt_size hb)
  have nn : ∀ {b : Addr}, (∀ o, s.heap.get? b = some o → False) → s.heap.get? b = none := fun {b} g => by
    cases eb : s.heap.get? b with
    | none => rfl
    | some o => exact (g o eb).elim
  refine wpAny_pure ⟨plainId_quiet F.plain_upd_loop _, dict_loop (A := X.A.in1) I hh (by show X.A.units + 1 + 1 < cLine; omega) (l := p) r' hps z (hlt2 _ _ (k _ _ (hk1 _ _ e))) (hlt2 _ _ hkd) (hlt _ _ e) (nn fun o ho => hlt2 _ _ (k _ _ (hk1 _ _ ho)) rfl) (nn fun o ho => hlt _ _ ho rfl) ps.length 0 _ [] rfl (Nat.zero_le _) (Nat.le_refl _) ⟨⟨_, Heap.get?_push_size _ rfl, rfl, rfl⟩, ⟨_, Heap.get?_push_of_some _ (k _ _ (hk1 _ _ e)), rfl, n, rfl⟩⟩ ⟨fun b o hb => Heap.get?_push_of_some _ (k _ _ (hk1 _ _ hb)), rfl, [], .nil, _, #[], 0, Heap.get?_push_of_some _ hkd, ⟨rfl, rfl, rfl⟩, rfl, rfl, ⟨(fun x hx => absurd hx List.not_mem_nil), List.nodup_nil⟩⟩ fun s' hs' => ⟨rfl, ?_⟩⟩
  obtain ⟨pz, pe, xs, kt, o, es, ep, h1, h2, h3, h4, _, h6⟩ := hs'
  have hlen : (putAll [] ps).length ≤ sizeLine := Nat.le_trans (putAll_len ps []) (by simpa using z)
  rw [pe]
  refine ⟨.ref s.heap.objs.size, _, I.laid (h' := s'.heap) (t' := s'.toks) (o := .dT (putAll [] ps)) pz (Nat.le_refl _) ⟨hlen, ?_, xs, kt.keeps fun c ys ec => ?_, o, es, ep, h1, h2, h3, h4, h6⟩, rfl, q _ (I.hok.fresh (Nat.le_refl _))⟩
  · have := I.big
    exact beq_eq_false_iff_ne.mpr (Nat.ne_of_gt this)
  · rw [upd_ne (ne_of_none ec (I.hok.fresh (Nat.le_refl _)))]
    exact ec
end
end L2

set_option linter.all false
set_option maxRecDepth 100000
set_option maxHeartbeats 4000000
namespace PySem
/-- a zip object of two iterators, whatever it holds of its own pair -/
abbrev IsZ (hp : Heap) (zo ti to : Addr) (f0 f1 : Value) : Prop :=
  hp.get? zo = some { cls := .type "zip", dict := none, data := .fields #[f0, f1, .bool false, .ref ti, .ref to], slots := #[] }
def F0 (f : Value) : Prop := f = .none ∨ ∃ a t, f = .int a t
section
variable {prog : Program} {w : World} {A : Around} {E : Value → Shared → Prop} {s : Shared} {zo ti to : Addr} {f0 f1 : Value}
theorem alive_any {a : Addr} {Q : Option Obj → Shared → Prop} (q : Q (s.heap.get? a) s) : wpAny (model prog w) A (loadIfAlive a) Q E s := fun Γ p hΓ => by
  unfold loadIfAlive
  rw [Sem.wp_loadIfAlive]
  exact wpAny_pure (M := model prog w) (A := A) (E := E) q Γ p hΓ
theorem zfree {Q : Bool → Shared → Prop} (hz : IsZ s.heap zo ti to f0 f1) (hf : F0 f0) (h1 : Q true s) (h2 : ∀ hp g1, IsZ hp zo ti to f0 g1 → Heap.SameBut zo s.heap hp → Q false { s with heap := hp }) :
    wpAny (model prog w) A (Builtin.SmallTypes.ownedTupleIsFree (.ref zo)) Q E s := by
  unfold Builtin.SmallTypes.ownedTupleIsFree
  refine wpAny_bind (wpAny_field hz rfl (x := f0) rfl ?_)
  rcases hf with rfl | ⟨a, t, rfl⟩
  · exact wpAny_pure h1
  · dsimp only
    refine wpAny_bind (alive_any ?_)
    by_cases ha : (s.heap.get? a.toNat).isNone = true
    · rw [if_pos ha]
      exact wpAny_pure h1
    · rw [if_neg ha]
      refine wpAny_bind (wpAny_field hz rfl (x := f1) rfl ?_)
      by_cases hb : (f1 != Value.bool true) = true
      · rw [if_pos hb]
        exact wpAny_bind (wpAny_setField_rec hz (by simp) fun hp hz2 hs2 => wpAny_pure (h2 hp _ hz2 hs2))
      · rw [if_neg hb]
        exact wpAny_pure (h2 s.heap f1 hz (Heap.SameBut.refl _ _))
/-- a turn of zip, whether its own pair is free or not: a new pair -/
theorem zipG_item {i1 i2 l1 l2 : Addr} {k : Nat} {xs ys : Array Value} {x y c0 c1 : Value} {Q : Value → Shared → Prop} (D : ZipApart zo ti to i1 i2 l1 l2)
    (qz : IsZ s.heap zo ti to f0 f1) (hf : F0 f0) (qT : IsPair s.heap ti (.ref i1) (.ref i2)) (qO : IsPair s.heap to c0 c1)
    (h1 : s.heap.IsListIter i1 l1 k) (h2 : s.heap.IsListIter i2 l2 k) (hl1 : s.heap.IsList l1 xs) (hl2 : s.heap.IsList l2 ys) (hx : xs[k]? = some x) (hy : ys[k]? = some y)
    (q : ∀ (hp : Heap) (p : Addr) (g0 g1 d0 d1 : Value), IsZ hp zo ti to g0 g1 → F0 g0 → IsPair hp to d0 d1 → hp.IsListIter i1 l1 (k + 1) → hp.IsListIter i2 l2 (k + 1) → IsPair hp p x y → p = s.heap.objs.size → (∀ c o, c ≠ zo → c ≠ to → c ≠ i1 → c ≠ i2 → s.heap.get? c = some o → hp.get? c = some o) → Q (.ref p) { s with heap := hp }) :
    wpAny (model prog w) A (Builtin.«zip.__next__» ⟨[.ref zo], []⟩) (fun fin s' => ∃ v, fin = .done (.ret v) ∧ Q v s') E s := by
  show wpAny _ _ (field (.ref zo) 2 >>= _) _ _ _
  refine wpAny_bind (wpAny_field qz rfl (x := .bool false) rfl ?_)
  show wpAny _ _ (field (.ref zo) 3 >>= _) _ _ _
  refine wpAny_bind (wpAny_field qz rfl (x := .ref ti) rfl ?_)
  refine wpAny_bind (wpAny_seqItems qT rfl ?_)
  show wpAny _ _ (Builtin.SmallTypes.ownedTupleIsFree (.ref zo) >>= _) _ _ _
  refine wpAny_bind (zfree qz hf ?_ ?_)
  · simp only [if_true]
    refine wpAny_bind (wpAny_rule (wpAny_bind (wpAny_field qz rfl (x := .ref to) rfl (wpAny_bind (wpAny_setField_rec qz (by simp) fun e1 z1 b1 => ?_)))))
    replace z1 : IsZ e1 zo ti to .ellipsis f1 := z1
    simp only [List.zipIdx_cons, List.zipIdx_nil, List.forIn_cons, List.forIn_nil]
    refine wpAny_bind (wpAny_bind (wpAny_bind (wpAny_onRaise ?_)))
    show wpAny _ _ (Builtin.SmallTypes.nextOf (.ref i1) >>= fun v => pure (some v)) _ _ _
    refine wpAny_bind (wpAny_nextOf_list_item (h1.extBut b1.extBut D.i1z) (hl1.extBut b1.extBut D.l1z) hx fun e2 t2 b2 => wpAny_pure ?_)
    have o2 : IsPair e2 to c0 c1 := b2.extBut _ _ D.TOi1 (b1.extBut _ _ D.TOz qO)
    refine wpAny_bind (wpAny_seqItems o2 rfl (wpAny_bind (wpAny_updateSeq_pair o2 fun e3 o3 b3 => wpAny_bind (wpAny_letGo (wpAny_pure ?_)))))
    replace o3 : IsPair e3 to x c1 := o3
    refine wpAny_bind (wpAny_bind (wpAny_onRaise ?_))
    show wpAny _ _ (Builtin.SmallTypes.nextOf (.ref i2) >>= fun v => pure (some v)) _ _ _
    refine wpAny_bind (wpAny_nextOf_list_item (((h2.extBut b1.extBut D.i2z).extBut b2.extBut D.i12.symm).extBut b3.extBut D.TOi2.symm) (((hl2.extBut b1.extBut D.l2z).extBut b2.extBut D.l2i1).extBut b3.extBut D.l2TO) hy fun e4 t4 b4 => wpAny_pure ?_)
    have o4 : IsPair e4 to x c1 := b4.extBut _ _ D.TOi2 o3
    refine wpAny_bind (wpAny_seqItems o4 rfl (wpAny_bind (wpAny_updateSeq_pair o4 fun e5 o5 b5 => wpAny_bind (wpAny_letGo (wpAny_pure (wpAny_pure ?_))))))
    replace o5 : IsPair e5 to x y := o5
    refine wpAny_bind (wpAny_seqItems o5 rfl (wpAny_bind (wpAny_newTuple ?_)))
    replace b2 : Heap.SameBut i1 e1 e2 := b2
    replace b3 : Heap.SameBut to e2 e3 := b3
    replace b4 : Heap.SameBut i2 e3 e4 := b4
    replace b5 : Heap.SameBut to e4 e5 := b5
    have sz : e5.objs.size = s.heap.objs.size := by rw [b5.1, b4.1, b3.1, b2.1, b1.1]
    have z5 : IsZ e5 zo ti to .ellipsis f1 := b5.extBut _ _ D.TOz.symm (b4.extBut _ _ D.i2z.symm (b3.extBut _ _ D.TOz.symm (b2.extBut _ _ D.i1z.symm z1)))
    have k5 : ∀ c o, c ≠ zo → c ≠ to → c ≠ i1 → c ≠ i2 → s.heap.get? c = some o → e5.get? c = some o := fun c o n1 n2 n3 n4 e => b5.extBut _ _ n2 (b4.extBut _ _ n4 (b3.extBut _ _ n2 (b2.extBut _ _ n3 (b1.extBut _ _ n1 e))))
    have t5 : e5.IsListIter i1 l1 (k + 1) := ((t2.extBut b3.extBut D.TOi1.symm).extBut b4.extBut D.i12).extBut b5.extBut D.TOi1.symm
    have u5 : e5.IsListIter i2 l2 (k + 1) := t4.extBut b5.extBut D.TOi2.symm
    have lz : zo < e5.objs.size := Heap.lt_size z5
    show wpAny _ _ (Builtin.SmallTypes.ownedTupleHandOut (.ref zo) (.ref e5.objs.size) >>= _) _ _ _
    refine wpAny_bind ?_
    unfold Builtin.SmallTypes.ownedTupleHandOut
    have z6 : IsZ (e5.push { cls := .type "tuple", data := .seq #[x, y] }) zo ti to .ellipsis f1 := Heap.get?_push_of_some _ z5
    refine wpAny_bind (wpAny_setField_rec z6 (by simp) fun e7 z7 b7 => wpAny_setField_rec z7 (by simp) fun e8 z8 b8 => wpAny_pure ⟨_, rfl, ?_⟩)
    replace z8 : IsZ e8 zo ti to (rawInt e5.objs.size) (.bool false) := z8
    replace b7 : Heap.SameBut zo (e5.push { cls := .type "tuple", data := .seq #[x, y] }) e7 := b7
    replace b8 : Heap.SameBut zo e7 e8 := b8
    have up : ∀ c o, c ≠ zo → e5.get? c = some o → e8.get? c = some o := fun c o n e => b8.extBut _ _ n (b7.extBut _ _ n (Heap.get?_push_of_some _ e))
    exact q e8 e5.objs.size _ _ x y z8 (.inr ⟨_, _, rfl⟩) (up _ _ D.TOz o5) (t5.at fun o e => up _ o D.i1z e) (u5.at fun o e => up _ o D.i2z e) (b8.extBut _ _ (Nat.ne_of_gt lz) (b7.extBut _ _ (Nat.ne_of_gt lz) (Heap.get?_push_size _ rfl))) sz fun c o n1 n2 n3 n4 e => up c o n1 (k5 c o n1 n2 n3 n4 e)
  · intro hp g1 hz2 sb
    simp only [Bool.false_eq_true, if_false]
    simp only [← Array.forIn_toList, List.forIn_cons, List.forIn_nil]
    refine wpAny_bind (wpAny_bind (wpAny_bind (wpAny_holding ?_)))
    show wpAny _ _ (Builtin.SmallTypes.nextOf (.ref i1) >>= fun v => pure (some v)) _ _ _
    refine wpAny_bind (wpAny_nextOf_list_item (h1.extBut sb.extBut D.i1z) (hl1.extBut sb.extBut D.l1z) hx fun e2 t2 b2 => wpAny_pure (wpAny_pure ?_))
    replace b2 : Heap.SameBut i1 hp e2 := b2
    refine wpAny_bind (wpAny_bind (wpAny_holding ?_))
    show wpAny _ _ (Builtin.SmallTypes.nextOf (.ref i2) >>= fun v => pure (some v)) _ _ _
    refine wpAny_bind (wpAny_nextOf_list_item ((h2.extBut sb.extBut D.i2z).extBut b2.extBut D.i12.symm) ((hl2.extBut sb.extBut D.l2z).extBut b2.extBut D.l2i1) hy fun e4 t4 b4 => wpAny_pure (wpAny_pure (wpAny_pure ?_)))
    replace b4 : Heap.SameBut i2 e2 e4 := b4
    show wpAny _ _ (newTuple [x, y] >>= fun r => ret r) _ _ { s with heap := e4 }
    refine wpAny_bind (wpAny_newTuple (wpAny_pure ⟨_, rfl, ?_⟩))
    have pu : ∀ c o, e4.get? c = some o → (e4.push { cls := .type "tuple", data := .seq #[x, y] }).get? c = some o := fun c o e => Heap.get?_push_of_some _ e
    have z4 : IsZ e4 zo ti to f0 g1 := b4.extBut _ _ D.i2z.symm (b2.extBut _ _ D.i1z.symm hz2)
    have o4 : IsPair e4 to c0 c1 := b4.extBut _ _ D.TOi2 (b2.extBut _ _ D.TOi1 (sb.extBut _ _ D.TOz qO))
    have sz : e4.objs.size = s.heap.objs.size := by rw [b4.1, b2.1, sb.1]
    exact q (e4.push { cls := .type "tuple", data := .seq #[x, y] }) e4.objs.size f0 g1 c0 c1 (pu _ _ z4) hf (pu _ _ o4) ((t2.extBut b4.extBut D.i12).at fun o e => pu _ o e) (t4.at fun o e => pu _ o e) (Heap.get?_push_size _ rfl) sz fun c o n1 n2 n3 n4 e => pu _ _ (b4.extBut _ _ n4 (b2.extBut _ _ n3 (sb.extBut _ _ n1 e)))
/-- the end of zip -/
theorem zipG_end {i1 i2 l1 l2 : Addr} {k : Nat} {xs ys : Array Value} {c0 c1 : Value} {Q : Fin → Shared → Prop} (hh : A.handled = none) (D : ZipApart zo ti to i1 i2 l1 l2)
    (qz : IsZ s.heap zo ti to f0 f1) (hf : F0 f0) (qT : IsPair s.heap ti (.ref i1) (.ref i2)) (qO : IsPair s.heap to c0 c1)
    (h1 : s.heap.IsListIter i1 l1 k) (h2 : s.heap.IsListIter i2 l2 k) (hl1 : s.heap.IsList l1 xs) (hl2 : s.heap.IsList l2 ys) (he : xs[k]? = none ∨ ys[k]? = none)
    (q : ∀ (hp : Heap) (e : Addr), (∀ c o, c ≠ zo → c ≠ to → c ≠ i1 → c ≠ i2 → s.heap.get? c = some o → hp.get? c = some o) → (∃ o, hp.get? e = some o ∧ o.cls = .type "StopIteration") → E (.ref e) { s with heap := hp }) :
    wpAny (model prog w) A (Builtin.«zip.__next__» ⟨[.ref zo], []⟩) Q E s := by
  show wpAny _ _ (field (.ref zo) 2 >>= _) _ _ _
  refine wpAny_bind (wpAny_field qz rfl (x := .bool false) rfl ?_)
  show wpAny _ _ (field (.ref zo) 3 >>= _) _ _ _
  refine wpAny_bind (wpAny_field qz rfl (x := .ref ti) rfl ?_)
  refine wpAny_bind (wpAny_seqItems qT rfl ?_)
  show wpAny _ _ (Builtin.SmallTypes.ownedTupleIsFree (.ref zo) >>= _) _ _ _
  refine wpAny_bind (zfree qz hf ?_ ?_)
  · simp only [if_true]
    refine wpAny_bind (wpAny_rule (wpAny_bind (wpAny_field qz rfl (x := .ref to) rfl (wpAny_bind (wpAny_setField_rec qz (by simp) fun e1 z1 b1 => ?_)))))
    replace z1 : IsZ e1 zo ti to .ellipsis f1 := z1
    simp only [List.zipIdx_cons, List.zipIdx_nil, List.forIn_cons, List.forIn_nil]
    refine wpAny_bind (wpAny_bind (wpAny_bind (wpAny_onRaise ?_)))
    show wpAny _ _ (Builtin.SmallTypes.nextOf (.ref i1) >>= fun v => pure (some v)) _ _ _
    cases hx : xs[k]? with
    | none =>
      refine wpAny_bind (wpAny_nextOf_list_end hh (h1.extBut b1.extBut D.i1z) (hl1.extBut b1.extBut D.l1z) hx fun e2 e b2 ⟨oe, ho, hc⟩ => ?_)
      have z2 : IsZ e2 zo ti to .ellipsis f1 := b2 _ _ D.i1z.symm z1
      have ne : e ≠ zo := fun z => by subst z; rw [z2] at ho; cases ho; simp at hc
      exact wpAny_setField_rec z2 (by simp) fun e3 _ b3 => q e3 e (fun c o n1 _ n3 _ x => b3.extBut _ _ n1 (b2 _ _ n3 (b1.extBut _ _ n1 x))) ⟨oe, b3.extBut _ _ ne ho, hc⟩
    | some x =>
      have hy : ys[k]? = none := he.resolve_left (by rw [hx]; simp)
      refine wpAny_bind (wpAny_nextOf_list_item (h1.extBut b1.extBut D.i1z) (hl1.extBut b1.extBut D.l1z) hx fun e2 t2 b2 => wpAny_pure ?_)
      have o2 : IsPair e2 to c0 c1 := b2.extBut _ _ D.TOi1 (b1.extBut _ _ D.TOz qO)
      refine wpAny_bind (wpAny_seqItems o2 rfl (wpAny_bind (wpAny_updateSeq_pair o2 fun e3 o3 b3 => wpAny_bind (wpAny_letGo (wpAny_pure ?_)))))
      refine wpAny_bind (wpAny_bind (wpAny_onRaise ?_))
      show wpAny _ _ (Builtin.SmallTypes.nextOf (.ref i2) >>= fun v => pure (some v)) _ _ _
      refine wpAny_bind (wpAny_nextOf_list_end hh (((h2.extBut b1.extBut D.i2z).extBut b2.extBut D.i12.symm).extBut b3.extBut D.TOi2.symm) (((hl2.extBut b1.extBut D.l2z).extBut b2.extBut D.l2i1).extBut b3.extBut D.l2TO) hy fun e4 e b4 ⟨oe, ho, hc⟩ => ?_)
      have z4 : IsZ e4 zo ti to .ellipsis f1 := b4 _ _ D.i2z.symm (b3.extBut _ _ D.TOz.symm (b2.extBut _ _ D.i1z.symm z1))
      have ne : e ≠ zo := fun z => by subst z; rw [z4] at ho; cases ho; simp at hc
      exact wpAny_setField_rec z4 (by simp) fun e5 _ b5 => q e5 e (fun c o n1 n2 n3 n4 x => b5.extBut _ _ n1 (b4 _ _ n4 (b3.extBut _ _ n2 (b2.extBut _ _ n3 (b1.extBut _ _ n1 x))))) ⟨oe, b5.extBut _ _ ne ho, hc⟩
  · intro hp g1 hz2 sb
    simp only [Bool.false_eq_true, if_false]
    simp only [← Array.forIn_toList, List.forIn_cons, List.forIn_nil]
    refine wpAny_bind (wpAny_bind (wpAny_bind (wpAny_holding ?_)))
    show wpAny _ _ (Builtin.SmallTypes.nextOf (.ref i1) >>= fun v => pure (some v)) _ _ _
    cases hx : xs[k]? with
    | none =>
      exact wpAny_bind (wpAny_nextOf_list_end hh (h1.extBut sb.extBut D.i1z) (hl1.extBut sb.extBut D.l1z) hx fun e2 e b2 hoe => q e2 e (fun c o n1 _ n3 _ x => b2 _ _ n3 (sb.extBut _ _ n1 x)) hoe)
    | some x =>
      have hy : ys[k]? = none := he.resolve_left (by rw [hx]; simp)
      refine wpAny_bind (wpAny_nextOf_list_item (h1.extBut sb.extBut D.i1z) (hl1.extBut sb.extBut D.l1z) hx fun e2 t2 b2 => wpAny_pure (wpAny_pure ?_))
      replace b2 : Heap.SameBut i1 hp e2 := b2
      refine wpAny_bind (wpAny_bind (wpAny_holding ?_))
      show wpAny _ _ (Builtin.SmallTypes.nextOf (.ref i2) >>= fun v => pure (some v)) _ _ _
      exact wpAny_bind (wpAny_nextOf_list_end hh ((h2.extBut sb.extBut D.i2z).extBut b2.extBut D.i12.symm) ((hl2.extBut sb.extBut D.l2z).extBut b2.extBut D.l2i1) hy fun e4 e b4 hoe => q e4 e (fun c o n1 _ n3 n4 x => b4 _ _ n4 (b2.extBut _ _ n3 (sb.extBut _ _ n1 x))) hoe)
theorem zipG_next {i1 i2 l1 l2 : Addr} {k : Nat} {xs ys : Array Value} {x y c0 c1 : Value} {Q : Option Value → Shared → Prop} (D : ZipApart zo ti to i1 i2 l1 l2)
    (qz : IsZ s.heap zo ti to f0 f1) (hf : F0 f0) (qT : IsPair s.heap ti (.ref i1) (.ref i2)) (qO : IsPair s.heap to c0 c1)
    (h1 : s.heap.IsListIter i1 l1 k) (h2 : s.heap.IsListIter i2 l2 k) (hl1 : s.heap.IsList l1 xs) (hl2 : s.heap.IsList l2 ys) (hx : xs[k]? = some x) (hy : ys[k]? = some y)
    (q : ∀ (hp : Heap) (p : Addr) (g0 g1 d0 d1 : Value), IsZ hp zo ti to g0 g1 → F0 g0 → IsPair hp to d0 d1 → hp.IsListIter i1 l1 (k + 1) → hp.IsListIter i2 l2 (k + 1) → IsPair hp p x y → p = s.heap.objs.size → (∀ c o, c ≠ zo → c ≠ to → c ≠ i1 → c ≠ i2 → s.heap.get? c = some o → hp.get? c = some o) → Q (some (.ref p)) { s with heap := hp }) :
    wpAny (model prog w) A (pyNext (.ref zo)) Q E s := by
  have tz : s.TypeIs (.ref zo) "zip" := ⟨_, qz, rfl⟩
  unfold pyNext
  exact wpAny_bind (wpAny_attempt (wpAny_callSpecial?_slot (name := Str.ofString "__next__") tz F.slot_zip_next (wpAny_call_entry F.slot_zip_next tz F.entry_zip_next (zipG_item D qz hf qT qO h1 h2 hl1 hl2 hx hy fun hp p g0 g1 d0 d1 a1 a2 a3 a4 a5 a6 a7 a8 => wpAny_pure (q hp p g0 g1 d0 d1 a1 a2 a3 a4 a5 a6 a7 a8)) (F.args_zip_next_1 _))))
theorem zipG_stop {i1 i2 l1 l2 : Addr} {k : Nat} {xs ys : Array Value} {c0 c1 : Value} {Q : Option Value → Shared → Prop} (hh : A.handled = none) (D : ZipApart zo ti to i1 i2 l1 l2)
    (qz : IsZ s.heap zo ti to f0 f1) (hf : F0 f0) (qT : IsPair s.heap ti (.ref i1) (.ref i2)) (qO : IsPair s.heap to c0 c1)
    (h1 : s.heap.IsListIter i1 l1 k) (h2 : s.heap.IsListIter i2 l2 k) (hl1 : s.heap.IsList l1 xs) (hl2 : s.heap.IsList l2 ys) (he : xs[k]? = none ∨ ys[k]? = none)
    (q : ∀ hp : Heap, (∀ c o, c ≠ zo → c ≠ to → c ≠ i1 → c ≠ i2 → s.heap.get? c = some o → hp.get? c = some o) → Q none { s with heap := hp }) : wpAny (model prog w) A (pyNext (.ref zo)) Q E s := by
  have tz : s.TypeIs (.ref zo) "zip" := ⟨_, qz, rfl⟩
  unfold pyNext
  refine wpAny_bind (wpAny_attempt (wpAny_callSpecial?_slot (name := Str.ofString "__next__") tz F.slot_zip_next (wpAny_call_entry F.slot_zip_next tz F.entry_zip_next (zipG_end hh D qz hf qT qO h1 h2 hl1 hl2 he fun hp e hk ⟨o, ho, hc⟩ => ?_) (F.args_zip_next_1 _))))
  exact wpAny_bind (wpAny_isInstance (T := "StopIteration") (b := true) ⟨o, ho, hc⟩ isSubtype_stop (wpAny_pure (q _ hk)))
theorem zipG_iter {Q : Value → Shared → Prop} (qz : IsZ s.heap zo ti to f0 f1) (h : Q (.ref zo) s) : wpAny (model prog w) A (pyIter (.ref zo)) Q E s := by
  have tz : s.TypeIs (.ref zo) "zip" := ⟨_, qz, rfl⟩
  refine wpAny_pyIter_slot tz F.slot_zip_iter (wpAny_call_entry F.slot_zip_iter tz F.entry_zip_iter ?_ (F.args_zip_iter_1 _))
  show wpAny _ _ (ret (.ref zo)) _ _ s
  exact wpAny_pure ⟨_, rfl, "zip", _, tz, F.slot_zip_next.lookup, h⟩
end
end PySem
namespace L2
open PySem PySem.Spec PyProof.Rows
/-- zip of two lists, its pairs by one name -/
theorem turn_zipN {P : Program} {w : World} {K : PySem.W.Frag} {x : Str} {tpos : Pos} (a b z TI TO i1 i2 : Addr) (D : ZipApart z TI TO i1 i2 a b) : Turn P w K (.Name x tpos) (Itz K a b) [z, TI, TO, i1, i2] z (fun i h => (∃ f0 f1, IsZ h z TI TO f0 f1 ∧ F0 f0) ∧ IsPair h TI (.ref i1) (.ref i2) ∧ (∃ u v, IsPair h TO u v) ∧ h.IsListIter i1 a i ∧ h.IsListIter i2 b i) where
  mem := by simp
  obj := fun i h st c hc => by
    obtain ⟨⟨f0, f1, hz, _⟩, hTI, ⟨u, v, hTO⟩, ⟨o1, e1, c1, d1⟩, ⟨o2, e2, c2, d2⟩⟩ := st
    have hc' : c = z ∨ c = TI ∨ c = TO ∨ c = i1 ∨ c = i2 := by simpa using hc
    rcases hc' with rfl | rfl | rfl | rfl | rfl
    · exact ⟨_, hz, fun v z => by cases z⟩
    · exact ⟨_, hTI, fun v z => by cases z⟩
    · exact ⟨_, hTO, fun v z => by cases z⟩
    · exact ⟨o1, e1, fun v z => by rw [d1] at z; cases z⟩
    · exact ⟨o2, e2, fun v z => by rw [d2] at z; cases z⟩
  keep := fun i h h' st k => by
    obtain ⟨⟨f0, f1, hz, hf⟩, hTI, ⟨u, v, hTO⟩, h1, h2⟩ := st
    exact ⟨⟨f0, f1, k z (by simp) _ hz, hf⟩, k TI (by simp) _ hTI, ⟨u, v, k TO (by simp) _ hTO⟩, h1.at fun o q => k i1 (by simp) o q, h2.at fun o q => k i2 (by simp) o q⟩
  item := by
    intro X hP hw hK hc i pins s σ H E I hf st hg
    subst hP hw hK
    obtain ⟨xs, x, ys, y, hq, hx, hq', hy⟩ := hg
    obtain ⟨its, rv, p, hzz⟩ := I.list hq
    obtain ⟨u, hu, ru⟩ := rv.get hx
    obtain ⟨its', rv', p', hzz'⟩ := I.list hq'
    obtain ⟨u', hu', ru'⟩ := rv'.get hy
    obtain ⟨⟨f0, f1, hz, hF⟩, hTI, ⟨ua, ub, hTO⟩, h1, h2⟩ := st
    refine zipG_next D hz hF hTI hTO h1 h2 p.isList p'.isList (x := u) (y := u') (by simpa using hu) (by simpa using hu') fun hp pa g0 g1 d0 d1 a1 a2 a3 a4 a5 a6 a7 hk => ⟨_, rfl, ?_⟩
    subst a7
    show wpAny _ _ (pure ()) _ _ _
    refine wpAny_pure ?_
    have hnew : H s.heap.objs.size = none := I.hok.fresh (Nat.le_refl _)
    refine ⟨.ref s.heap.objs.size, upd H s.heap.objs.size (.tup [x, y]), I.turn2 (ch := [z, TI, TO, i1, i2]) (t' := s.toks) hf (fun c ob hc q => ?_) (Nat.le_refl _) ?_, rfl, ⟨_, x, y, hnew, fun zs hz => by rw [I.list_inj hz hq]; exact hx, fun zs hz => by rw [I.list_inj hz hq']; exact hy, rfl, rfl⟩, ⟨⟨g0, g1, a1, a2⟩, hk _ _ D.TIz D.TITO D.TIi1 D.TIi2 hTI, ⟨_, _, a3⟩, a4, a5⟩, fun c hc => ?_⟩
    · exact hk c ob (fun e => hc (by simp [e])) (fun e => hc (by simp [e])) (fun e => hc (by simp [e])) (fun e => hc (by simp [e])) q
    · exact ⟨le_line (show 2 ≤ 1000 by decide), [u, u'], .cons ru (.cons ru' .nil), _, a6, rfl, 0, rfl⟩
    · have hn := (hf c hc).1
      have hc' : c = z ∨ c = TI ∨ c = TO ∨ c = i1 ∨ c = i2 := by simpa using hc
      obtain ⟨o1, g1, _⟩ := h1
      obtain ⟨o2, g2, _⟩ := h2
      have hlt : c < s.heap.objs.size := by
        rcases hc' with rfl | rfl | rfl | rfl | rfl
        · exact Heap.lt_size hz
        · exact Heap.lt_size hTI
        · exact Heap.lt_size hTO
        · exact Heap.lt_size g1
        · exact Heap.lt_size g2
      rw [upd_ne (Nat.ne_of_lt hlt)]; exact hn
  done := by
    intro X hP hw hK hc i pins s σ H E I hf st hg
    subst hP hw hK
    obtain ⟨xs, ys, hq, hq', hx⟩ := hg
    obtain ⟨its, rv, p, hzz⟩ := I.list hq
    obtain ⟨its', rv', p', hzz'⟩ := I.list hq'
    obtain ⟨⟨f0, f1, hz, hF⟩, hTI, ⟨ua, ub, hTO⟩, h1, h2⟩ := st
    have hl := rv.length
    have hl' := rv'.length
    refine zipG_stop (I.ok.hd hc) D hz hF hTI hTO h1 h2 p.isList p'.isList (hx.imp (fun z => by rw [List.getElem?_toArray]; exact List.getElem?_eq_none (by omega)) (fun z => by rw [List.getElem?_toArray]; exact List.getElem?_eq_none (by omega))) fun h' eb => ⟨rfl, ?_⟩
    have tr : ∀ c u, H c = some u → c ∉ [z, TI, TO, i1, i2] := fun c u e q => by rw [(hf c q).1] at e; cases e
    have k : ∀ c ob, c ∉ [z, TI, TO, i1, i2] → s.heap.get? c = some ob → h'.get? c = some ob := fun c ob n q => eb c ob (fun e => n (by simp [e])) (fun e => n (by simp [e])) (fun e => n (by simp [e])) (fun e => n (by simp [e])) q
    refine I.call (g' := s.gens) (t' := s.toks) (d' := s.drawn) (ch := [z, TI, TO, i1, i2]) ⟨fun b ob e n _ hx => k b ob hx e, fun b ob e n _ hx => ⟨ob.slots, k b ob hx e⟩, fun b ob e n _ => n, fun b ob e hx => ⟨ob, k b ob hx e⟩, fun b xs e => e, fun b ob u e => e, fun b qs e => ⟨#[], by rw [e]; simp⟩⟩ (fun b u e => ?_) I.bare fun b hb => ?_
    · refine (I.hok b u e).stay (fun c v hc q => k c v ?_ q) (fun c q => q) fun c xs q => q
      rcases hc with z | z
      · rw [z]; exact tr b u e
      · exact tr c _ z
    · obtain ⟨a1, a2, a3, a4, a5, a6⟩ := hf b hb
      exact ⟨a4, a2, a5, a6⟩
  self := fun _ _ _ _ _ st h => let ⟨⟨_, _, hz, _⟩, _⟩ := st; zipG_iter hz h
section
variable {X : Cx}
theorem pi_zipN {x : Str} {tpos : Pos} {l m : Expr} {ta : TA} {p pos : Pos} (hg : Gl X "zip") (hm : X.mg "zip" = none) (ha : PA X [l, m] ta)
    (he : starEach [l, m] X.env = (false, eval l X.env) :: starEach [m] X.env := by rfl) (hpl : (backTo pos (starEach [m] X.env)).any (·.1) = false := by rfl) :
    PI X (.Name x tpos) (.Call (.Name "zip" p) [l, m] [] pos) (iZip X.K ta) := by
  intro pins s σ H R I h
  refine Call_ (ld_blt I hg hm PyProof.Rows.boot_zip (PyProof.Rows.callWith_type1 (thn (ha pos pins s σ H _ I h) fun us s1 ⟨vs, H1, I1, r1, q1⟩ => ?_) he hpl))
  obtain ⟨a, b, e, ⟨xs, hq⟩, ⟨ys, hq'⟩, q⟩ := q1
  subst e
  obtain ⟨u, u', rfl, ru, ru'⟩ := vals2 r1
  cases ru
  cases ru'
  obtain ⟨its, rv, pl, hz⟩ := I1.list hq
  obtain ⟨its', rv', pl', hz'⟩ := I1.list hq'
  have hla : a < s1.heap.objs.size := by obtain ⟨o, ho, _⟩ := pl.isList; exact Heap.lt_size ho
  have hlb : b < s1.heap.objs.size := by obtain ⟨o, ho, _⟩ := pl'.isList; exact Heap.lt_size ho
  have D : ZipApart (s1.heap.objs.size + 4) (s1.heap.objs.size + 2) (s1.heap.objs.size + 3) s1.heap.objs.size (s1.heap.objs.size + 1) a b := by
    generalize s1.heap.objs.size = n at hla hlb ⊢
    have h1 : LT.lt (α := Nat) a n := hla
    have h2 : LT.lt (α := Nat) b n := hlb
    constructor <;> (refine zneN ?_; omega)
  refine call_zip_2 pl.isList pl'.isList fun h' z1 z2 z3 z4 z5 z6 hk => wpAny_pyIter_zip z1 ?_
  have I2 : Inv X pins σ H1 { s1 with heap := h' } := I1.kept (t' := s1.toks) hk
  refine ⟨s1.heap.objs.size + 4, _, _, Itz X.K a b, H1, rfl, I2, turn_zipN a b _ _ _ _ _ D, ⟨⟨_, _, z1, .inl rfl⟩, z2, ⟨_, _, z3⟩, z4, z5⟩, fun c hc => ?_, q⟩
  have hc' : c = s1.heap.objs.size + 4 ∨ c = s1.heap.objs.size + 2 ∨ c = s1.heap.objs.size + 3 ∨ c = s1.heap.objs.size ∨ c = s1.heap.objs.size + 1 := by simpa using hc
  have hle : s1.heap.objs.size ≤ c := by
    rcases hc' with rfl | rfl | rfl | rfl | rfl
    · exact Nat.le_add_right _ _
    · exact Nat.le_add_right _ _
    · exact Nat.le_add_right _ _
    · exact Nat.le_refl _
    · exact Nat.le_add_right _ _
  exact I1.fpOk hle (I1.hok.fresh hle)
theorem call_maxT (hc : X.calm = true) : CallR X (.builtin "max") (fun xs H Q => ∃ (p : Addr) (ns : List Int), xs = [.ref p] ∧ SqT X.K H p (ns.map V.int) ∧ ns ≠ [] ∧ ∀ M, M ∈ ns → (∀ a ∈ ns, a ≤ M) → Q (.int M) H) := by
  intro pins s σ H xs us Q I r h
  obtain ⟨p, ns, rfl, hq, hne, q⟩ := h
  obtain ⟨u, rfl, rx⟩ := vals1 r
  cases rx
  obtain ⟨its, rv, pl, hz⟩ := I.tuple hq
  have hi := intsAre_of rv
  obtain ⟨xs, e⟩ := hi.allInts.items
  have hns : ns = xs.toList.map (·.1) := by rw [← hi.numsOf, ← nums_intItems, ← e]
  obtain ⟨o, ho, hcl, n, hd⟩ := pl
  rw [e] at hd
  have hl : s.heap.IsTuple p (intItems xs) := ⟨o, ho, hcl, n, hd⟩
  have hlt : p < s.heap.objs.size := Heap.lt_size ho
  have hx0 : 0 < xs.size := by
    rcases Nat.eq_zero_or_pos xs.size with z | z
    · rw [hns, Array.eq_empty_of_size_eq_zero z] at hne; exact absurd rfl hne
    · exact z
  refine call_max_walk (wpAny_pyIter_tuple hl ?_)
  refine ⟨_, [_, p], [_], _, _, _, _, rfl, Walks.tuple (A := X.A.in1) (I.ok.hd hc) _ p (Nat.ne_of_lt hlt) (intItems xs), ⟨⟨_, Heap.get?_push_size _ rfl, rfl, rfl⟩, ⟨o, Heap.get?_push_of_some _ ho, hcl, n, hd⟩⟩, fun c hc => ?_, by simpa [intItems] using hx0, CmpOf.ints_gt (numAt xs) (fun _ _ => intItems_at), fun v h' tk hP hk => ?_⟩
  · show c < (s.heap.push _).objs.size
    rw [Heap.size_push]
    rcases List.mem_cons.mp hc with rfl | hc
    · exact Nat.lt_succ_self _
    · rw [List.mem_singleton.mp hc]; exact Nat.lt_succ_of_lt hlt
  · have k : ∀ c o, s.heap.get? c = some o → h'.get? c = some o := fun c o e => by
      refine hk c o (fun hm => ?_) (Heap.get?_push_of_some _ e)
      exact absurd (Heap.lt_size e) (by rw [List.mem_singleton.mp hm]; exact Nat.lt_irrefl _)
    have hP' : (intItems xs)[argBest (fun i j => decide (numAt xs i > numAt xs j)) (xs.size - 1)]? = some v := by simpa [intItems] using hP
    obtain ⟨t, rfl⟩ := intItems_at hP'
    obtain ⟨g1, g2⟩ := argBest_gt (numAt xs) (xs.size - 1)
    refine ⟨.int _, H, I.kept k, ⟨_, rfl⟩, q _ ?_ fun a ha => ?_⟩
    · rw [hns, numAt_eq]; exact getD_mem (by rw [List.length_map, Array.length_toList]; omega)
    · rw [hns] at ha
      obtain ⟨j, hj, rfl⟩ := mem_getD ha
      rw [List.length_map, Array.length_toList] at hj
      rw [← numAt_eq]; exact g2 j (by omega)
theorem call_minT (hc : X.calm = true) : CallR X (.builtin "min") (fun xs H Q => ∃ (p : Addr) (ns : List Int), xs = [.ref p] ∧ SqT X.K H p (ns.map V.int) ∧ ns ≠ [] ∧ ∀ M, M ∈ ns → (∀ a ∈ ns, M ≤ a) → Q (.int M) H) := by
  intro pins s σ H xs us Q I r h
  obtain ⟨p, ns, rfl, hq, hne, q⟩ := h
  obtain ⟨u, rfl, rx⟩ := vals1 r
  cases rx
  obtain ⟨its, rv, pl, hz⟩ := I.tuple hq
  have hi := intsAre_of rv
  obtain ⟨xs, e⟩ := hi.allInts.items
  have hns : ns = xs.toList.map (·.1) := by rw [← hi.numsOf, ← nums_intItems, ← e]
  obtain ⟨o, ho, hcl, n, hd⟩ := pl
  rw [e] at hd
  have hl : s.heap.IsTuple p (intItems xs) := ⟨o, ho, hcl, n, hd⟩
  have hlt : p < s.heap.objs.size := Heap.lt_size ho
  have hx0 : 0 < xs.size := by
    rcases Nat.eq_zero_or_pos xs.size with z | z
    · rw [hns, Array.eq_empty_of_size_eq_zero z] at hne; exact absurd rfl hne
    · exact z
  refine call_min_walk (wpAny_pyIter_tuple hl ?_)
  refine ⟨_, [_, p], [_], _, _, _, _, rfl, Walks.tuple (A := X.A.in1) (I.ok.hd hc) _ p (Nat.ne_of_lt hlt) (intItems xs), ⟨⟨_, Heap.get?_push_size _ rfl, rfl, rfl⟩, ⟨o, Heap.get?_push_of_some _ ho, hcl, n, hd⟩⟩, fun c hc => ?_, by simpa [intItems] using hx0, CmpOf.ints_lt (numAt xs) (fun _ _ => intItems_at), fun v h' tk hP hk => ?_⟩
  · show c < (s.heap.push _).objs.size
    rw [Heap.size_push]
    rcases List.mem_cons.mp hc with rfl | hc
    · exact Nat.lt_succ_self _
    · rw [List.mem_singleton.mp hc]; exact Nat.lt_succ_of_lt hlt
  · have k : ∀ c o, s.heap.get? c = some o → h'.get? c = some o := fun c o e => by
      refine hk c o (fun hm => ?_) (Heap.get?_push_of_some _ e)
      exact absurd (Heap.lt_size e) (by rw [List.mem_singleton.mp hm]; exact Nat.lt_irrefl _)
    have hP' : (intItems xs)[argBest (fun i j => decide (numAt xs i < numAt xs j)) (xs.size - 1)]? = some v := by simpa [intItems] using hP
    obtain ⟨t, rfl⟩ := intItems_at hP'
    obtain ⟨g1, g2⟩ := argBest_lt (numAt xs) (xs.size - 1)
    refine ⟨.int _, H, I.kept k, ⟨_, rfl⟩, q _ ?_ fun a ha => ?_⟩
    · rw [hns, numAt_eq]; exact getD_mem (by rw [List.length_map, Array.length_toList]; omega)
    · rw [hns] at ha
      obtain ⟨j, hj, rfl⟩ := mem_getD ha
      rw [List.length_map, Array.length_toList] at hj
      rw [← numAt_eq]; exact g2 j (by omega)
theorem call_maxTK (K : PySem.W.Frag) (hc : X.calm = true) (h : X.K = K := by rfl) : CallR X (.builtin "max") (fun xs H Q => ∃ (p : Addr) (ns : List Int), xs = [.ref p] ∧ SqT K H p (ns.map V.int) ∧ ns ≠ [] ∧ ∀ M, M ∈ ns → (∀ a ∈ ns, a ≤ M) → Q (.int M) H) := h ▸ call_maxT hc
theorem call_minTK (K : PySem.W.Frag) (hc : X.calm = true) (h : X.K = K := by rfl) : CallR X (.builtin "min") (fun xs H Q => ∃ (p : Addr) (ns : List Int), xs = [.ref p] ∧ SqT K H p (ns.map V.int) ∧ ns ≠ [] ∧ ∀ M, M ∈ ns → (∀ a ∈ ns, M ≤ a) → Q (.int M) H) := h ▸ call_minT hc
end
section
variable {K : PySem.W.Frag} {a b : Addr} {xs ys : List V} {g : TG} {σ : St} {H : Hp} {tt : TT} {te : TE} {Q : VK} {σ0 : St}
def compZ (K : PySem.W.Frag) (g : TG) (tt : TT) (te : TE) (σ0 : St) (Q : VK) (x y : V) (H1 : Hp) : Prop := ∃ a b, [x, y] = [.ref a, .ref b] ∧ (∃ xs, SqL K H1 a xs) ∧ (∃ xs, SqL K H1 b xs) ∧ ∃ W : Nat → Nat → List V → St → Hp → Prop, (∃ m, W 0 m [] σ0 H1) ∧ ∀ i m zs σ H, W i m zs σ H →
  ((Itz K a b).stop i H ∧ zs.length ≤ sizeLine ∧ ∀ p, H p = none → Q (.ref p) (upd H p (.lst zs))) ∨
  ((Itz K a b).go i H ∧ zs.length < sizeLine ∧ ∀ x H', (Itz K a b).yld i H x H' → g x σ H' fun σ2 H2 => tt σ2 H2 fun b H3 => if b = true then te σ2 H3 fun y H4 => ∃ m', m' < m ∧ W (i + 1) m' (zs ++ [y]) σ2 H4 else ∃ m', m' < m ∧ W (i + 1) m' zs σ2 H3)
theorem tCompZ_eq {k : Nat} {js : List Nat} {t u : TE} : tComp k js (iZip K (tCons t (tCons u tNil))) g tt te σ H Q = t σ H (fun x H1 => u σ H1 fun y H2 => compZ K g tt te (up k js σ) Q x y H2) := rfl
theorem compZ_of (h : SqL K H a xs) (h' : SqL K H b ys) (hz : xs.length ≤ 1000) (P : Nat → List V → St → Hp → Prop) (h0 : P 0 [] σ0 H) (hl : ∀ i zs σ H, i ≤ min xs.length ys.length → P i zs σ H → SqL K H a xs ∧ SqL K H b ys ∧ zs.length ≤ i)
    (hs : ∀ (i : Nat) zs x y σ H p, i < min xs.length ys.length → xs[i]? = some x → ys[i]? = some y → P i zs σ H → H p = none → g (.ref p) σ (upd H p (.tup [x, y])) fun σ2 H2 => tt σ2 H2 fun b H3 => if b = true then te σ2 H3 fun y H4 => Nxt P (min xs.length ys.length) i (zs ++ [y]) σ2 H4 else Nxt P (min xs.length ys.length) i zs σ2 H3)
    (hd : ∀ zs σ H, P (min xs.length ys.length) zs σ H → ∀ p, H p = none → Q (.ref p) (upd H p (.lst zs))) : compZ K g tt te σ0 Q (.ref a) (.ref b) H := by
  have hz' := le_line hz
  refine ⟨a, b, rfl, ⟨xs, h⟩, ⟨ys, h'⟩, fun i m zs σ H => m = min xs.length ys.length - i ∧ i ≤ min xs.length ys.length ∧ P i zs σ H, ⟨min xs.length ys.length, by simp, Nat.zero_le _, h0⟩, ?_⟩
  rintro i m zs σ H ⟨rfl, hi, p⟩
  obtain ⟨q, q', ly⟩ := hl i zs σ H hi p
  by_cases hlt : i < min xs.length ys.length
  · refine .inr ⟨⟨xs, xs[i], ys, ys[i], q, List.getElem?_eq_getElem (by omega), q', List.getElem?_eq_getElem (by omega)⟩, by omega, fun x H' y => ?_⟩
    obtain ⟨pp, x', y', hn, y1, y2, rfl, rfl⟩ := y
    exact hs i zs x' y' σ _ pp hlt (y1 xs q) (y2 ys q') p hn
  · have e : i = min xs.length ys.length := by omega
    subst e
    exact .inl ⟨⟨xs, ys, q, q', by omega⟩, by omega, hd zs σ H p⟩
end
end L2

set_option linter.all false
set_option maxHeartbeats 4000000
namespace Pap
def IsP (p : List Nat) : Prop := p.Perm (List.range p.length)
def at' (p : List Nat) (i : Nat) : Nat := p.getD i 0
def bk (p : List Nat) : List Nat := (List.range p.length).map fun v => p.idxOf v
theorem at_lt {p : List Nat} {i : Nat} (h : i < p.length) : p[i]? = some (at' p i) := by
  unfold at'; rw [List.getD_eq_getElem?_getD, List.getElem?_eq_getElem h]; rfl
theorem at_eq {p : List Nat} {i : Nat} (h : i < p.length) : at' p i = p[i] := by
  unfold at'; rw [List.getD_eq_getElem?_getD, List.getElem?_eq_getElem h]; rfl
theorem IsP.lt {p : List Nat} (h : IsP p) {x : Nat} (hx : x ∈ p) : x < p.length := List.mem_range.mp (h.mem_iff.mp hx)
theorem IsP.mem {p : List Nat} (h : IsP p) {x : Nat} (hx : x < p.length) : x ∈ p := h.mem_iff.mpr (List.mem_range.mpr hx)
theorem IsP.nd {p : List Nat} (h : IsP p) : p.Nodup := h.nodup_iff.mpr List.nodup_range
theorem IsP.range (n : Nat) : IsP (List.range n) := by unfold IsP; rw [List.length_range]
theorem IsP.at_mem {p : List Nat} {i : Nat} (h : i < p.length) : at' p i ∈ p := by rw [at_eq h]; exact List.getElem_mem h
theorem IsP.at_lt {p : List Nat} (hp : IsP p) {i : Nat} (h : i < p.length) : at' p i < p.length := hp.lt (IsP.at_mem h)
theorem idx_lt {p : List Nat} (h : IsP p) {v : Nat} (hv : v < p.length) : p.idxOf v < p.length := List.idxOf_lt_length_iff.mpr (h.mem hv)
theorem at_idx {p : List Nat} (h : IsP p) {v : Nat} (hv : v < p.length) : at' p (p.idxOf v) = v := by rw [at_eq (idx_lt h hv)]; exact List.getElem_idxOf _
theorem idx_at {p : List Nat} (h : IsP p) {i : Nat} (hi : i < p.length) : p.idxOf (at' p i) = i := by rw [at_eq hi]; exact h.nd.idxOf_getElem i hi
theorem at_inj {p : List Nat} (h : IsP p) {i j : Nat} (hi : i < p.length) (hj : j < p.length) (e : at' p i = at' p j) : i = j := by rw [← idx_at h hi, ← idx_at h hj, e]
theorem bk_len (p : List Nat) : (bk p).length = p.length := by unfold bk; rw [List.length_map, List.length_range]
theorem bk_at {p : List Nat} {v : Nat} (hv : v < p.length) : at' (bk p) v = p.idxOf v := by
  unfold bk
  rw [at_eq (by rw [List.length_map, List.length_range]; exact hv), List.getElem_map, List.getElem_range]
theorem ext {p q : List Nat} (hl : p.length = q.length) (h : ∀ i, i < p.length → at' p i = at' q i) : p = q := by
  refine List.ext_getElem? fun i => ?_
  by_cases hi : i < p.length
  · rw [Pap.at_lt hi, Pap.at_lt (hl ▸ hi), h i hi]
  · rw [List.getElem?_eq_none (by omega), List.getElem?_eq_none (by omega)]
theorem IsP.ins {p : List Nat} (hp : IsP p) (i : Nat) : IsP (p.take i ++ p.length :: p.drop i) := by
  unfold IsP
  have hl : (p.take i ++ p.length :: p.drop i).length = p.length + 1 := by
    rw [List.length_append, List.length_cons, List.length_take, List.length_drop]; omega
  rw [hl, List.range_succ]
  refine List.perm_middle.trans ?_
  rw [List.take_append_drop]
  exact (List.Perm.cons _ hp).trans (List.perm_append_comm (l₁ := [p.length]))
/-- sorted, it is straight -/
theorem IsP.sorted {p : List Nat} (hp : IsP p) {ms : List Int} (h : ms.Perm (p.map fun x : Nat => (x : Int))) (hs : ms.Pairwise (· ≤ ·)) : ms = (List.range p.length).map fun x : Nat => (x : Int) := by
  refine List.Perm.eq_of_pairwise (le := (· ≤ ·)) (fun a b _ _ h1 h2 => Int.le_antisymm h1 h2) hs ?_ (h.trans (hp.map _))
  rw [List.pairwise_map]
  exact List.Pairwise.imp (fun h => by omega) List.pairwise_le_range
/-- the spots while the loop goes -/
def spots (p : List Nat) (i : Nat) : List Nat := (List.range p.length).map fun v => if v ∈ p.take i then p.idxOf v else v
theorem spots_len (p : List Nat) (i : Nat) : (spots p i).length = p.length := by unfold spots; rw [List.length_map, List.length_range]
theorem spots_zero (p : List Nat) : spots p 0 = List.range p.length := by
  unfold spots
  rw [List.take_zero]
  refine (List.map_congr_left (g := id) fun x _ => ?_).trans (List.map_id _)
  rw [if_neg (by simp)]; rfl
theorem spots_end {p : List Nat} (hp : IsP p) : spots p p.length = bk p := by
  unfold spots bk
  refine List.map_congr_left fun x hx => ?_
  rw [List.take_length, if_pos (hp.mem (List.mem_range.mp hx))]
theorem spots_step {p : List Nat} (hp : IsP p) {i : Nat} (hi : i < p.length) : (spots p i).set (at' p i) i = spots p (i + 1) := by
  refine ext (by rw [List.length_set, spots_len, spots_len]) fun v hv => ?_
  rw [List.length_set, spots_len] at hv
  have get : ∀ j, at' (spots p j) v = if v ∈ p.take j then p.idxOf v else v := fun j => by
    rw [at_eq (by rw [spots_len]; exact hv)]
    unfold spots
    rw [List.getElem_map, List.getElem_range]
  rw [get, at_eq (by rw [List.length_set, spots_len]; exact hv), List.getElem_set]
  have tk : p.take (i + 1) = p.take i ++ [at' p i] := by rw [List.take_succ, Pap.at_lt hi]; rfl
  split
  · rename_i e
    rw [tk, if_pos (by rw [← e]; simp), ← e, idx_at hp hi]
  · rename_i e
    have h1 := get i
    rw [at_eq (by rw [spots_len]; exact hv)] at h1
    rw [h1, tk]
    by_cases q : v ∈ p.take i
    · rw [if_pos q, if_pos (List.mem_append_left _ q)]
    · rw [if_neg q, if_neg]
      intro z
      rcases List.mem_append.mp z with z | z
      · exact q z
      · exact e (List.mem_singleton.mp z).symm
end Pap

set_option linter.all false
namespace L2
open PySem
theorem tVar_1 {v : V} {a0 : Option V} {σ : St} {H : Hp} {Q : VK} : tVar 1 (a0 :: some v :: σ) H Q = Q v H := by
  simp only [tVar_s, tVar_0]
theorem tVar_2 {v : V} {a0 a1 : Option V} {σ : St} {H : Hp} {Q : VK} : tVar 2 (a0 :: a1 :: some v :: σ) H Q = Q v H := by
  simp only [tVar_s, tVar_0]
theorem tVar_3 {v : V} {a0 a1 a2 : Option V} {σ : St} {H : Hp} {Q : VK} : tVar 3 (a0 :: a1 :: a2 :: some v :: σ) H Q = Q v H := by
  simp only [tVar_s, tVar_0]
theorem tVar_4 {v : V} {a0 a1 a2 a3 : Option V} {σ : St} {H : Hp} {Q : VK} : tVar 4 (a0 :: a1 :: a2 :: a3 :: some v :: σ) H Q = Q v H := by
  simp only [tVar_s, tVar_0]
theorem tVar_5 {v : V} {a0 a1 a2 a3 a4 : Option V} {σ : St} {H : Hp} {Q : VK} : tVar 5 (a0 :: a1 :: a2 :: a3 :: a4 :: some v :: σ) H Q = Q v H := by
  simp only [tVar_s, tVar_0]
theorem tVar_6 {v : V} {a0 a1 a2 a3 a4 a5 : Option V} {σ : St} {H : Hp} {Q : VK} : tVar 6 (a0 :: a1 :: a2 :: a3 :: a4 :: a5 :: some v :: σ) H Q = Q v H := by
  simp only [tVar_s, tVar_0]
theorem tVar_7 {v : V} {a0 a1 a2 a3 a4 a5 a6 : Option V} {σ : St} {H : Hp} {Q : VK} : tVar 7 (a0 :: a1 :: a2 :: a3 :: a4 :: a5 :: a6 :: some v :: σ) H Q = Q v H := by
  simp only [tVar_s, tVar_0]
theorem tVar_8 {v : V} {a0 a1 a2 a3 a4 a5 a6 a7 : Option V} {σ : St} {H : Hp} {Q : VK} : tVar 8 (a0 :: a1 :: a2 :: a3 :: a4 :: a5 :: a6 :: a7 :: some v :: σ) H Q = Q v H := by
  simp only [tVar_s, tVar_0]
theorem tVar_9 {v : V} {a0 a1 a2 a3 a4 a5 a6 a7 a8 : Option V} {σ : St} {H : Hp} {Q : VK} : tVar 9 (a0 :: a1 :: a2 :: a3 :: a4 :: a5 :: a6 :: a7 :: a8 :: some v :: σ) H Q = Q v H := by
  simp only [tVar_s, tVar_0]
theorem tVar_10 {v : V} {a0 a1 a2 a3 a4 a5 a6 a7 a8 a9 : Option V} {σ : St} {H : Hp} {Q : VK} : tVar 10 (a0 :: a1 :: a2 :: a3 :: a4 :: a5 :: a6 :: a7 :: a8 :: a9 :: some v :: σ) H Q = Q v H := by
  simp only [tVar_s, tVar_0]
theorem tVar_11 {v : V} {a0 a1 a2 a3 a4 a5 a6 a7 a8 a9 a10 : Option V} {σ : St} {H : Hp} {Q : VK} : tVar 11 (a0 :: a1 :: a2 :: a3 :: a4 :: a5 :: a6 :: a7 :: a8 :: a9 :: a10 :: some v :: σ) H Q = Q v H := by
  simp only [tVar_s, tVar_0]
theorem tVar_12 {v : V} {a0 a1 a2 a3 a4 a5 a6 a7 a8 a9 a10 a11 : Option V} {σ : St} {H : Hp} {Q : VK} : tVar 12 (a0 :: a1 :: a2 :: a3 :: a4 :: a5 :: a6 :: a7 :: a8 :: a9 :: a10 :: a11 :: some v :: σ) H Q = Q v H := by
  simp only [tVar_s, tVar_0]
theorem tVar_13 {v : V} {a0 a1 a2 a3 a4 a5 a6 a7 a8 a9 a10 a11 a12 : Option V} {σ : St} {H : Hp} {Q : VK} : tVar 13 (a0 :: a1 :: a2 :: a3 :: a4 :: a5 :: a6 :: a7 :: a8 :: a9 :: a10 :: a11 :: a12 :: some v :: σ) H Q = Q v H := by
  simp only [tVar_s, tVar_0]
theorem tVar_14 {v : V} {a0 a1 a2 a3 a4 a5 a6 a7 a8 a9 a10 a11 a12 a13 : Option V} {σ : St} {H : Hp} {Q : VK} : tVar 14 (a0 :: a1 :: a2 :: a3 :: a4 :: a5 :: a6 :: a7 :: a8 :: a9 :: a10 :: a11 :: a12 :: a13 :: some v :: σ) H Q = Q v H := by
  simp only [tVar_s, tVar_0]
theorem tVar_15 {v : V} {a0 a1 a2 a3 a4 a5 a6 a7 a8 a9 a10 a11 a12 a13 a14 : Option V} {σ : St} {H : Hp} {Q : VK} : tVar 15 (a0 :: a1 :: a2 :: a3 :: a4 :: a5 :: a6 :: a7 :: a8 :: a9 :: a10 :: a11 :: a12 :: a13 :: a14 :: some v :: σ) H Q = Q v H := by
  simp only [tVar_s, tVar_0]
theorem tVar_16 {v : V} {a0 a1 a2 a3 a4 a5 a6 a7 a8 a9 a10 a11 a12 a13 a14 a15 : Option V} {σ : St} {H : Hp} {Q : VK} : tVar 16 (a0 :: a1 :: a2 :: a3 :: a4 :: a5 :: a6 :: a7 :: a8 :: a9 :: a10 :: a11 :: a12 :: a13 :: a14 :: a15 :: some v :: σ) H Q = Q v H := by
  simp only [tVar_s, tVar_0]
theorem tVar_17 {v : V} {a0 a1 a2 a3 a4 a5 a6 a7 a8 a9 a10 a11 a12 a13 a14 a15 a16 : Option V} {σ : St} {H : Hp} {Q : VK} : tVar 17 (a0 :: a1 :: a2 :: a3 :: a4 :: a5 :: a6 :: a7 :: a8 :: a9 :: a10 :: a11 :: a12 :: a13 :: a14 :: a15 :: a16 :: some v :: σ) H Q = Q v H := by
  simp only [tVar_s, tVar_0]
theorem tVar_18 {v : V} {a0 a1 a2 a3 a4 a5 a6 a7 a8 a9 a10 a11 a12 a13 a14 a15 a16 a17 : Option V} {σ : St} {H : Hp} {Q : VK} : tVar 18 (a0 :: a1 :: a2 :: a3 :: a4 :: a5 :: a6 :: a7 :: a8 :: a9 :: a10 :: a11 :: a12 :: a13 :: a14 :: a15 :: a16 :: a17 :: some v :: σ) H Q = Q v H := by
  simp only [tVar_s, tVar_0]
theorem tVar_19 {v : V} {a0 a1 a2 a3 a4 a5 a6 a7 a8 a9 a10 a11 a12 a13 a14 a15 a16 a17 a18 : Option V} {σ : St} {H : Hp} {Q : VK} : tVar 19 (a0 :: a1 :: a2 :: a3 :: a4 :: a5 :: a6 :: a7 :: a8 :: a9 :: a10 :: a11 :: a12 :: a13 :: a14 :: a15 :: a16 :: a17 :: a18 :: some v :: σ) H Q = Q v H := by
  simp only [tVar_s, tVar_0]
theorem tVar_20 {v : V} {a0 a1 a2 a3 a4 a5 a6 a7 a8 a9 a10 a11 a12 a13 a14 a15 a16 a17 a18 a19 : Option V} {σ : St} {H : Hp} {Q : VK} : tVar 20 (a0 :: a1 :: a2 :: a3 :: a4 :: a5 :: a6 :: a7 :: a8 :: a9 :: a10 :: a11 :: a12 :: a13 :: a14 :: a15 :: a16 :: a17 :: a18 :: a19 :: some v :: σ) H Q = Q v H := by
  simp only [tVar_s, tVar_0]
theorem tVar_21 {v : V} {a0 a1 a2 a3 a4 a5 a6 a7 a8 a9 a10 a11 a12 a13 a14 a15 a16 a17 a18 a19 a20 : Option V} {σ : St} {H : Hp} {Q : VK} : tVar 21 (a0 :: a1 :: a2 :: a3 :: a4 :: a5 :: a6 :: a7 :: a8 :: a9 :: a10 :: a11 :: a12 :: a13 :: a14 :: a15 :: a16 :: a17 :: a18 :: a19 :: a20 :: some v :: σ) H Q = Q v H := by
  simp only [tVar_s, tVar_0]
theorem tVar_22 {v : V} {a0 a1 a2 a3 a4 a5 a6 a7 a8 a9 a10 a11 a12 a13 a14 a15 a16 a17 a18 a19 a20 a21 : Option V} {σ : St} {H : Hp} {Q : VK} : tVar 22 (a0 :: a1 :: a2 :: a3 :: a4 :: a5 :: a6 :: a7 :: a8 :: a9 :: a10 :: a11 :: a12 :: a13 :: a14 :: a15 :: a16 :: a17 :: a18 :: a19 :: a20 :: a21 :: some v :: σ) H Q = Q v H := by
  simp only [tVar_s, tVar_0]
theorem tVar_23 {v : V} {a0 a1 a2 a3 a4 a5 a6 a7 a8 a9 a10 a11 a12 a13 a14 a15 a16 a17 a18 a19 a20 a21 a22 : Option V} {σ : St} {H : Hp} {Q : VK} : tVar 23 (a0 :: a1 :: a2 :: a3 :: a4 :: a5 :: a6 :: a7 :: a8 :: a9 :: a10 :: a11 :: a12 :: a13 :: a14 :: a15 :: a16 :: a17 :: a18 :: a19 :: a20 :: a21 :: a22 :: some v :: σ) H Q = Q v H := by
  simp only [tVar_s, tVar_0]
theorem tVar_24 {v : V} {a0 a1 a2 a3 a4 a5 a6 a7 a8 a9 a10 a11 a12 a13 a14 a15 a16 a17 a18 a19 a20 a21 a22 a23 : Option V} {σ : St} {H : Hp} {Q : VK} : tVar 24 (a0 :: a1 :: a2 :: a3 :: a4 :: a5 :: a6 :: a7 :: a8 :: a9 :: a10 :: a11 :: a12 :: a13 :: a14 :: a15 :: a16 :: a17 :: a18 :: a19 :: a20 :: a21 :: a22 :: a23 :: some v :: σ) H Q = Q v H := by
  simp only [tVar_s, tVar_0]
theorem tVar_25 {v : V} {a0 a1 a2 a3 a4 a5 a6 a7 a8 a9 a10 a11 a12 a13 a14 a15 a16 a17 a18 a19 a20 a21 a22 a23 a24 : Option V} {σ : St} {H : Hp} {Q : VK} : tVar 25 (a0 :: a1 :: a2 :: a3 :: a4 :: a5 :: a6 :: a7 :: a8 :: a9 :: a10 :: a11 :: a12 :: a13 :: a14 :: a15 :: a16 :: a17 :: a18 :: a19 :: a20 :: a21 :: a22 :: a23 :: a24 :: some v :: σ) H Q = Q v H := by
  simp only [tVar_s, tVar_0]
theorem tVar_26 {v : V} {a0 a1 a2 a3 a4 a5 a6 a7 a8 a9 a10 a11 a12 a13 a14 a15 a16 a17 a18 a19 a20 a21 a22 a23 a24 a25 : Option V} {σ : St} {H : Hp} {Q : VK} : tVar 26 (a0 :: a1 :: a2 :: a3 :: a4 :: a5 :: a6 :: a7 :: a8 :: a9 :: a10 :: a11 :: a12 :: a13 :: a14 :: a15 :: a16 :: a17 :: a18 :: a19 :: a20 :: a21 :: a22 :: a23 :: a24 :: a25 :: some v :: σ) H Q = Q v H := by
  simp only [tVar_s, tVar_0]
theorem tVar_27 {v : V} {a0 a1 a2 a3 a4 a5 a6 a7 a8 a9 a10 a11 a12 a13 a14 a15 a16 a17 a18 a19 a20 a21 a22 a23 a24 a25 a26 : Option V} {σ : St} {H : Hp} {Q : VK} : tVar 27 (a0 :: a1 :: a2 :: a3 :: a4 :: a5 :: a6 :: a7 :: a8 :: a9 :: a10 :: a11 :: a12 :: a13 :: a14 :: a15 :: a16 :: a17 :: a18 :: a19 :: a20 :: a21 :: a22 :: a23 :: a24 :: a25 :: a26 :: some v :: σ) H Q = Q v H := by
  simp only [tVar_s, tVar_0]
theorem tVar_28 {v : V} {a0 a1 a2 a3 a4 a5 a6 a7 a8 a9 a10 a11 a12 a13 a14 a15 a16 a17 a18 a19 a20 a21 a22 a23 a24 a25 a26 a27 : Option V} {σ : St} {H : Hp} {Q : VK} : tVar 28 (a0 :: a1 :: a2 :: a3 :: a4 :: a5 :: a6 :: a7 :: a8 :: a9 :: a10 :: a11 :: a12 :: a13 :: a14 :: a15 :: a16 :: a17 :: a18 :: a19 :: a20 :: a21 :: a22 :: a23 :: a24 :: a25 :: a26 :: a27 :: some v :: σ) H Q = Q v H := by
  simp only [tVar_s, tVar_0]
theorem tVar_29 {v : V} {a0 a1 a2 a3 a4 a5 a6 a7 a8 a9 a10 a11 a12 a13 a14 a15 a16 a17 a18 a19 a20 a21 a22 a23 a24 a25 a26 a27 a28 : Option V} {σ : St} {H : Hp} {Q : VK} : tVar 29 (a0 :: a1 :: a2 :: a3 :: a4 :: a5 :: a6 :: a7 :: a8 :: a9 :: a10 :: a11 :: a12 :: a13 :: a14 :: a15 :: a16 :: a17 :: a18 :: a19 :: a20 :: a21 :: a22 :: a23 :: a24 :: a25 :: a26 :: a27 :: a28 :: some v :: σ) H Q = Q v H := by
  simp only [tVar_s, tVar_0]
theorem tVar_30 {v : V} {a0 a1 a2 a3 a4 a5 a6 a7 a8 a9 a10 a11 a12 a13 a14 a15 a16 a17 a18 a19 a20 a21 a22 a23 a24 a25 a26 a27 a28 a29 : Option V} {σ : St} {H : Hp} {Q : VK} : tVar 30 (a0 :: a1 :: a2 :: a3 :: a4 :: a5 :: a6 :: a7 :: a8 :: a9 :: a10 :: a11 :: a12 :: a13 :: a14 :: a15 :: a16 :: a17 :: a18 :: a19 :: a20 :: a21 :: a22 :: a23 :: a24 :: a25 :: a26 :: a27 :: a28 :: a29 :: some v :: σ) H Q = Q v H := by
  simp only [tVar_s, tVar_0]
end L2
namespace L2
open PySem
/-- a place where the reading of the program stops until it is asked for -/
def Cut (t : TS) : TS := t
theorem pss_cut {X : Cx} {rest : List Stmt} {u : TS} (h : PSs X rest u) : PSs X rest (Cut u) := h
theorem cut_of {u : TS} {D : Ends} {σ : St} {H : Hp} (h : u D σ H) : Cut u D σ H := h
theorem us0 {l : List Value} (h : l.length = 0) : l = [] := List.length_eq_zero_iff.mp h
theorem us1 {l : List Value} (h : l.length = 1) : ∃ a0, l = [a0] := by
  cases l with
  | nil => cases h
  | cons a l =>
    obtain rfl := us0 (l := l) (Nat.succ.inj h)
    exact ⟨a, rfl⟩
theorem us2 {l : List Value} (h : l.length = 2) : ∃ a0 a1, l = [a0, a1] := by
  cases l with
  | nil => cases h
  | cons a l =>
    obtain ⟨b0, rfl⟩ := us1 (l := l) (Nat.succ.inj h)
    exact ⟨a, b0, rfl⟩
theorem us3 {l : List Value} (h : l.length = 3) : ∃ a0 a1 a2, l = [a0, a1, a2] := by
  cases l with
  | nil => cases h
  | cons a l =>
    obtain ⟨b0, b1, rfl⟩ := us2 (l := l) (Nat.succ.inj h)
    exact ⟨a, b0, b1, rfl⟩
theorem us4 {l : List Value} (h : l.length = 4) : ∃ a0 a1 a2 a3, l = [a0, a1, a2, a3] := by
  cases l with
  | nil => cases h
  | cons a l =>
    obtain ⟨b0, b1, b2, rfl⟩ := us3 (l := l) (Nat.succ.inj h)
    exact ⟨a, b0, b1, b2, rfl⟩
end L2

set_option Elab.async false
set_option linter.all false
set_option maxRecDepth 100000
set_option maxHeartbeats 4000000
namespace Law
open PySem L2
local macro_rules | `(tactic| walk_at "rd") => `(tactic| ((try dsimp only [cx_K, tDNewT, tDNotIn, tDIn, sDPut, tChain, tForZ_eq, tRevL, tCompR2_eq, sFldAug_eq, cx_cloK, tCallV, startC, tForE_eq, tCompE_eq, tMaxD, tAug_eq, ipI_int, gSub, gCons_eq, gNil_eq, tSeq, tIfS, tTest, tB, tOr, tAnd, tNot, tOp, tUn, tC, tVar_0, tCompZ_eq, tBreak, tPar, tVar_1, tVar_2, tVar_3, tVar_4, tVar_5, tVar_6, tVar_7, tVar_8, tVar_9, tVar_10, tVar_11, tVar_12, tVar_13, tVar_14, tVar_15, tVar_16, tVar_17, tVar_18, tVar_19, tVar_20, tVar_21, tVar_22, tVar_23, tVar_24, tVar_25, tVar_26, tVar_27, tVar_28, tVar_29, tVar_30, rI0_int, rI_int, rU_int, rEq_int, rNe_int, rEq_bl, rNe_bl, rEq_str, rNe_str, ex_bl, ex_int, tAsg, gName, tRet, tRetN, tDrop, tNext, tNever, tAndV, tOrV, tNotV, tIf, List.set_cons_zero, List.set_cons_succ, tCall, tMeth, tCons, tNil, List.cons_append, List.nil_append, List.append_nil, tCB, tFld_eq, sFld_eq, tForL_eq, tForR1_eq, tForR2_eq, tCompL_eq, tCompR1_eq, tYes, tBM, tBM0, tLst, tTup, tMake, true_and, tSl, tPart, tNoPart, decide_eq_true_eq, Bool.not_eq_true', decide_eq_false_iff_not, L2.start, List.map_cons, List.map_nil, List.length_cons, List.length_nil, Nat.reduceAdd, Nat.reduceSub, Nat.zero_add, Nat.sub_self, List.replicate_zero, List.replicate_succ, if_true, if_false, Bool.false_eq_true, Bool.true_eq_false, Bool.not_true, Bool.not_false]); (try simp only [cx_K, tDNewT, tDNotIn, tDIn, sDPut, tChain, tForZ_eq, tRevL, tCompR2_eq, sFldAug_eq, cx_cloK, tCallV, startC, tForE_eq, tCompE_eq, tMaxD, tAug_eq, ipI_int, gSub, gCons_eq, gNil_eq, tSeq, tIfS, tTest, tB, tOr, tAnd, tNot, tOp, tUn, tC, tVar_0, tCompZ_eq, tBreak, tPar, tVar_1, tVar_2, tVar_3, tVar_4, tVar_5, tVar_6, tVar_7, tVar_8, tVar_9, tVar_10, tVar_11, tVar_12, tVar_13, tVar_14, tVar_15, tVar_16, tVar_17, tVar_18, tVar_19, tVar_20, tVar_21, tVar_22, tVar_23, tVar_24, tVar_25, tVar_26, tVar_27, tVar_28, tVar_29, tVar_30, rI0_int, rI_int, rU_int, rEq_int, rNe_int, rEq_bl, rNe_bl, rEq_str, rNe_str, ex_bl, ex_int, tAsg, gName, tRet, tRetN, tDrop, tNext, tNever, tAndV, tOrV, tNotV, tIf, List.set_cons_zero, List.set_cons_succ, tCall, tMeth, tCons, tNil, List.cons_append, List.nil_append, List.append_nil, tCB, tFld_eq, sFld_eq, tForL_eq, tForR1_eq, tForR2_eq, tCompL_eq, tCompR1_eq, tYes, tBM, tBM0, tLst, tTup, tMake, true_and, tSl, tPart, tNoPart, decide_eq_true_eq, Bool.not_eq_true', decide_eq_false_iff_not, L2.start, List.map_cons, List.map_nil, List.length_cons, List.length_nil, Nat.reduceAdd, Nat.reduceSub, Nat.zero_add, Nat.sub_self, List.replicate_zero, List.replicate_succ, if_true, if_false, Bool.false_eq_true, Bool.true_eq_false, Bool.not_true, Bool.not_false])))
local macro_rules | `(tactic| walk_at "up") => `(tactic| first | assumption | (refine Same.get (by assumption) ?_; walk_at "up"))
local macro_rules | `(tactic| walk_at "lk") => `(tactic| ((repeat (first | rw [lkc, if_pos rfl] | rw [lkc, if_neg (by decide +kernel)])); first | done | rfl))
def top (i : Nat) : Stmt := PySem.Challenge.pw_sorthall_k24_whole_answers_show.main.body.getD i (.Pass ⟨0, 0, 0, 0⟩)
abbrev s_straight : Stmt := top 4
abbrev s_is_number : Stmt := top 5
abbrev s_is_paper : Stmt := top 6
abbrev s_check_paper : Stmt := top 7
abbrev s_back : Stmt := top 8
abbrev s_agrees : Stmt := top 9
abbrev s_shows : Stmt := top 10
abbrev s_cell_at : Stmt := top 12
abbrev s_paper_by : Stmt := top 13
abbrev s_reserve : Stmt := top 14
abbrev s_paper_of : Stmt := top 15
abbrev s_answers_of : Stmt := top 16
abbrev s_turn : Stmt := top 17
abbrev s_answer : Stmt := top 18
abbrev s_l_agrees : Stmt := top 19
abbrev s_answers : Stmt := top 20
abbrev s_alone : Stmt := top 21
abbrev s_says : Stmt := top 22
abbrev s_law : Stmt := top 23
theorem sc_straight : FnScope ["many"] ["many"] (defScope s_straight) := ⟨rfl, rfl, rfl, by decide +kernel, rfl, by decide +kernel, by decide +kernel⟩
theorem sc_is_number : FnScope ["some"] ["some"] (defScope s_is_number) := ⟨rfl, rfl, rfl, by decide +kernel, rfl, by decide +kernel, by decide +kernel⟩
theorem sc_is_paper : FnScope ["some"] ["some"] (defScope s_is_paper) := ⟨rfl, rfl, rfl, by decide +kernel, rfl, by decide +kernel, by decide +kernel⟩
theorem sc_check_paper : FnScope ["some", "many"] ["some", "many"] (defScope s_check_paper) := ⟨rfl, rfl, rfl, by decide +kernel, rfl, by decide +kernel, by decide +kernel⟩
theorem sc_back : FnScope ["paper", "spots", "spot", "place"] ["paper"] (defScope s_back) := ⟨rfl, rfl, rfl, by decide +kernel, rfl, by decide +kernel, by decide +kernel⟩
theorem sc_agrees : FnScope ["paper", "answers", "spots"] ["paper", "answers"] (defScope s_agrees) := ⟨rfl, rfl, rfl, by decide +kernel, rfl, by decide +kernel, by decide +kernel⟩
theorem sc_shows : FnScope ["paper", "answers", "asked"] ["paper", "answers"] (defScope s_shows) := ⟨rfl, rfl, rfl, by decide +kernel, rfl, by decide +kernel, by decide +kernel⟩
theorem sc_cell_at : FnScope ["_law_script", "_law_k"] ["_law_script", "_law_k"] (defScope s_cell_at) := ⟨rfl, rfl, rfl, by decide +kernel, rfl, by decide +kernel, by decide +kernel⟩
theorem sc_paper_by : FnScope ["_law_cell", "_law_many", "_law_paper", "_law_number", "_law_k"] ["_law_cell", "_law_many"] (defScope s_paper_by) := ⟨rfl, rfl, rfl, by decide +kernel, rfl, by decide +kernel, by decide +kernel⟩
theorem sc_reserve : FnScope ["_law_cell", "_law_k", "_law_number"] ["_law_cell", "_law_k"] (defScope s_reserve) := ⟨rfl, rfl, rfl, by decide +kernel, rfl, by decide +kernel, by decide +kernel⟩
theorem sc_paper_of : FnScope ["_law_cell", "_law_many", "_law_paper", "_law_first", "_law_k"] ["_law_cell", "_law_many"] (defScope s_paper_of) := ⟨rfl, rfl, rfl, by decide +kernel, rfl, by decide +kernel, by decide +kernel⟩
theorem sc_answers_of : FnScope ["_law_cell", "_law_many", "_law_size", "_law_answers_here", "_law_first", "_law_k", "_law_one", "_law_other"] ["_law_cell", "_law_many", "_law_size"] (defScope s_answers_of) := ⟨rfl, rfl, rfl, by decide +kernel, rfl, by decide +kernel, by decide +kernel⟩
theorem sc_turn : FnScope ["_law_paper", "_law_turn_here", "_law_k"] ["_law_paper"] (defScope s_turn) := ⟨rfl, rfl, rfl, by decide +kernel, rfl, by decide +kernel, by decide +kernel⟩
theorem sc_answer : FnScope ["_law_turn_here", "_law_one", "_law_other", "_law_later", "_law_earlier"] ["_law_turn_here", "_law_one", "_law_other"] (defScope s_answer) := ⟨rfl, rfl, rfl, by decide +kernel, rfl, by decide +kernel, by decide +kernel⟩
theorem sc_l_agrees : FnScope ["_law_paper", "_law_answers_here", "_law_turn_here", "_law_later", "_law_earlier", "_law_said"] ["_law_paper", "_law_answers_here"] (defScope s_l_agrees) := ⟨rfl, rfl, rfl, by decide +kernel, rfl, by decide +kernel, by decide +kernel⟩
theorem sc_answers : FnScope ["_law_paper", "_law_cells", "_law_mode", "_law_out", "_law_many", "_law_turn_here", "_law_answers_here", "_law_cell", "_law_answer_here", "_law_k", "_law_at", "_law_one"] ["_law_paper", "_law_cells", "_law_mode", "_law_out"] (defScope s_answers) := ⟨rfl, rfl, rfl, by decide +kernel, rfl, by decide +kernel, by decide +kernel⟩
theorem sc_alone : FnScope ["_law_paper", "_law_answers_here", "_law_k"] ["_law_paper", "_law_answers_here"] (defScope s_alone) := ⟨rfl, rfl, rfl, by decide +kernel, rfl, by decide +kernel, by decide +kernel⟩
theorem sc_says : FnScope ["_law_found", "_law_due"] ["_law_found", "_law_due"] (defScope s_says) := ⟨rfl, rfl, rfl, by decide +kernel, rfl, by decide +kernel, by decide +kernel⟩
theorem sc_law : FnScope ["_law_script", "_law_many", "_law_paper", "_law_answers_here", "_law_handed", "_law_told", "_law_due", "_law_alone_here", "_law_other"] ["_law_script"] (defScope s_law) := ⟨rfl, rfl, rfl, by decide +kernel, rfl, by decide +kernel, by decide +kernel⟩
structure Bt (K : PySem.W.Frag) (mg : Str → Option Value) : Prop where
  b_len : mg "len" = none
  b_range : mg "range" = none
  b_list : mg "list" = none
  b_isinstance : mg "isinstance" = none
  b_bool : mg "bool" = none
  b_int : mg "int" = none
  b_max : mg "max" = none
  b_min : mg "min" = none
  b_all : mg "all" = none
  b_sorted : mg "sorted" = none
  b_reversed : mg "reversed" = none
  b_enumerate : mg "enumerate" = none
  b_zip : mg "zip" = none
  b_dict : mg "dict" = none
  b_ValueError : mg "ValueError" = none
  kit_int_bool : PySem.W.kitOne K (.type "int") (.type "bool") = some false
def spLaw (K : PySem.W.Frag) : Sp := fun vs H Q _ => ∃ (a : Addr) (ns : List Int), vs = [.ref a] ∧ SqL K H a (ns.map V.int) ∧ ns.length ≤ 63 ∧ ∀ H', Q (.bl true) H'
def cellOf (ns : List Int) (k : Int) : Int := if k < (ns.length : Int) then (ns[k.toNat]?).getD 0 else 0
def spCell (K : PySem.W.Frag) : Sp := fun vs H Q _ => ∃ (a : Addr) (ns : List Int) (k : Int), vs = [.ref a, .int k] ∧ SqL K H a (ns.map V.int) ∧ 0 ≤ k ∧ Q (.int (cellOf ns k)) H
theorem smallL {n : Nat} (h : n ≤ 90000) : n < sizeLine := Nat.lt_of_le_of_lt h (by decide)
abbrev NL (gs : List Nat) : List V := (gs.map fun g : Nat => (g : Int)).map V.int
theorem NL_len (gs : List Nat) : (NL gs).length = gs.length := by simp
theorem NL_at {p : List Nat} {i : Nat} (h : i < p.length) : (NL p)[i]? = some (.int (Pap.at' p i)) := by
  rw [List.getElem?_map, List.getElem?_map, Pap.at_lt h]; rfl
theorem NL_get {p : List Nat} {i : Nat} {v : V} (h : (NL p)[i]? = some v) : i < p.length ∧ v = .int (Pap.at' p i) := by
  have hi : i < p.length := by have := (List.getElem?_eq_some_iff.mp h).1; rwa [NL_len] at this
  rw [NL_at hi] at h
  exact ⟨hi, (Option.some.inj h).symm⟩
theorem NL_ix {p : List Nat} {i : Nat} {k : Int} (h : i < p.length) (e : k = i) : atI (NL p) k = some (.int (Pap.at' p i)) := by
  subst e
  exact atI_of (by omega) (by rw [Int.toNat_natCast]; exact NL_at h)
theorem rints_range (n : Nat) : (rints 0 n).map V.int = NL (List.range n) := by
  unfold rints
  simp
def spStraight : Sp := fun vs H Q _ => ∃ n : Nat, vs = [.int n] ∧ n ≤ 1000 ∧ ∀ l H', Same H H' → H l = none → H' l = some (.lst (NL (List.range n))) → Q (.ref l) H'
def spIsNumber : Sp := fun vs H Q _ => ∃ i : Int, vs = [.int i] ∧ Q (.bl true) H
def spIsPaper : Sp := fun vs H Q _ => ∃ (a : Addr) (p : List Nat), vs = [.ref a] ∧ H a = some (.lst (NL p)) ∧ Pap.IsP p ∧ p.length ≤ 200 ∧ ∀ H', Same H H' → Q (.bl true) H'
def spCheckPaper : Sp := fun vs H Q _ => ∃ (a : Addr) (p : List Nat), vs = [.ref a, .int p.length] ∧ H a = some (.lst (NL p)) ∧ Pap.IsP p ∧ p.length ≤ 200 ∧ ∀ H', Same H H' → Q .non H'
def spBack : Sp := fun vs H Q _ => ∃ (a : Addr) (p : List Nat), vs = [.ref a] ∧ H a = some (.lst (NL p)) ∧ Pap.IsP p ∧ p.length ≤ 200 ∧ ∀ l H', Same H H' → H l = none → H' l = some (.lst (NL (Pap.bk p))) → Q (.ref l) H'
theorem all_true (n : Nat) : (List.replicate n true).all id = true := by
  induction n with
  | zero => rfl
  | succ n ih => rw [List.replicate_succ, List.all_cons, ih]; rfl
theorem eq_rep {ys : List V} {n : Nat} {v : V} (hl : ys.length = n) (h : ∀ (j : Nat) y, ys[j]? = some y → y = v) : ys = List.replicate n v := by
  subst hl
  refine List.ext_getElem? fun j => ?_
  by_cases hj : j < ys.length
  · rw [List.getElem?_eq_getElem hj, List.getElem?_replicate, if_pos hj, h j _ (List.getElem?_eq_getElem hj)]
  · rw [List.getElem?_eq_none (by omega), List.getElem?_eq_none (by rw [List.length_replicate]; omega)]
theorem cutV_tail (xs : List V) : cutV xs (some 1) none = xs.drop 1 := by
  unfold cutV
  rw [HT.sIx_none, show (some (1 : Int)) = some ((1 : Nat) : Int) from rfl, HT.sIx_nat]
  cases xs with
  | nil => rfl
  | cons x r =>
    rw [show min 1 (x :: r).length = 1 by rw [List.length_cons]; omega]
    exact List.take_of_length_le (by rw [List.length_drop]; exact Nat.le_refl _)
theorem cutV_to {xs : List V} {n : Nat} (h : n ≤ xs.length) : cutV xs none (some (n : Int)) = xs.take n := by
  unfold cutV
  rw [HT.sIx_none, HT.sIx_nat, Nat.min_eq_left h, Nat.sub_zero]
  rfl
theorem cutV_from {xs : List V} {n : Nat} (h : n ≤ xs.length) : cutV xs (some (n : Int)) none = xs.drop n := by
  unfold cutV
  rw [HT.sIx_none, HT.sIx_nat, Nat.min_eq_left h]
  exact List.take_of_length_le (by rw [List.length_drop]; exact Nat.le_refl _)
/-- answers that are told: later place, earlier place, what was said -/
structure Ans (H : Hp) (cs : List (Nat × Nat × Bool)) (ws : List V) : Prop where
  len : ws.length = cs.length
  get : ∀ (j p q : Nat) (b : Bool), cs[j]? = some (p, q, b) → ∃ t, ws[j]? = some (V.ref t) ∧ H t = some (.tup [.int p, .int q, .bl b])
theorem Ans.keep {H H' : Hp} {cs : List (Nat × Nat × Bool)} {ws : List V} (h : Ans H cs ws) (e : Same H H') : Ans H' cs ws :=
  ⟨h.len, fun j p q b hj => let ⟨t, a, c⟩ := h.get j p q b hj; ⟨t, a, e _ _ c⟩⟩
theorem compL_big {K : PySem.W.Frag} {a : Addr} {xs : List V} {g : TG} {tt : TT} {te : TE} {Q : VK} {σ0 : St} {H : Hp} (h : SqL K H a xs) (hz : xs.length ≤ 90000) (P : Nat → List V → St → Hp → Prop) (h0 : P 0 [] σ0 H) (hl : ∀ i ys σ H, i ≤ xs.length → P i ys σ H → SqL K H a xs ∧ ys.length ≤ i)
    (hs : ∀ i ys x σ H, i < xs.length → xs[i]? = some x → P i ys σ H → g x σ H fun σ2 H2 => tt σ2 H2 fun b H3 => if b = true then te σ2 H3 fun y H4 => Nxt P xs.length i (ys ++ [y]) σ2 H4 else Nxt P xs.length i ys σ2 H3)
    (hd : ∀ ys σ H, P xs.length ys σ H → ∀ p, H p = none → Q (.ref p) (upd H p (.lst ys))) : compL K g tt te σ0 Q (.ref a) H := ⟨a, rfl, ⟨xs, h⟩, comp_list P h0 hl (Nat.le_of_lt (smallL hz)) hs hd⟩
def agB (p : List Nat) (cs : List (Nat × Nat × Bool)) : Bool := cs.all fun c => decide (Pap.at' (Pap.bk p) c.1 < Pap.at' (Pap.bk p) c.2.1) == c.2.2
abbrev kP2 (p q : Nat) : List Key := [Sum.inl (p : Int), Sum.inl (q : Int)]
def askB (cs : List (Nat × Nat × Bool)) (p q : Nat) : Bool := cs.any fun c => decide (kP2 c.1 c.2.1 = kP2 (max p q) (min p q))
def shB (p : List Nat) (cs : List (Nat × Nat × Bool)) : Bool := ((List.range (p.length - 1)).map fun i => askB cs (Pap.at' p i) (Pap.at' p (i + 1))).all id
theorem valV_putAll (k : List Key) : ∀ (ps : List PQ) (m : List (List Key × V)), (valV (putAll m ps) k).isSome = ((valV m k).isSome || ps.any fun q => decide (q.2.2.1 = k))
  | [], m => by rw [show putAll m [] = m from rfl]; simp
  | q :: r, m => by
    rw [show putAll m (q :: r) = putAll (putK m q.2.2.1 q.2.2.2) r from rfl, valV_putAll k r, valV_put, List.any_cons]
    by_cases e : q.2.2.1 = k
    · rw [if_pos e.symm, decide_eq_true e]; simp
    · rw [if_neg (fun z => e z.symm), decide_eq_false e]; simp
theorem said_b (a b : Nat) (c : Bool) : decide (decide ((a : Int) < b) = c) = (decide (a < b) == c) := by
  have e : decide ((a : Int) < b) = decide (a < b) := by rw [decide_eq_decide]; omega
  rw [e]
  cases decide (a < b) <;> cases c <;> rfl
def spAgrees : Sp := fun vs H Q _ => ∃ (a w : Addr) (p : List Nat) (cs : List (Nat × Nat × Bool)) (ws : List V), vs = [.ref a, .ref w] ∧ H a = some (.lst (NL p)) ∧ Pap.IsP p ∧ p.length ≤ 200 ∧ H w = some (.lst ws) ∧ Ans H cs ws ∧ (∀ c ∈ cs, c.1 < p.length ∧ c.2.1 < p.length) ∧ cs.length ≤ 20000 ∧ ∀ H', Same H H' → Q (.bl (agB p cs)) H'
def spShows : Sp := fun vs H Q _ => ∃ (a w : Addr) (p : List Nat) (cs : List (Nat × Nat × Bool)) (ws : List V), vs = [.ref a, .ref w] ∧ H a = some (.lst (NL p)) ∧ Pap.IsP p ∧ p.length ≤ 200 ∧ H w = some (.lst ws) ∧ Ans H cs ws ∧ (∀ c ∈ cs, c.1 < p.length ∧ c.2.1 < p.length) ∧ cs.length ≤ 20000 ∧ ∀ H', Same H H' → Q (.bl (agB p cs && shB p cs)) H'
theorem take_snoc {α : Type} {l : List α} {i : Nat} {x : α} (h : l[i]? = some x) : l.take (i + 1) = l.take i ++ [x] := by
  rw [List.take_add_one, h]; rfl
theorem insV_NL {p : List Nat} {y : Int} {k : Nat} (h0 : 0 ≤ y) (h1 : y ≤ p.length) : insV (NL p) y (.int (k : Int)) = NL (p.take y.toNat ++ k :: p.drop y.toNat) := by
  unfold insV NL
  dsimp only
  rw [if_neg (by omega), List.length_map, List.length_map, Nat.min_eq_left (by omega), List.map_append, List.map_append, List.map_cons, List.map_cons, List.map_take, List.map_take, List.map_drop, List.map_drop]
def spPaper24 : Sp := fun vs H Q _ => ∃ (c : Int) (n : Nat), vs = [.int c, .int n] ∧ n ≤ 200 ∧ ∀ l H' p, Same H H' → H l = none → H' l = some (.lst (NL p)) → Pap.IsP p → p.length = n → Q (.ref l) H'
def spReserve : Sp := fun vs H Q _ => ∃ (c k : Int), vs = [.int c, .int k] ∧ 0 ≤ k ∧ k ≤ 1000 ∧ ∀ z, 1 ≤ z → z < 4000000000 → Q (.int z) H
theorem onceX {α : Type} {P : TS} {D : Ends} (σ : α → St) (X : α → Hp) (p : α → Prop) {G : Prop} (h : (∀ x, p x → Cut P D (σ x) (X x)) → G) (t : ∀ x, p x → Cut P D (σ x) (X x)) : G := h t
theorem onceS {α : Type} {P : TS} {D : Ends} {H : Hp} (σ : α → St) (p : α → Prop) {G : Prop} (h : (∀ x, p x → Cut P D (σ x) H) → G) (t : ∀ x, p x → Cut P D (σ x) H) : G := h t
/-- answers of unlike places below n, the later one first -/
def Good (n : Nat) (cs : List (Nat × Nat × Bool)) : Prop := ∀ c ∈ cs, c.2.1 < c.1 ∧ c.1 < n
theorem Ans.snoc {H : Hp} {cs : List (Nat × Nat × Bool)} {ws : List V} {p q : Nat} {b : Bool} {t : Addr} (h : Ans H cs ws) (ht : H t = some (.tup [.int p, .int q, .bl b])) : Ans H (cs ++ [(p, q, b)]) (ws ++ [.ref t]) := by
  refine ⟨by rw [List.length_append, List.length_append, h.len]; rfl, fun j p' q' b' hj => ?_⟩
  by_cases hl : j < cs.length
  · rw [List.getElem?_append_left hl] at hj
    rw [List.getElem?_append_left (by rw [h.len]; exact hl)]
    exact h.get j p' q' b' hj
  · rw [List.getElem?_append_right (by omega)] at hj
    rw [List.getElem?_append_right (by rw [h.len]; omega), h.len]
    cases hk : j - cs.length with
    | zero => rw [hk] at hj; cases hj; exact ⟨t, rfl, ht⟩
    | succ m => rw [hk] at hj; simp at hj
theorem Ans.upd {H : Hp} {cs : List (Nat × Nat × Bool)} {ws us us' : List V} {l : Addr} (h : Ans H cs ws) (hl : H l = some (.lst us)) : Ans (L2.upd H l (.lst us')) cs ws :=
  ⟨h.len, fun j p q b hj => let ⟨t, a, c⟩ := h.get j p q b hj; ⟨t, a, by rw [upd_ne (fun e => by rw [e, hl] at c; cases c)]; exact c⟩⟩
theorem mx24 (x y : Nat) : (if (y : Int) > x then (y : Int) else x) = ((max x y : Nat) : Int) := by split <;> omega
theorem mn24 (x y : Nat) : (if (y : Int) < x then (y : Int) else x) = ((min x y : Nat) : Int) := by split <;> omega
theorem Good.snoc {n : Nat} {cs : List (Nat × Nat × Bool)} {p q : Nat} {b : Bool} (h : Good n cs) (h1 : q < p) (h2 : p < n) : Good n (cs ++ [(p, q, b)]) := fun c hc => by
  rcases List.mem_append.mp hc with z | z
  · exact h c z
  · rw [List.mem_singleton.mp z]; exact ⟨h1, h2⟩
/-- put in anywhere -/
theorem Ans.ins {H : Hp} {cs : List (Nat × Nat × Bool)} {ws : List V} {p q : Nat} {b : Bool} {t : Addr} (h : Ans H cs ws) (ht : H t = some (.tup [.int p, .int q, .bl b])) (r : Nat) (hr : r ≤ cs.length) : Ans H (cs.take r ++ (p, q, b) :: cs.drop r) (ws.take r ++ .ref t :: ws.drop r) := by
  have hl := h.len
  refine ⟨by rw [List.length_append, List.length_append, List.length_cons, List.length_cons, List.length_take, List.length_take, List.length_drop, List.length_drop, hl], fun j p' q' b' hj => ?_⟩
  by_cases h1 : j < r
  · rw [List.getElem?_append_left (by rw [List.length_take]; omega), List.getElem?_take_of_lt h1] at hj
    rw [List.getElem?_append_left (by rw [List.length_take]; omega), List.getElem?_take_of_lt h1]
    exact h.get j p' q' b' hj
  · rw [List.getElem?_append_right (by rw [List.length_take]; omega), List.length_take, Nat.min_eq_left hr] at hj
    rw [List.getElem?_append_right (by rw [List.length_take]; omega), List.length_take, Nat.min_eq_left (by omega)]
    cases hk : j - r with
    | zero => rw [hk] at hj; cases hj; exact ⟨t, rfl, ht⟩
    | succ m =>
      rw [hk, List.getElem?_cons_succ, List.getElem?_drop] at hj
      rw [List.getElem?_cons_succ, List.getElem?_drop]
      exact h.get (r + m) p' q' b' hj
theorem Good.ins {n : Nat} {cs : List (Nat × Nat × Bool)} {p q : Nat} {b : Bool} (h : Good n cs) (h1 : q < p) (h2 : p < n) (r : Nat) : Good n (cs.take r ++ (p, q, b) :: cs.drop r) := fun c hc => by
  rcases List.mem_append.mp hc with z | z
  · exact h c (List.mem_of_mem_take z)
  · rcases List.mem_cons.mp z with z | z
    · rw [z]; exact ⟨h1, h2⟩
    · exact h c (List.mem_of_mem_drop z)
def spAnsOf : Sp := fun vs H Q _ => ∃ (c : Int) (n m : Nat), vs = [.int c, .int n, .int m] ∧ 0 < n ∧ n ≤ 200 ∧ m ≤ 100 ∧ ∀ l H' cs ws, Same H H' → H l = none → H' l = some (.lst ws) → Ans H' cs ws → Good n cs → cs.length ≤ m → Q (.ref l) H'
def spTurn24 : Sp := fun vs H Q _ => ∃ (a : Addr) (p : List Nat), vs = [.ref a] ∧ H a = some (.lst (NL p)) ∧ Pap.IsP p ∧ p.length ≤ 200 ∧ ∀ l H', Same H H' → H l = none → H' l = some (.lst (NL (Pap.bk p))) → Q (.ref l) H'
theorem rep_NL (n : Nat) : (List.replicate n [V.int 0]).flatten = NL (List.replicate n 0) := by
  induction n with
  | zero => rfl
  | succ n ih => rw [List.replicate_succ, List.flatten_cons, ih, List.replicate_succ]; rfl
/-- the spots of the first i places, nought elsewhere -/
def zsp (p : List Nat) (i : Nat) : List Nat := (List.range p.length).map fun v => if v ∈ p.take i then p.idxOf v else 0
theorem zsp_len (p : List Nat) (i : Nat) : (zsp p i).length = p.length := by unfold zsp; rw [List.length_map, List.length_range]
theorem zsp_zero (p : List Nat) : zsp p 0 = List.replicate p.length 0 := by
  unfold zsp
  refine List.eq_replicate_iff.mpr ⟨by rw [List.length_map, List.length_range], fun b hb => ?_⟩
  obtain ⟨v, _, rfl⟩ := List.mem_map.mp hb
  simp
theorem zsp_end {p : List Nat} (hp : Pap.IsP p) : zsp p p.length = Pap.bk p := by
  unfold zsp Pap.bk
  refine List.map_congr_left fun v hv => ?_
  rw [List.take_of_length_le (Nat.le_refl _), if_pos (hp.mem (List.mem_range.mp hv))]
theorem zsp_step {p : List Nat} (hp : Pap.IsP p) {i : Nat} (hi : i < p.length) : (zsp p i).set (Pap.at' p i) i = zsp p (i + 1) := by
  refine List.ext_getElem? fun v => ?_
  by_cases hv : v < p.length
  · rw [List.getElem?_set, zsp_len]
    have g : ∀ j, (zsp p j)[v]? = some (if v ∈ p.take j then p.idxOf v else 0) := fun j => by
      unfold zsp
      rw [List.getElem?_map, List.getElem?_range hv]; rfl
    rw [g, g]
    have e : p.take (i + 1) = p.take i ++ [Pap.at' p i] := by rw [List.take_add_one, Pap.at_lt hi]; rfl
    by_cases h1 : Pap.at' p i = v
    · rw [if_pos h1, if_pos (by rw [h1]; exact hv), e, if_pos (List.mem_append_right _ (by rw [h1]; exact List.mem_cons_self)), ← h1, Pap.idx_at hp hi]
    · rw [if_neg h1, e]
      congr 1
      by_cases h2 : v ∈ p.take i
      · rw [if_pos h2, if_pos (List.mem_append_left _ h2)]
      · rw [if_neg h2, if_neg]
        intro z
        rcases List.mem_append.mp z with z | z
        · exact h2 z
        · exact h1 (List.mem_singleton.mp z).symm
  · rw [List.getElem?_eq_none (by rw [List.length_set, zsp_len]; omega), List.getElem?_eq_none (by rw [zsp_len]; omega)]
def spAnswer24 : Sp := fun vs H Q _ => ∃ (a : Addr) (p : List Nat) (x y : Nat), vs = [.ref a, .int x, .int y] ∧ H a = some (.lst (NL (Pap.bk p))) ∧ x < p.length ∧ y < p.length ∧ ∀ t H', Same H H' → H t = none → H' t = some (.tup [.int ((max x y : Nat) : Int), .int ((min x y : Nat) : Int), .bl (decide (Pap.at' (Pap.bk p) (max x y) < Pap.at' (Pap.bk p) (min x y)))]) → Q (.ref t) H'
/-- two neighbours turned about -/
def swp (p : List Nat) (k : Nat) : List Nat := p.take k ++ [Pap.at' p (k + 1), Pap.at' p k] ++ p.drop (k + 2)
def sw (k i : Nat) : Nat := if i = k then k + 1 else if i = k + 1 then k else i
def alB (p : List Nat) (cs : List (Nat × Nat × Bool)) : Bool := (List.range (p.length - 1)).all fun k => !agB (swp p k) cs
theorem swp_split {p : List Nat} {k : Nat} (h : k + 1 < p.length) : p = p.take k ++ [Pap.at' p k, Pap.at' p (k + 1)] ++ p.drop (k + 2) := by
  have e1 : p.drop k = Pap.at' p k :: p.drop (k + 1) := by rw [Pap.at_eq (by omega)]; exact List.drop_eq_getElem_cons (by omega)
  have e2 : p.drop (k + 1) = Pap.at' p (k + 1) :: p.drop (k + 2) := by rw [Pap.at_eq h]; exact List.drop_eq_getElem_cons h
  conv => lhs; rw [← List.take_append_drop k p, e1, e2]
  rw [List.append_assoc]; rfl
theorem swp_perm {p : List Nat} {k : Nat} (h : k + 1 < p.length) : (swp p k).Perm p := by
  conv => rhs; rw [swp_split h]
  unfold swp
  exact ((List.Perm.swap _ _ _).append_left _).append_right _
theorem swp_len {p : List Nat} {k : Nat} (h : k + 1 < p.length) : (swp p k).length = p.length := (swp_perm h).length_eq
theorem swp_isP {p : List Nat} {k : Nat} (hp : Pap.IsP p) (h : k + 1 < p.length) : Pap.IsP (swp p k) := by
  unfold Pap.IsP
  rw [swp_len h]
  exact (swp_perm h).trans hp
theorem swp_at {p : List Nat} {k i : Nat} (h : k + 1 < p.length) (hi : i < p.length) : Pap.at' (swp p k) i = Pap.at' p (sw k i) := by
  have hs : (swp p k)[i]? = p[sw k i]? := by
    unfold swp sw
    by_cases h1 : i < k
    · rw [if_neg (by omega), if_neg (by omega), List.append_assoc, List.getElem?_append_left (by rw [List.length_take]; omega), List.getElem?_take_of_lt h1]
    · rw [List.append_assoc, List.getElem?_append_right (by rw [List.length_take]; omega), List.length_take, Nat.min_eq_left (by omega)]
      by_cases h2 : i = k
      · rw [if_pos h2, h2, Nat.sub_self]
        exact (Pap.at_lt h).symm
      · rw [if_neg h2]
        by_cases h3 : i = k + 1
        · rw [if_pos h3, h3, show k + 1 - k = 1 by omega]
          exact (Pap.at_lt (by omega)).symm
        · rw [if_neg h3, List.getElem?_append_right (by simp; omega), List.getElem?_drop]
          congr 1
          simp
          omega
  have hsw : sw k i < p.length := by unfold sw; split; omega; split <;> omega
  rw [Pap.at_lt (by rw [swp_len h]; exact hi), Pap.at_lt hsw] at hs
  exact Option.some.inj hs
theorem sw_sw (k i : Nat) : sw k (sw k i) = i := by unfold sw; split <;> split <;> (try split) <;> omega
theorem swp_idx {p : List Nat} {k u : Nat} (hp : Pap.IsP p) (h : k + 1 < p.length) (hu : u < p.length) : Pap.at' (Pap.bk (swp p k)) u = sw k (Pap.at' (Pap.bk p) u) := by
  have hl := swp_len h
  rw [Pap.bk_at (by rw [hl]; exact hu), Pap.bk_at hu]
  have hi := Pap.idx_lt hp hu
  have hsw : sw k (p.idxOf u) < p.length := by unfold sw; split; omega; split <;> omega
  have e : Pap.at' (swp p k) (sw k (p.idxOf u)) = u := by rw [swp_at h hsw, sw_sw, Pap.at_idx hp hu]
  have := Pap.idx_at (swp_isP hp h) (i := sw k (p.idxOf u)) (by rw [hl]; exact hsw)
  rw [e] at this
  exact this
theorem kP2_inj {p q p' q' : Nat} (h : kP2 p q = kP2 p' q') : p = p' ∧ q = q' := by
  injection h with h1 h2
  injection h2 with h2 _
  injection h1 with h1
  injection h2 with h2
  exact ⟨by omega, by omega⟩
theorem idx_p {p : List Nat} (hp : Pap.IsP p) {i : Nat} (hi : i < p.length) : Pap.at' (Pap.bk p) (Pap.at' p i) = i := by
  rw [Pap.bk_at (hp.at_lt hi), Pap.idx_at hp hi]
theorem idx_inj {p : List Nat} (hp : Pap.IsP p) {u v : Nat} (hu : u < p.length) (hv : v < p.length) (e : Pap.at' (Pap.bk p) u = Pap.at' (Pap.bk p) v) : u = v := by
  rw [Pap.bk_at hu, Pap.bk_at hv] at e
  rw [← Pap.at_idx hp hu, ← Pap.at_idx hp hv, e]
theorem ag_swp {p : List Nat} {cs : List (Nat × Nat × Bool)} {k : Nat} (hp : Pap.IsP p) (hg : Good p.length cs) (ha : agB p cs = true) (h : k + 1 < p.length) : agB (swp p k) cs = !askB cs (Pap.at' p k) (Pap.at' p (k + 1)) := by
  unfold agB at ha
  rw [List.all_eq_true] at ha
  by_cases hq : askB cs (Pap.at' p k) (Pap.at' p (k + 1)) = true
  · rw [hq]
    unfold askB at hq
    obtain ⟨c, hc, e⟩ := List.any_eq_true.mp hq
    obtain ⟨e1, e2⟩ := kP2_inj (of_decide_eq_true e)
    obtain ⟨g1, g2⟩ := hg c hc
    have a1 := ha c hc
    show List.all _ _ = false
    rw [List.all_eq_false]
    refine ⟨c, hc, ?_⟩
    rw [swp_idx hp h (by omega), swp_idx hp h (by omega)]
    have i1 := idx_p hp (i := k) (by omega)
    have i2 := idx_p hp (i := k + 1) h
    have hx := hp.at_lt (show k < p.length by omega)
    have hy := hp.at_lt h
    generalize Pap.at' p k = x at *
    generalize Pap.at' p (k + 1) = y at *
    intro z
    have a2 := eq_of_beq a1
    have z2 := eq_of_beq z
    rw [← a2, decide_eq_decide] at z2
    by_cases hxy : x < y
    · rw [show max x y = y by omega] at e1
      rw [show min x y = x by omega] at e2
      rw [e1, e2, i1, i2] at z2
      unfold sw at z2
      simp at z2
      all_goals omega
    · rw [show max x y = x by omega] at e1
      rw [show min x y = y by omega] at e2
      rw [e1, e2, i1, i2] at z2
      unfold sw at z2
      simp at z2
      all_goals omega
  · have hq' : askB cs (Pap.at' p k) (Pap.at' p (k + 1)) = false := by simpa using hq
    rw [hq']
    show List.all _ _ = true
    rw [List.all_eq_true]
    intro c hc
    obtain ⟨g1, g2⟩ := hg c hc
    rw [← ha c hc, swp_idx hp h (by omega), swp_idx hp h (by omega)]
    congr 1
    rw [decide_eq_decide]
    have i1 := idx_p hp (i := k) (by omega)
    have i2 := idx_p hp (i := k + 1) h
    have hx := hp.at_lt (show k < p.length by omega)
    have hy := hp.at_lt h
    have no : ¬ (c.1 = max (Pap.at' p k) (Pap.at' p (k + 1)) ∧ c.2.1 = min (Pap.at' p k) (Pap.at' p (k + 1))) := fun z => by
      unfold askB at hq'
      rw [List.any_eq_false] at hq'
      exact hq' c hc (decide_eq_true (by rw [z.1, z.2]))
    have n1 : Pap.at' (Pap.bk p) c.1 ≠ Pap.at' (Pap.bk p) c.2.1 := fun e => by have := idx_inj hp (by omega) (by omega) e; omega
    have n2 : ¬ (Pap.at' (Pap.bk p) c.1 = k ∧ Pap.at' (Pap.bk p) c.2.1 = k + 1) := fun z => by
      have u1 := idx_inj hp (v := Pap.at' p k) (by omega) hx (z.1.trans i1.symm)
      have u2 := idx_inj hp (v := Pap.at' p (k + 1)) (by omega) hy (z.2.trans i2.symm)
      exact no ⟨by omega, by omega⟩
    have n3 : ¬ (Pap.at' (Pap.bk p) c.1 = k + 1 ∧ Pap.at' (Pap.bk p) c.2.1 = k) := fun z => by
      have u1 := idx_inj hp (v := Pap.at' p (k + 1)) (by omega) hy (z.1.trans i2.symm)
      have u2 := idx_inj hp (v := Pap.at' p k) (by omega) hx (z.2.trans i1.symm)
      exact no ⟨by omega, by omega⟩
    generalize Pap.at' (Pap.bk p) c.1 = i at *
    generalize Pap.at' (Pap.bk p) c.2.1 = j at *
    unfold sw
    (repeat' split) <;> omega
theorem al_sh {p : List Nat} {cs : List (Nat × Nat × Bool)} (hp : Pap.IsP p) (hg : Good p.length cs) (ha : agB p cs = true) : alB p cs = shB p cs := by
  unfold alB shB
  rw [List.all_map, Bool.eq_iff_iff, List.all_eq_true, List.all_eq_true]
  refine forall_congr' fun k => forall_congr' fun hk => ?_
  have := List.mem_range.mp hk
  rw [ag_swp hp hg ha (by omega), Bool.not_not]
  rfl
theorem mono_id {n : Nat} (f : Nat → Nat) (hlt : ∀ i, i < n → f i < n) (hm : ∀ i, i + 1 < n → f i < f (i + 1)) : ∀ i, i < n → f i = i := by
  have h1 : ∀ i, i < n → i ≤ f i := by
    intro i
    induction i with
    | zero => intro _; exact Nat.zero_le _
    | succ i ih => intro h; have := ih (by omega); have := hm i h; omega
  have h2 : ∀ d i, i + d + 1 = n → f i ≤ i := by
    intro d
    induction d with
    | zero => intro i h; have := hlt i (by omega); omega
    | succ d ih => intro i h; have := ih (i + 1) (by omega); have := hm i (by omega); omega
  intro i hi
  have := h1 i hi
  have := h2 (n - 1 - i) i (by omega)
  omega
theorem one_paper {p o : List Nat} {cs : List (Nat × Nat × Bool)} (hp : Pap.IsP p) (ho : Pap.IsP o) (hl : o.length = p.length) (ha : agB p cs = true) (hs : shB p cs = true) (hb : agB o cs = true) : o = p := by
  have hf := mono_id (n := p.length) (fun i => Pap.at' (Pap.bk o) (Pap.at' p i)) (fun i hi => by
    have := hp.at_lt hi
    show Pap.at' (Pap.bk o) (Pap.at' p i) < p.length
    rw [Pap.bk_at (by omega), ← hl]
    exact Pap.idx_lt ho (by omega)) (fun i hi => by
    unfold shB at hs
    rw [List.all_map, List.all_eq_true] at hs
    have h1 := hs i (List.mem_range.mpr (by omega))
    obtain ⟨c, hc, e⟩ := List.any_eq_true.mp (show List.any cs _ = true from h1)
    obtain ⟨e1, e2⟩ := kP2_inj (of_decide_eq_true e)
    unfold agB at ha hb
    rw [List.all_eq_true] at ha hb
    have a1 := eq_of_beq (ha c hc)
    have a2 := eq_of_beq (hb c hc)
    rw [← a1, decide_eq_decide] at a2
    have i1 := idx_p hp (i := i) (by omega)
    have i2 := idx_p hp (i := i + 1) hi
    have hx := hp.at_lt (show i < p.length by omega)
    have hy := hp.at_lt hi
    show Pap.at' (Pap.bk o) (Pap.at' p i) < Pap.at' (Pap.bk o) (Pap.at' p (i + 1))
    have hne : Pap.at' p i ≠ Pap.at' p (i + 1) := fun z => by have := Pap.at_inj hp (by omega) hi z; omega
    generalize Pap.at' p i = x at *
    generalize Pap.at' p (i + 1) = y at *
    by_cases hxy : x < y
    · rw [show max x y = y by omega] at e1
      rw [show min x y = x by omega] at e2
      rw [e1, e2, i1, i2] at a2
      rcases Nat.lt_trichotomy (Pap.at' (Pap.bk o) x) (Pap.at' (Pap.bk o) y) with z | z | z
      · exact z
      · exact absurd (idx_inj ho (by omega) (by omega) z) hne
      · have := a2.mp z; omega
    · rw [show max x y = x by omega] at e1
      rw [show min x y = y by omega] at e2
      rw [e1, e2, i1, i2] at a2
      exact a2.mpr (by omega))
  refine Pap.ext hl fun i hi => ?_
  have h1 := hf i (by omega)
  have hx := hp.at_lt (show i < p.length by omega)
  have h2 : Pap.at' (Pap.bk o) (Pap.at' p i) = i := h1
  rw [Pap.bk_at (by omega)] at h2
  have := Pap.at_idx ho (v := Pap.at' p i) (by omega)
  rw [h2] at this
  exact this
def spSays : Sp := fun vs H Q _ => ∃ (b c : Bool), vs = [.bl b, .bl c] ∧ Q (.bl (b == c)) H
theorem once2 {α β : Type} {M : α → β → Prop} (P : α → β → Prop) {G : Prop} (h : (∀ x y, P x y → M x y) → G) (t : ∀ x y, P x y → M x y) : G := h t
theorem insV_ans {ws : List V} {y : Int} {x : V} (h0 : 0 ≤ y) (h1 : y ≤ ws.length) : insV ws y x = ws.take y.toNat ++ x :: ws.drop y.toNat := by
  unfold insV
  dsimp only
  rw [if_neg (by omega), Nat.min_eq_left (by omega)]
def spAnswers24 (K : PySem.W.Frag) : Sp := fun vs H Q _ => ∃ (a c : Addr) (p : List Nat) (ns : List Int) (md ou : Int), vs = [.ref a, .ref c, .int md, .int ou] ∧ H a = some (.lst (NL p)) ∧ Pap.IsP p ∧ p.length ≤ 24 ∧ SqL K H c (ns.map V.int) ∧ ns.length ≤ 63 ∧ ∀ l H' cs ws, Same H H' → H l = none → H' l = some (.lst ws) → Ans H' cs ws → Good p.length cs → cs.length ≤ 200 → Q (.ref l) H'
def spAlone : Sp := fun vs H Q _ => ∃ (a w : Addr) (p : List Nat) (cs : List (Nat × Nat × Bool)) (ws : List V), vs = [.ref a, .ref w] ∧ H a = some (.lst (NL p)) ∧ Pap.IsP p ∧ p.length ≤ 200 ∧ H w = some (.lst ws) ∧ Ans H cs ws ∧ Good p.length cs ∧ cs.length ≤ 20000 ∧ ∀ H', Same H H' → Q (.bl (alB p cs)) H'
def paD (c : Nat × Nat × Bool) : PyData := .tuple [.int c.1, .int c.2.1, .bool c.2.2]
theorem Ans.dp {K : PySem.W.Frag} {H : Hp} : ∀ {ps : List (Nat × Nat × Bool)} {ts : List V}, Ans H ps ts → DpAll K H (ps.map paD) ts
  | [], ts, h => by
    have : ts = [] := List.length_eq_zero_iff.mp h.len
    subst this
    exact .nil
  | c :: r, [], h => by have := h.len; cases this
  | (x, y, f) :: r, v :: ts, h => by
    obtain ⟨t, a, b⟩ := h.get 0 x y f rfl
    have ev : v = .ref t := Option.some.inj a
    subst ev
    refine .cons (dp_tup (SqT.of b) (.cons (dp_int _) (.two (dp_int _) (dp_bl _)))) (Ans.dp ⟨by have := h.len; simpa using this, fun j p' q' f' hj => ?_⟩)
    obtain ⟨t', a', b'⟩ := h.get (j + 1) p' q' f' (by simpa using hj)
    exact ⟨t', by simpa using a', b'⟩
theorem pa_lay : ∀ ps : List (Nat × Nat × Bool), PyData.canLayAll0 (ps.map paD) = true
  | [] => by unfold PyData.canLayAll0 List.map; rfl
  | c :: r => by
    rw [List.map_cons]
    unfold PyData.canLayAll0
    rw [pa_lay r]
    unfold paD PyData.canLay0 PyData.canLayAll0 PyData.canLayAll0 PyData.canLayAll0 PyData.canLayAll0 PyData.canLay0
    rfl
theorem pa_dep : ∀ ps : List (Nat × Nat × Bool), PyData.depthAll (ps.map paD) ≤ 1
  | [] => by unfold List.map PyData.depthAll; decide
  | c :: r => by
    rw [List.map_cons]
    unfold PyData.depthAll
    have h1 := pa_dep r
    have h2 : (paD c).depth ≤ 1 := by unfold paD PyData.depth PyData.depthAll PyData.depthAll PyData.depthAll PyData.depthAll PyData.depth; decide
    omega

theorem Ans.rev {H : Hp} {cs : List (Nat × Nat × Bool)} {ws : List V} (h : Ans H cs ws) : Ans H cs.reverse ws.reverse := by
  have hl := h.len
  refine ⟨by rw [List.length_reverse, List.length_reverse, hl], fun j p q b hj => ?_⟩
  have hlt := (List.getElem?_eq_some_iff.mp hj).1
  rw [List.length_reverse] at hlt
  rw [List.getElem?_reverse hlt] at hj
  rw [List.getElem?_reverse (by omega), hl]
  exact h.get _ p q b hj
theorem ag_rev (p : List Nat) (cs : List (Nat × Nat × Bool)) : agB p cs.reverse = agB p cs := by unfold agB; rw [List.all_reverse]
theorem sh_rev (p : List Nat) (cs : List (Nat × Nat × Bool)) : shB p cs.reverse = shB p cs := by
  have e : ∀ x y, askB cs.reverse x y = askB cs x y := fun x y => by unfold askB; rw [List.any_reverse]
  unfold shB
  simp only [e]
theorem sh_nil (p : List Nat) : shB p [] = decide (p.length < 2) := by
  unfold shB
  rw [List.all_map, Bool.eq_iff_iff, List.all_eq_true, decide_eq_true_iff]
  constructor
  · intro h
    by_cases z : p.length < 2
    · exact z
    · have := h 0 (List.mem_range.mpr (by omega))
      exact absurd this (by simp [askB])
  · intro h k hk
    have := List.mem_range.mp hk
    omega
section
variable {P : Program} {w : World} {K : PySem.W.Frag} {mg : Str → Option Value} {base : Heap}
theorem ok_straight {f : Addr} {fd : FuncData} (F : Fun K "straight" "straight" s_straight f fd) (T : Bt K mg)
    : FnOk P w K mg base CX0 1 f fd ["many"] (spStraight) := by
  refine F.ok sc_straight (fun vs H Q E h => ?_) (fun cdv A outer s H vs Q E hr h => ?_)
  · obtain ⟨n, rfl, hn, q⟩ := h
    rfl
  obtain ⟨n, rfl, hn, q⟩ := h
  refine ⟨_, (pss_one (ps_ret (pe_callTy (call_list_rng rfl) rfl T.b_list PyProof.Rows.boot_list (pa_cons (pe_callTy call_rng1 rfl T.b_range PyProof.Rows.boot_range (pa_cons (pv 0) pa_nil)) pa_nil)))), ?_⟩
  walk_at "rd"
  refine ⟨n, rfl, fun p hp => ⟨p, 0, n, rfl, upd_same, by omega, fun l hl => ?_⟩⟩
  exact q l _ ((same_new hp _).new hl) ((same_new hp _).free hl) (by rw [upd_same, rints_range])
theorem ok_is_number {f : Addr} {fd : FuncData} (F : Fun K "is_number" "is_number" s_is_number f fd) (T : Bt K mg)
    : FnOk P w K mg base CX0 1 f fd ["some"] (spIsNumber) := by
  refine F.ok sc_is_number (fun vs H Q E h => ?_) (fun cdv A outer s H vs Q E hr h => ?_)
  · obtain ⟨i, rfl, q⟩ := h
    rfl
  obtain ⟨i, rfl, q⟩ := h
  refine ⟨_, (pss_one (ps_ret (pe_and (pe_callB call_isinst rfl T.b_isinstance PyProof.Rows.boot_isinstance (pa_cons (pv 0) (pa_cons (pe_bty rfl T.b_int PyProof.Rows.boot_int) pa_nil))) (pe_one (pe_not (pe_callB call_isinst rfl T.b_isinstance PyProof.Rows.boot_isinstance (pa_cons (pv 0) (pa_cons (pe_bty rfl T.b_bool PyProof.Rows.boot_bool) pa_nil)))))))), ?_⟩
  walk_at "rd"
  refine inst_int ?_
  walk_at "rd"
  refine inst_int_bl T.kit_int_bool ?_
  walk_at "rd"
  exact q
theorem ok_is_paper {f : Addr} {fd : FuncData} (F : Fun K "is_paper" "is_paper" s_is_paper f fd) (T : Bt K mg)
    (f_straight : Fn P w K mg base CX0 "straight" 1 ["many"] (spStraight))
    (f_is_number : Fn P w K mg base CX0 "is_number" 1 ["some"] (spIsNumber))
    : FnOk P w K mg base CX0 2 f fd ["some"] (spIsPaper) := by
  refine F.ok sc_is_paper (fun vs H Q E h => ?_) (fun cdv A outer s H vs Q E hr h => ?_)
  · obtain ⟨a, p, rfl, ha, hp, hl, q⟩ := h
    rfl
  obtain ⟨a, p, rfl, ha, hp, hl, q⟩ := h
  refine ⟨_, (pss_cons (ps_if (PW.pt (pw_or (pt_not (pt_val (pe_callB call_isinst rfl T.b_isinstance PyProof.Rows.boot_isinstance (pa_cons (pv 0) (pa_cons (pe_bty rfl T.b_list PyProof.Rows.boot_list) pa_nil))))) (pw_or1 (pt_not (pt_val (pe_callB (call_all rfl) rfl T.b_all PyProof.Rows.boot_all (pa_cons (pe_comp rfl (k := 1) (js := []) (N' := ["number"]) (by rfl) (pi_list (pv 0)) (fun _ _ _ _ => pg_name (i := 0) (show (["number"] : List Str).Nodup by decide +kernel) rfl (by first | exact Or.inl rfl | exact Or.inr rfl)) (fun _ _ _ _ => pifs_nil) (fun _ _ _ _ => (pe_fn f_is_number (hr.mono (by decide)) rfl pass0 (pa_cons (pv 0) pa_nil)))) pa_nil)))))))
      (pss_one (ps_ret pe_bl)) pss_nil)
    (pss_one (ps_ret (pe_cmpR (op_eqD hr.units) (pe_callB call_sortedB rfl T.b_sorted PyProof.Rows.boot_sorted (pa_cons (pv 0) pa_nil)) (pe_fn f_straight (hr.mono (by decide)) rfl pass0 (pa_cons (pe_callB call_len_seq rfl T.b_len PySem.boot_len (pa_cons (pv 0) pa_nil)) pa_nil)) (nomark _))))), ?_⟩
  walk_at "rd"
  refine inst_lst ha ?_
  walk_at "rd"
  refine compL_gen (SqL.of ha) (by rw [NL_len]; omega) rfl (fun _ y _ => y = .bl true) (fun _ _ _ _ _ q => q) (fun i x H' hx e Q' k => ?_) fun ys H' l hyl hR e hn => ?_
  · obtain ⟨_, rfl⟩ := NL_get hx
    walk_at "rd"
    exact ⟨_, rfl, k _ _ (.refl _) rfl⟩
  have hys : ys = (List.replicate p.length true).map V.bl := by
    rw [List.map_replicate]
    refine eq_rep (by rw [hyl, NL_len]) fun j y hy => ?_
    have hj : j < ys.length := (List.getElem?_eq_some_iff.mp hy).1
    exact hR j _ y (NL_at (by rw [hyl, NL_len] at hj; exact hj)) hy
  refine ⟨l, List.replicate p.length true, rfl, SqL.of (by rw [upd_same, hys]), ?_⟩
  rw [if_neg (by rw [all_true]; simp)]
  have s1 := e.new (o := .lst ys) hn
  refine ⟨a, p.map fun x : Nat => (x : Int), rfl, SqL.of (s1 _ _ ha), by rw [List.length_map]; omega, fun l2 ms hl2 hperm hsort => ?_⟩
  obtain rfl := hp.sorted hperm hsort
  have s2 := s1.new (o := .lst (NL (List.range p.length))) hl2
  refine ⟨a, NL p, rfl, .inl (SqL.of (s2 _ _ ha)), ?_⟩
  rw [NL_len]
  refine ⟨p.length, rfl, by omega, fun l3 H3 s3 hn3 h3 => ?_⟩
  refine eqD_of Enc.int.list (by decide) (dp_ints (SqL.of (s3 _ _ upd_same))) (dp_ints (SqL.of h3)) ?_
  rw [decide_eq_true rfl]
  exact q _ (s2.trans s3)
theorem ok_check_paper {f : Addr} {fd : FuncData} (F : Fun K "check_paper" "check_paper" s_check_paper f fd) (T : Bt K mg)
    (f_is_paper : Fn P w K mg base CX0 "is_paper" 2 ["some"] (spIsPaper))
    : FnOk P w K mg base CX0 3 f fd ["some", "many"] (spCheckPaper) := by
  refine F.ok sc_check_paper (fun vs H Q E h => ?_) (fun cdv A outer s H vs Q E hr h => ?_)
  · obtain ⟨a, p, rfl, ha, hp, hl, q⟩ := h
    rfl
  obtain ⟨a, p, rfl, ha, hp, hl, q⟩ := h
  refine ⟨_, (pss_one (ps_if (PW.pt (pw_or (pt_not (pt_val (pe_fn f_is_paper (hr.mono (by decide)) rfl pass0 (pa_cons (pv 0) pa_nil)))) (pw_or1 (pt_cmpR op_ne (pe_callB call_len_seq rfl T.b_len PySem.boot_len (pa_cons (pv 0) pa_nil)) (pv 1) (nomark _)))))
      (pss_one (ps_never)) pss_nil)), ?_⟩
  walk_at "rd"
  refine ⟨a, p, rfl, ha, hp, hl, fun H' s' => ⟨true, rfl, ?_⟩⟩
  walk_at "rd"
  refine ⟨a, NL p, rfl, .inl (SqL.of (s' _ _ ha)), ?_⟩
  rw [NL_len, if_neg (by simp)]
  exact q _ s'
theorem ok_back {f : Addr} {fd : FuncData} (F : Fun K "back" "back" s_back f fd) (T : Bt K mg)
    (f_check_paper : Fn P w K mg base CX0 "check_paper" 3 ["some", "many"] (spCheckPaper))
    (f_straight : Fn P w K mg base CX0 "straight" 1 ["many"] (spStraight))
    : FnOk P w K mg base CX0 4 f fd ["paper"] (spBack) := by
  refine F.ok sc_back (fun vs H Q E h => ?_) (fun cdv A outer s H vs Q E hr h => ?_)
  · obtain ⟨a, p, rfl, ha, hp, hl, q⟩ := h
    rfl
  obtain ⟨a, p, rfl, ha, hp, hl, q⟩ := h
  refine ⟨_, (pss_cons (ps_expr (pe_fn f_check_paper (hr.mono (by decide)) rfl pass0 (pa_cons (pv 0) (pa_cons (pe_callB call_len_seq rfl T.b_len PySem.boot_len (pa_cons (pv 0) pa_nil)) pa_nil))))
    (pss_cons (ps_set (i := 1) sc_back.nd rfl (by first | exact Or.inl rfl | exact Or.inr rfl) (pe_fn f_straight (hr.mono (by decide)) rfl pass0 (pa_cons (pe_callB call_len_seq rfl T.b_len PySem.boot_len (pa_cons (pv 0) pa_nil)) pa_nil)))
    (pss_cons (ps_for PassesOwn.never rfl (pi_enum rfl T.b_enumerate (pa_cons (pv 0) pa_nil)) (pg_tup (n := 2) rfl (pgs_cons (pg_name (i := 2) sc_back.nd rfl (by first | exact Or.inl rfl | exact Or.inr rfl)) (pgs_cons (pg_name (i := 3) sc_back.nd rfl (by first | exact Or.inl rfl | exact Or.inr rfl)) pgs_nil)))
      (pss_one (ps_asg (pv 2) (pg_sub (pv 1) (pv 3) set_list))))
    (pss_one (ps_ret (pv 1)))))), ?_⟩
  walk_at "rd"
  refine ⟨a, NL p, rfl, .inl (SqL.of ha), ?_⟩
  rw [NL_len]
  refine ⟨a, p, rfl, ha, hp, hl, fun H1 s1 => ⟨a, NL p, rfl, .inl (SqL.of (s1 _ _ ha)), ?_⟩⟩
  rw [NL_len]
  refine ⟨p.length, rfl, by omega, fun l H2 s2 hl2 h2 => ?_⟩
  have hal : a ≠ l := ne_of_none (s1 _ _ ha) hl2
  have hln : H l = none := s1.free hl2
  refine forE_of (SqL.of (s2 _ _ (s1 _ _ ha))) (fun i σ H' => ∃ v2 v3, σ = [some (.ref a), some (.ref l), v2, v3] ∧ H' a = some (.lst (NL p)) ∧ H' l = some (.lst (NL (Pap.spots p i))) ∧ Same H H') ⟨_, _, rfl, s2 _ _ (s1 _ _ ha), by rw [Pap.spots_zero]; exact h2, s1.trans s2⟩ (fun i σ H' _ ⟨_, _, _, h, _⟩ => SqL.of h) ?_ ?_
  · rintro i x σ H' t hx ⟨v2, v3, rfl, h3, h4, h5⟩ ht
    obtain ⟨hi, rfl⟩ := NL_get hx
    refine gTup_of (SqT.of upd_same) rfl ?_
    walk_at "rd"
    have h3' := (same_new ht (.tup [.int i, .int (Pap.at' p i)])) _ _ h3
    have h4' := (same_new ht (.tup [.int i, .int (Pap.at' p i)])) _ _ h4
    have hlt := hp.at_lt hi
    refine ⟨l, _, _, _, rfl, rfl, h4', ixN_of (by omega) (by rw [NL_len, Pap.spots_len]; omega), ?_⟩
    refine ⟨_, _, rfl, by rw [upd_ne hal]; exact h3', ?_, (h5.new ht).upd hln⟩
    rw [upd_same, Int.toNat_natCast, ← Pap.spots_step hp hi, NL, NL, List.map_set, List.map_set]
  · rintro σ H' ⟨v2, v3, rfl, h3, h4, h5⟩
    rw [NL_len, Pap.spots_end hp] at h4
    walk_at "rd"
    exact q l _ h5 hln h4
theorem ok_agrees {f : Addr} {fd : FuncData} (F : Fun K "agrees" "agrees" s_agrees f fd) (T : Bt K mg)
    (f_back : Fn P w K mg base CX0 "back" 4 ["paper"] (spBack))
    : FnOk P w K mg base CX0 5 f fd ["paper", "answers"] (spAgrees) := by
  refine F.ok sc_agrees (fun vs H Q E h => ?_) (fun cdv A outer s H vs Q E hr h => ?_)
  · obtain ⟨a, w, p, cs, ws, rfl, ha, hp, hl, hw, hA, hcs, hcl, q⟩ := h
    rfl
  obtain ⟨a, w, p, cs, ws, rfl, ha, hp, hl, hw, hA, hcs, hcl, q⟩ := h
  refine ⟨_, (pss_cons (ps_set (i := 2) sc_agrees.nd rfl (by first | exact Or.inl rfl | exact Or.inr rfl) (pe_fn f_back (hr.mono (by decide)) rfl pass0 (pa_cons (pv 0) pa_nil)))
    (pss_one (ps_ret (pe_callB (call_all rfl) rfl T.b_all PyProof.Rows.boot_all (pa_cons (pe_comp rfl (k := 3) (js := [2]) (N' := ["later", "earlier", "said", "spots"]) (by rfl) (pi_list (pv 1)) (fun _ _ _ _ => pg_tupK (n := 3) K rfl (pgs_cons (pg_name (i := 0) (show (["later", "earlier", "said", "spots"] : List Str).Nodup by decide +kernel) rfl (by first | exact Or.inl rfl | exact Or.inr rfl)) (pgs_cons (pg_name (i := 1) (show (["later", "earlier", "said", "spots"] : List Str).Nodup by decide +kernel) rfl (by first | exact Or.inl rfl | exact Or.inr rfl)) (pgs_cons (pg_name (i := 2) (show (["later", "earlier", "said", "spots"] : List Str).Nodup by decide +kernel) rfl (by first | exact Or.inl rfl | exact Or.inr rfl)) pgs_nil)))) (fun _ _ _ _ => pifs_nil) (fun _ _ _ _ => (pe_cmpR op_eq (pe_cmpR op_lt (pe_ix (ix_listK K) (pv 3) (pv 0) (fun _ _ => rfl)) (pe_ix (ix_listK K) (pv 3) (pv 1) (fun _ _ => rfl)) (nomark _)) (pv 2) (nomark _)))) pa_nil))))), ?_⟩
  walk_at "rd"
  refine ⟨a, p, rfl, ha, hp, hl, fun sp H1 s1 hsp0 hsp => ?_⟩
  have hA1 := hA.keep s1
  refine compL_big (SqL.of (s1 _ _ hw)) (by rw [hA.len]; omega) (fun i ys σ H' => ∃ v1 v2 v3, σ = [v1, v2, v3, some (.ref sp)] ∧ Same H1 H' ∧ ys = ((cs.take i).map fun c => decide (Pap.at' (Pap.bk p) c.1 < Pap.at' (Pap.bk p) c.2.1) == c.2.2).map V.bl) ⟨_, _, _, rfl, .refl _, rfl⟩ (fun i ys σ H' hi ⟨_, _, _, _, e, e2⟩ => ⟨SqL.of (e _ _ (s1 _ _ hw)), by rw [e2, List.length_map, List.length_map, List.length_take]; omega⟩) ?_ ?_
  · rintro i ys x σ H' hi hx ⟨v1, v2, v3, rfl, s2, rfl⟩
    rw [hA.len] at hi
    obtain ⟨⟨p1, q1, b1⟩, hc⟩ : ∃ c, cs[i]? = some c := ⟨_, List.getElem?_eq_getElem hi⟩
    obtain ⟨t, ht1, ht2⟩ := hA1.get i p1 q1 b1 hc
    rw [hx] at ht1
    cases ht1
    obtain ⟨b2, b3⟩ := hcs _ (List.mem_of_getElem? hc)
    refine gTup_of (SqT.of (s2 _ _ ht2)) rfl ?_
    walk_at "rd"
    have hsp2 := s2 _ _ hsp
    refine ixL_of (SqL.of hsp2) (NL_ix (by rw [Pap.bk_len]; exact b2) rfl) (ixL_of (SqL.of hsp2) (NL_ix (by rw [Pap.bk_len]; exact b3) rfl) ?_)
    walk_at "rd"
    refine Nxt.of (by rw [hA.len]; exact hi) ⟨_, _, _, rfl, s2, ?_⟩
    rw [take_snoc hc, List.map_append, List.map_append, said_b (Pap.at' (Pap.bk p) p1) (Pap.at' (Pap.bk p) q1) b1]
    rfl
  rintro ys σ H2 ⟨v1, v2, v3, rfl, s2, rfl⟩ l hl0
  refine ⟨l, _, rfl, SqL.of upd_same, ?_⟩
  have e : ((cs.take ws.length).map fun c => decide (Pap.at' (Pap.bk p) c.1 < Pap.at' (Pap.bk p) c.2.1) == c.2.2).all id = agB p cs := by
    rw [hA.len, List.take_of_length_le (Nat.le_refl _), List.all_map]; rfl
  rw [e]
  exact q _ (s1.trans (s2.new hl0))
theorem ok_shows {f : Addr} {fd : FuncData} (F : Fun K "shows" "shows" s_shows f fd) (T : Bt K mg)
    (f_agrees : Fn P w K mg base CX0 "agrees" 5 ["paper", "answers"] (spAgrees))
    : FnOk P w K mg base CX0 6 f fd ["paper", "answers"] (spShows) := by
  refine F.ok sc_shows (fun vs H Q E h => ?_) (fun cdv A outer s H vs Q E hr h => ?_)
  · obtain ⟨a, w, p, cs, ws, rfl, ha, hp, hl, hw, hA, hcs, hcl, q⟩ := h
    rfl
  obtain ⟨a, w, p, cs, ws, rfl, ha, hp, hl, hw, hA, hcs, hcl, q⟩ := h
  refine ⟨_, (pss_cons (ps_if (pt_not (pt_val (pe_fn f_agrees (hr.mono (by decide)) rfl pass0 (pa_cons (pv 0) (pa_cons (pv 1) pa_nil)))))
      (pss_one (ps_ret pe_bl)) pss_nil)
    (pss_cons (ps_set (i := 2) sc_shows.nd rfl (by first | exact Or.inl rfl | exact Or.inr rfl) (pe_callTy (call_dictP rfl hr.units) rfl T.b_dict PyProof.Rows.boot_dict (pa_cons (pe_comp rfl (k := 3) (js := []) (N' := ["later", "earlier", "said"]) (by rfl) (pi_list (pv 1)) (fun _ _ _ _ => pg_tupK (n := 3) K rfl (pgs_cons (pg_name (i := 0) (show (["later", "earlier", "said"] : List Str).Nodup by decide +kernel) rfl (by first | exact Or.inl rfl | exact Or.inr rfl)) (pgs_cons (pg_name (i := 1) (show (["later", "earlier", "said"] : List Str).Nodup by decide +kernel) rfl (by first | exact Or.inl rfl | exact Or.inr rfl)) (pgs_cons (pg_name (i := 2) (show (["later", "earlier", "said"] : List Str).Nodup by decide +kernel) rfl (by first | exact Or.inl rfl | exact Or.inr rfl)) pgs_nil)))) (fun _ _ _ _ => pifs_nil) (fun _ _ _ _ => (pe_tup (pa_cons (pe_tup (pa_cons (pv 0) (pa_cons (pv 1) pa_nil))) (pa_cons pe_bl pa_nil))))) pa_nil)))
    (pss_one (ps_ret (pe_callB (call_all rfl) rfl T.b_all PyProof.Rows.boot_all (pa_cons (pe_comp rfl (k := 1) (js := [2]) (N' := ["pair", "asked"]) (by rfl) (pi_zipN rfl T.b_zip (pa_cons (pv 0) (pa_cons (pe_slice sl_list (pv 0) (po_some pe_int) po_none) pa_nil))) (fun _ _ _ _ => pg_name (i := 0) (show (["pair", "asked"] : List Str).Nodup by decide +kernel) rfl (by first | exact Or.inl rfl | exact Or.inr rfl)) (fun _ _ _ _ => pifs_nil) (fun _ _ _ _ => (pe_cmp (pc_din (hu_of hr) (pe_tup (pa_cons (pe_callB (call_maxTK K rfl) rfl T.b_max PyProof.Rows.boot_max (pa_cons (pv 0) pa_nil)) (pa_cons (pe_callB (call_minTK K rfl) rfl T.b_min PyProof.Rows.boot_min (pa_cons (pv 0) pa_nil)) pa_nil))) (pv 1))))) pa_nil)))))), ?_⟩
  walk_at "rd"
  refine ⟨a, w, p, cs, ws, rfl, ha, hp, hl, hw, hA, hcs, hcl, fun H1 s1 => ⟨_, rfl, ?_⟩⟩
  by_cases hag : agB p cs = true
  · rw [if_neg (by rw [hag]; simp)]
    rw [hag, Bool.true_and] at q
    walk_at "rd"
    have hA1 := hA.keep s1
    have hw1 := s1 _ _ hw
    have ha1 := s1 _ _ ha
    refine compL_big (SqL.of hw1) (by rw [hA.len]; omega) (fun i ys σ H' => ∃ v1 v2 v3 ps, σ = [v1, v2, v3] ∧ Same H1 H' ∧ ys = ps.map (fun q : PQ => V.ref q.1) ∧ ps.map (fun q : PQ => q.2.2) = (cs.take i).map (fun c => (kP2 c.1 c.2.1, V.bl true)) ∧ ∀ q ∈ ps, H' q.1 = some (.tup [.ref q.2.1, q.2.2.2]) ∧ H' q.2.1 = some (.tup (q.2.2.1.map kV))) ⟨_, _, _, [], rfl, .refl _, rfl, rfl, fun q hq => (by cases hq)⟩ (fun i ys σ H' hi ⟨_, _, _, ps, _, e, e2, e3, _⟩ => ⟨SqL.of (e _ _ hw1), by
      rw [e2, List.length_map]
      have := congrArg List.length e3
      rw [List.length_map, List.length_map, List.length_take] at this
      omega⟩) ?_ ?_
    · rintro i ys x σ H' hi hx ⟨v1, v2, v3, ps, rfl, s2, rfl, e3, hps⟩
      rw [hA.len] at hi
      obtain ⟨⟨p1, q1, b1⟩, hc⟩ : ∃ c, cs[i]? = some c := ⟨_, List.getElem?_eq_getElem hi⟩
      obtain ⟨t, ht1, ht2⟩ := hA1.get i p1 q1 b1 hc
      rw [hx] at ht1
      cases ht1
      refine gTup_of (SqT.of (s2 _ _ ht2)) rfl ?_
      walk_at "rd"
      refine ⟨le_line (by decide), fun k1 hk1 => ?_⟩
      obtain ⟨HA, eA, sA, hkA⟩ := newH hk1 (.tup [.int p1, .int q1])
      rw [eA]; clear eA
      refine ⟨le_line (by decide), fun k2 hk2 => ?_⟩
      obtain ⟨HB, eB, sB, hkB⟩ := newH hk2 (.tup [.ref k1, .bl true])
      rw [eB]; clear eB
      refine Nxt.of (by rw [hA.len]; exact hi) ⟨_, _, _, ps ++ [(k2, k1, kP2 p1 q1, .bl true)], rfl, s2.trans (sA.trans sB), by rw [List.map_append]; rfl, by rw [List.map_append, e3, take_snoc hc, List.map_append]; rfl, fun q hq => ?_⟩
      rcases List.mem_append.mp hq with z | z
      · exact ⟨sB _ _ (sA _ _ (hps q z).1), sB _ _ (sA _ _ (hps q z).2)⟩
      · rw [List.mem_singleton.mp z]; exact ⟨hkB, sB _ _ hkA⟩
    rintro ys σ H2 ⟨v1, v2, v3, ps, rfl, s2, rfl, e3, hps⟩ l hl0
    obtain ⟨H3, e4, s3, h3⟩ := newH hl0 (.lst (ps.map fun q : PQ => V.ref q.1))
    rw [e4]; clear e4
    rw [hA.len, List.take_of_length_le (Nat.le_refl _)] at e3
    refine ⟨l, ps, rfl, h3, fun q hq => ⟨s3 _ _ (hps q hq).1, s3 _ _ (hps q hq).2⟩, fun d hd => ?_⟩
    obtain ⟨H4, e4, s4, h4⟩ := newH hd (.dT (putAll [] ps))
    rw [e4]; clear e4
    have S4 : Same H H4 := s1.trans (s2.trans (s3.trans s4))
    have ha4 := S4 _ _ ha
    have hval : ∀ x y : Nat, (valV (putAll [] ps) (kP2 (max x y) (min x y))).isSome = askB cs x y := fun x y => by
      rw [valV_putAll, valV_nil, Option.isSome_none, Bool.false_or]
      have e5 : ps.any (fun q => decide (q.2.2.1 = kP2 (max x y) (min x y))) = (ps.map fun q : PQ => q.2.2).any (fun c => decide (c.1 = kP2 (max x y) (min x y))) := by rw [List.any_map]; rfl
      rw [e5, e3, List.any_map]
      rfl
    walk_at "rd"
    refine slL_of (SqL.of ha4) fun sl hsl => ?_
    rw [cutV_tail]
    obtain ⟨H5, e5, s5, h5⟩ := newH hsl (.lst ((NL p).drop 1))
    rw [e5]; clear e5
    refine compZ_of (SqL.of (s5 _ _ ha4)) (SqL.of h5) (by rw [NL_len]; omega) (fun i ys σ H' => ∃ v1, σ = [v1, some (.ref d)] ∧ Same H5 H' ∧ ys = ((List.range i).map fun j => askB cs (Pap.at' p j) (Pap.at' p (j + 1))).map V.bl) ⟨_, rfl, .refl _, rfl⟩ (fun i ys σ H' hi ⟨_, _, e, e2⟩ => ⟨SqL.of (e _ _ (s5 _ _ ha4)), SqL.of (e _ _ h5), by rw [e2, List.length_map, List.length_map, List.length_range]; exact Nat.le_refl _⟩) ?_ ?_
    · rintro i ys x y σ H' pp hi hx hy ⟨v1, rfl, s6, rfl⟩ hpp
      rw [List.length_drop, NL_len] at hi
      obtain ⟨hi1, rfl⟩ := NL_get hx
      rw [List.getElem?_drop, Nat.add_comm] at hy
      obtain ⟨hi2, rfl⟩ := NL_get hy
      obtain ⟨H7, e7, s7, h7⟩ := newH hpp (.tup [.int (Pap.at' p i), .int (Pap.at' p (i + 1))])
      rw [e7]; clear e7
      walk_at "rd"
      generalize hxx : Pap.at' p i = x at h7 ⊢
      generalize hyy : Pap.at' p (i + 1) = y at h7 ⊢
      refine ⟨pp, [(x : Int), (y : Int)], rfl, SqT.of h7, by simp, fun M hM hM2 => ⟨pp, [(x : Int), (y : Int)], rfl, SqT.of h7, by simp, fun m hm hm2 => ⟨le_line (by decide), fun t ht => ?_⟩⟩⟩
      have a1 := hM2 x List.mem_cons_self
      have a2 := hM2 y (List.mem_cons_of_mem _ List.mem_cons_self)
      have a3 := hm2 x List.mem_cons_self
      have a4 := hm2 y (List.mem_cons_of_mem _ List.mem_cons_self)
      have eM : M = ((max x y : Nat) : Int) := by
        rcases List.mem_cons.mp hM with z | z
        · omega
        · have := List.mem_singleton.mp z; omega
      have em : m = ((min x y : Nat) : Int) := by
        rcases List.mem_cons.mp hm with z | z
        · omega
        · have := List.mem_singleton.mp z; omega
      subst eM em
      refine ⟨d, _, rfl, DGet.t (k := kP2 (max x y) (min x y)) (same_new ht _ _ _ (s7 _ _ (s6 _ _ (s5 _ _ h4)))) upd_same, ?_⟩
      rw [hval]
      refine Nxt.of (by rw [NL_len, List.length_drop, NL_len]; exact hi) ⟨_, rfl, (s6.trans s7).new ht, ?_⟩
      rw [List.range_succ, List.map_append, List.map_append]
      show _ = _ ++ [V.bl (askB cs (Pap.at' p i) (Pap.at' p (i + 1)))]
      rw [hxx, hyy]
    rintro ys σ H6 ⟨v1, rfl, s6, rfl⟩ r hr0
    refine ⟨r, _, rfl, SqL.of upd_same, ?_⟩
    rw [List.length_drop, NL_len, Nat.min_eq_right (by omega)]
    exact q _ (S4.trans (s5.trans (s6.new hr0)))
  · rw [if_pos (by simpa using hag)]
    rw [show agB p cs = false by simpa using hag, Bool.false_and] at q
    exact q _ s1
theorem ok_cell_at {f : Addr} {fd : FuncData} (F : Fun K "_law_cell_at" "_law_cell_at" s_cell_at f fd) (T : Bt K mg)
    : FnOk P w K mg base CX0 1 f fd ["_law_script", "_law_k"] (spCell K) := by
  refine F.ok sc_cell_at (fun vs H Q E h => ?_) (fun cdv A outer s H vs Q E hr h => ?_)
  · obtain ⟨a, ns, k, rfl, hS, h0, q⟩ := h
    rfl
  obtain ⟨a, ns, k, rfl, hS, h0, q⟩ := h
  refine ⟨_, (pss_cons (ps_if (pt_cmpR op_lt (pv 1) (pe_callB call_len_seq rfl T.b_len PySem.boot_len (pa_cons (pv 0) pa_nil)) (nomark _))
      (pss_one (ps_ret (pe_ix ix_list (pv 0) (pv 1) (fun _ _ => rfl)))) pss_nil)
    (pss_one (ps_ret pe_int))), ?_⟩
  walk_at "rd"
  refine ⟨a, _, rfl, .inl hS, ?_⟩
  walk_at "rd"
  rw [List.length_map]
  unfold cellOf at q
  split
  · rename_i hk
    rw [if_pos hk] at q
    have hk' : k.toNat < ns.length := by omega
    refine ixL_of hS (atI_ints h0 (List.getElem?_eq_getElem hk')) ?_
    rw [List.getElem?_eq_getElem hk'] at q
    exact q
  · rename_i hk
    rw [if_neg hk] at q
    exact q
theorem ok_paper_by {f : Addr} {fd : FuncData} (F : Fun K "_law_paper_by" "_law_paper_by" s_paper_by f fd) (T : Bt K mg)
    : FnOk P w K mg base CX0 1 f fd ["_law_cell", "_law_many"] (spPaper24) := by
  refine F.ok sc_paper_by (fun vs H Q E h => ?_) (fun cdv A outer s H vs Q E hr h => ?_)
  · obtain ⟨c, n, rfl, hn, q⟩ := h
    rfl
  obtain ⟨c, n, rfl, hn, q⟩ := h
  refine ⟨_, (pss_cons (ps_set (i := 2) sc_paper_by.nd rfl (by first | exact Or.inl rfl | exact Or.inr rfl) (pe_lst pa_nil))
    (pss_cons (ps_set (i := 3) sc_paper_by.nd rfl (by first | exact Or.inl rfl | exact Or.inr rfl) (pe_op op_add (pe_op op_mod (pv 0) pe_int) pe_int))
    (pss_cons (ps_for PassesOwn.never rfl (pi_range1 rfl T.b_range (pa_cons (pv 1) pa_nil)) (pg_name (i := 4) sc_paper_by.nd rfl (by first | exact Or.inl rfl | exact Or.inr rfl))
      (pss_cons (ps_set (i := 3) sc_paper_by.nd rfl (by first | exact Or.inl rfl | exact Or.inr rfl) (pe_op op_mod (pe_op op_add (pe_op op_add (pe_op op_add (pe_op op_mul (pv 3) (pv 3)) (pe_op op_mul pe_int (pv 3))) (pe_op op_mul pe_int (pv 4))) pe_int) pe_int))
      (pss_one (ps_expr (pe_bm PySem.F.plainAttrs_list PySem.F.slot_list_insert PySem.F.type_list_insert mt_insert (pv 2) (pa_cons (pe_op op_mod (pv 3) (pe_op op_add (pv 4) pe_int)) (pa_cons (pv 4) pa_nil)))))))
    (pss_one (ps_ret (pv 2)))))), ?_⟩
  walk_at "rd"
  refine ⟨Nat.zero_le _, fun l hl => ⟨by decide, ?_⟩⟩
  have c0 := Int.emod_nonneg c (show (2147483629 : Int) ≠ 0 by decide)
  have c1 := Int.emod_lt_of_pos c (show (0 : Int) < 2147483629 by decide)
  obtain ⟨z0, ez⟩ : ∃ z0, c % 2147483629 + 48271 = z0 := ⟨_, rfl⟩
  rw [ez]
  refine forR1_of (by omega) (forR_of (fun i σ H' => ∃ (z : Int) (v4 : Option V) (p : List Nat), σ = [some (.int c), some (.int n), some (.ref l), some (.int z), v4] ∧ (0 ≤ z ∧ z < 4000000000) ∧ H' l = some (.lst (NL p)) ∧ Pap.IsP p ∧ p.length = i ∧ Same H H') ⟨z0, _, [], rfl, by omega, upd_same, Pap.IsP.range 0, rfl, same_new hl _⟩ ?_ ?_)
  · rintro i σ H' hi ⟨z, v4, p, rfl, hz, h2, hp, hpl, hs⟩
    walk_at "rd"
    rw [Int.zero_add]
    have y0 := Int.emod_nonneg (z * z + 48271 * z + 7 * (i : Int) + 1) (show (2147483629 : Int) ≠ 0 by decide)
    have y1 := Int.emod_lt_of_pos (z * z + 48271 * z + 7 * (i : Int) + 1) (show (0 : Int) < 2147483629 by decide)
    generalize (z * z + 48271 * z + 7 * (i : Int) + 1) % 2147483629 = z2 at *
    refine ⟨.inl ⟨by omega, by omega⟩, .inl ⟨by decide, by decide⟩, .inl ⟨by decide, by decide⟩, by decide, .inl ⟨rfl, _, SqL.of h2⟩, by omega, ?_⟩
    have w0 := Int.emod_nonneg z2 (show ((i : Int) + 1) ≠ 0 by omega)
    have w1 := Int.emod_lt_of_pos z2 (show 0 < (i : Int) + 1 by omega)
    generalize z2 % ((i : Int) + 1) = y at w0 w1 ⊢
    refine ⟨l, _, y, _, rfl, rfl, h2, by rw [NL_len]; exact small1000 (by omega), by omega, ?_⟩
    refine ⟨z2, _, _, rfl, by omega, ?_, hp.ins y.toNat, ?_, hs.upd hl⟩
    · rw [upd_same, show (i : Int) = ((p.length : Nat) : Int) by omega, insV_NL w0 (by omega)]
    · rw [List.length_append, List.length_cons, List.length_take, List.length_drop]; omega
  rintro σ H' ⟨z, v4, p, rfl, hz, h2, hp, hpl, hs⟩
  walk_at "rd"
  exact q l _ p hs hl h2 hp (by omega)
theorem ok_reserve {f : Addr} {fd : FuncData} (F : Fun K "_law_reserve" "_law_reserve" s_reserve f fd) (T : Bt K mg)
    : FnOk P w K mg base CX0 1 f fd ["_law_cell", "_law_k"] (spReserve) := by
  refine F.ok sc_reserve (fun vs H Q E h => ?_) (fun cdv A outer s H vs Q E hr h => ?_)
  · obtain ⟨c, k, rfl, hk0, hk1, q⟩ := h
    rfl
  obtain ⟨c, k, rfl, hk0, hk1, q⟩ := h
  refine ⟨_, (pss_cons (ps_set (i := 2) sc_reserve.nd rfl (by first | exact Or.inl rfl | exact Or.inr rfl) (pe_op op_mod (pe_op op_add (pe_op op_mod (pv 0) pe_int) (pe_op op_mul pe_int (pe_op op_add (pv 1) pe_int))) pe_int))
    (pss_one (ps_ret (pe_op op_add pe_int (pe_op op_mod (pe_op op_add (pe_op op_add (pe_op op_mul (pv 2) (pv 2)) (pe_op op_mul pe_int (pv 2))) (pe_op op_mul pe_int (pv 1))) pe_int))))), ?_⟩
  walk_at "rd"
  have c0 := Int.emod_nonneg (c % 2147483629 + 48271 * (k + 1)) (show (2147483629 : Int) ≠ 0 by decide)
  have c1 := Int.emod_lt_of_pos (c % 2147483629 + 48271 * (k + 1)) (show (0 : Int) < 2147483629 by decide)
  generalize (c % 2147483629 + 48271 * (k + 1)) % 2147483629 = z at *
  have y0 := Int.emod_nonneg (z * z + 48271 * z + 7 * k) (show (2147483629 : Int) ≠ 0 by decide)
  have y1 := Int.emod_lt_of_pos (z * z + 48271 * z + 7 * k) (show (0 : Int) < 2147483629 by decide)
  refine ⟨by decide, .inl ⟨by decide, by decide⟩, by decide, .inl ⟨by omega, by omega⟩, .inl ⟨by decide, by decide⟩, .inl ⟨by decide, by decide⟩, by decide, q _ (by omega) (by omega)⟩
theorem ok_paper_of {f : Addr} {fd : FuncData} (F : Fun K "_law_paper_of" "_law_paper_of" s_paper_of f fd) (T : Bt K mg)
    (f_reserve : Fn P w K mg base CX0 "_law_reserve" 1 ["_law_cell", "_law_k"] (spReserve))
    : FnOk P w K mg base CX0 2 f fd ["_law_cell", "_law_many"] (spPaper24) := by
  refine F.ok sc_paper_of (fun vs H Q E h => ?_) (fun cdv A outer s H vs Q E hr h => ?_)
  · obtain ⟨c, n, rfl, hn, q⟩ := h
    rfl
  obtain ⟨c, n, rfl, hn, q⟩ := h
  refine ⟨_, (pss_cons (ps_set (i := 2) sc_paper_of.nd rfl (by first | exact Or.inl rfl | exact Or.inr rfl) (pe_lst pa_nil))
    (pss_cons (ps_set (i := 3) sc_paper_of.nd rfl (by first | exact Or.inl rfl | exact Or.inr rfl) (pv 0))
    (pss_cons (ps_for PassesOwn.never rfl (pi_range1 rfl T.b_range (pa_cons (pv 1) pa_nil)) (pg_name (i := 4) sc_paper_of.nd rfl (by first | exact Or.inl rfl | exact Or.inr rfl))
      (pss_cons (ps_if (pt_cmpR op_lt (pv 0) pe_int (nomark _))
        (pss_one (ps_set (i := 0) sc_paper_of.nd rfl (by first | exact Or.inl rfl | exact Or.inr rfl) (pe_fn f_reserve (hr.mono (by decide)) rfl pass0 (pa_cons (pv 3) (pa_cons (pv 4) pa_nil))))) pss_nil)
      (pss_cut
      (pss_cons (ps_expr (pe_bm PySem.F.plainAttrs_list PySem.F.slot_list_insert PySem.F.type_list_insert mt_insert (pv 2) (pa_cons (pe_op op_mod (pv 0) (pe_op op_add (pv 4) pe_int)) (pa_cons (pv 4) pa_nil))))
      (pss_one (ps_set (i := 0) sc_paper_of.nd rfl (by first | exact Or.inl rfl | exact Or.inr rfl) (pe_op op_fdiv (pv 0) (pe_op op_add (pv 4) pe_int))))))))
    (pss_one (ps_ret (pv 2)))))), ?_⟩
  walk_at "rd"
  refine ⟨Nat.zero_le _, fun l hl => ?_⟩
  refine forR1_of (by omega) (forR_of (fun i σ H' => ∃ (z : Int) (v4 : Option V) (p : List Nat), σ = [some (.int z), some (.int n), some (.ref l), some (.int c), v4] ∧ H' l = some (.lst (NL p)) ∧ Pap.IsP p ∧ p.length = i ∧ Same H H') ⟨c, _, [], rfl, upd_same, Pap.IsP.range 0, rfl, same_new hl _⟩ ?_ ?_)
  · rintro i σ H' hi ⟨z, v4, p, rfl, h2, hp, hpl, hs⟩
    walk_at "rd"
    rw [Int.zero_add]
    apply onceS (fun z : Int => [some (.int z), some (.int n), some (.ref l), some (.int c), some (.int i)]) (fun _ => True)
    · intro tailp
      by_cases hz : z < 1
      · rw [if_pos hz]
        exact ⟨c, i, rfl, by omega, by omega, fun z2 _ _ => tailp z2 trivial⟩
      · rw [if_neg hz]
        exact tailp z trivial
    rintro z _
    refine cut_of ?_
    walk_at "rd"
    have w0 := Int.emod_nonneg z (show ((i : Int) + 1) ≠ 0 by omega)
    have w1 := Int.emod_lt_of_pos z (show 0 < (i : Int) + 1 by omega)
    refine ⟨.inl ⟨rfl, _, SqL.of h2⟩, by omega, ?_⟩
    generalize z % ((i : Int) + 1) = y at w0 w1 ⊢
    refine ⟨l, _, y, _, rfl, rfl, h2, by rw [NL_len]; exact small1000 (by omega), by omega, ?_⟩
    walk_at "rd"
    refine ⟨⟨by omega, by omega⟩, ?_⟩
    refine ⟨_, _, _, rfl, ?_, hp.ins y.toNat, ?_, hs.upd hl⟩
    · rw [upd_same, show (i : Int) = ((p.length : Nat) : Int) by omega, insV_NL w0 (by omega)]
    · rw [List.length_append, List.length_cons, List.length_take, List.length_drop]; omega
  rintro σ H' ⟨z, v4, p, rfl, h2, hp, hpl, hs⟩
  walk_at "rd"
  exact q l _ p hs hl h2 hp (by omega)
theorem ok_answers_of {f : Addr} {fd : FuncData} (F : Fun K "_law_answers_of" "_law_answers_of" s_answers_of f fd) (T : Bt K mg)
    (f_reserve : Fn P w K mg base CX0 "_law_reserve" 1 ["_law_cell", "_law_k"] (spReserve))
    : FnOk P w K mg base CX0 2 f fd ["_law_cell", "_law_many", "_law_size"] (spAnsOf) := by
  refine F.ok sc_answers_of (fun vs H Q E h => ?_) (fun cdv A outer s H vs Q E hr h => ?_)
  · obtain ⟨c, n, m, rfl, hn0, hn, hm, q⟩ := h
    rfl
  obtain ⟨c, n, m, rfl, hn0, hn, hm, q⟩ := h
  refine ⟨_, (pss_cons (ps_set (i := 3) sc_answers_of.nd rfl (by first | exact Or.inl rfl | exact Or.inr rfl) (pe_lst pa_nil))
    (pss_cons (ps_set (i := 4) sc_answers_of.nd rfl (by first | exact Or.inl rfl | exact Or.inr rfl) (pv 0))
    (pss_cons (ps_for PassesOwn.never rfl (pi_range1 rfl T.b_range (pa_cons (pv 2) pa_nil)) (pg_name (i := 5) sc_answers_of.nd rfl (by first | exact Or.inl rfl | exact Or.inr rfl))
      (pss_cons (ps_if (pt_cmpR op_lt (pv 0) pe_int (nomark _))
        (pss_one (ps_set (i := 0) sc_answers_of.nd rfl (by first | exact Or.inl rfl | exact Or.inr rfl) (pe_fn f_reserve (hr.mono (by decide)) rfl pass0 (pa_cons (pv 4) (pa_cons (pv 5) pa_nil))))) pss_nil)
      (pss_cut
      (pss_cons (ps_set (i := 6) sc_answers_of.nd rfl (by first | exact Or.inl rfl | exact Or.inr rfl) (pe_op op_mod (pv 0) (pv 1)))
      (pss_cons (ps_set (i := 7) sc_answers_of.nd rfl (by first | exact Or.inl rfl | exact Or.inr rfl) (pe_op op_mod (pe_op op_fdiv (pv 0) (pv 1)) (pv 1)))
      (pss_cut
      (pss_cons (ps_if (pt_cmpR op_ne (pv 6) (pv 7) (nomark _))
        (pss_one (ps_expr (pe_bm PySem.F.plainAttrs_list PySem.F.slot_list_append PySem.F.type_list_append mt_append (pv 3) (pa_cons (pe_tup (pa_cons (pe_callB (call_max2 rfl) rfl T.b_max PyProof.Rows.boot_max (pa_cons (pv 6) (pa_cons (pv 7) pa_nil))) (pa_cons (pe_callB (call_min2 rfl) rfl T.b_min PyProof.Rows.boot_min (pa_cons (pv 6) (pa_cons (pv 7) pa_nil))) (pa_cons (pe_cmpR op_eq (pe_op op_mod (pe_op op_fdiv (pe_op op_fdiv (pv 0) (pv 1)) (pv 1)) pe_int) pe_int (nomark _)) pa_nil)))) pa_nil)))) pss_nil)
      (pss_cut
      (pss_one (ps_set (i := 0) sc_answers_of.nd rfl (by first | exact Or.inl rfl | exact Or.inr rfl) (pe_op op_fdiv (pe_op op_fdiv (pe_op op_fdiv (pv 0) (pv 1)) (pv 1)) pe_int)))))))))))
    (pss_one (ps_ret (pv 3)))))), ?_⟩
  walk_at "rd"
  refine ⟨Nat.zero_le _, fun l hl => ?_⟩
  refine forR1_of (by omega) (forR_of (fun i σ H' => ∃ (z : Int) (v5 v6 v7 : Option V) (cs : List (Nat × Nat × Bool)) (ws : List V), σ = [some (.int z), some (.int n), some (.int m), some (.ref l), some (.int c), v5, v6, v7] ∧ H' l = some (.lst ws) ∧ Ans H' cs ws ∧ Good n cs ∧ cs.length ≤ i ∧ Same H H') ⟨c, _, _, _, [], [], rfl, upd_same, ⟨rfl, fun j p q b h => by simp at h⟩, fun c hc => (by cases hc), Nat.le_refl _, same_new hl _⟩ ?_ ?_)
  · rintro i σ H' hi ⟨z, v5, v6, v7, cs, ws, rfl, h2, hA, hG, hlen, hs⟩
    walk_at "rd"
    rw [Int.zero_add]
    apply onceS (fun z : Int => [some (.int z), some (.int n), some (.int m), some (.ref l), some (.int c), some (.int i), v6, v7]) (fun _ => True)
    · intro tailp
      by_cases hz : z < 1
      · rw [if_pos hz]
        exact ⟨c, i, rfl, by omega, by omega, fun z2 _ _ => tailp z2 trivial⟩
      · rw [if_neg hz]
        exact tailp z trivial
    rintro z _
    refine cut_of ?_
    walk_at "rd"
    refine ⟨by omega, ⟨by omega, by omega⟩, by omega, ?_⟩
    have a0 := Int.emod_nonneg z (show (n : Int) ≠ 0 by omega)
    have a1 := Int.emod_lt_of_pos z (show (0 : Int) < n by omega)
    have b0 := Int.emod_nonneg (z / n) (show (n : Int) ≠ 0 by omega)
    have b1 := Int.emod_lt_of_pos (z / n) (show (0 : Int) < n by omega)
    obtain ⟨x, ex⟩ : ∃ x : Nat, z % (n : Int) = x := ⟨(z % (n : Int)).toNat, by omega⟩
    obtain ⟨y, ey⟩ : ∃ y : Nat, z / (n : Int) % (n : Int) = y := ⟨(z / (n : Int) % (n : Int)).toNat, by omega⟩
    rw [ex, ey]
    rw [ex] at a1
    rw [ey] at b1
    clear a0 b0 ex ey
    refine cut_of ?_
    walk_at "rd"
    apply onceX (fun _ : Hp × List (Nat × Nat × Bool) × List V => [some (.int z), some (.int n), some (.int m), some (.ref l), some (.int c), some (.int i), some (.int x), some (.int y)]) (fun u => u.1) (fun u => u.1 l = some (.lst u.2.2) ∧ Ans u.1 u.2.1 u.2.2 ∧ Good n u.2.1 ∧ u.2.1.length ≤ i + 1 ∧ Same H u.1)
    · intro tailp
      by_cases hxy : x = y
      · rw [if_neg (by omega)]
        exact tailp (H', cs, ws) ⟨h2, hA, hG, Nat.le_succ_of_le hlen, hs⟩
      · rw [if_pos (by omega)]
        walk_at "rd"
        refine ⟨.inl ⟨rfl, _, SqL.of h2⟩, _, _, rfl, _, _, rfl, ⟨by omega, by omega⟩, ⟨by omega, by omega⟩, by decide, le_line (by decide), fun t ht => ?_⟩
        rw [mx24, mn24]
        obtain ⟨H4, e4, s4, h4⟩ := newH ht (.tup [.int ((max x y : Nat) : Int), .int ((min x y : Nat) : Int), .bl (decide (z / (n : Int) / (n : Int) % 2 = 1))])
        rw [e4]; clear e4
        have h24 := s4 _ _ h2
        refine ⟨l, _, _, rfl, rfl, h24, small1000 (by rw [hA.len]; omega), ?_⟩
        exact tailp (upd H4 l (.lst (ws ++ [.ref t])), cs ++ [(max x y, min x y, decide (z / (n : Int) / (n : Int) % 2 = 1))], ws ++ [.ref t]) ⟨upd_same, ((hA.keep s4).snoc h4).upd h24, hG.snoc (by omega) (by omega), by rw [List.length_append, List.length_singleton]; omega, (hs.trans s4).upd hl⟩
    rintro ⟨H3, cs3, ws3⟩ ⟨h3, hA3, hG3, hl3, hs3⟩
    dsimp only at h3 hA3 hG3 hl3 hs3 ⊢
    refine cut_of ?_
    walk_at "rd"
    exact ⟨⟨by omega, by omega⟩, ⟨by omega, by omega⟩, ⟨by decide, by decide⟩, _, _, _, _, cs3, ws3, rfl, h3, hA3, hG3, hl3, hs3⟩
  rintro σ H' ⟨z, v5, v6, v7, cs, ws, rfl, h2, hA, hG, hlen, hs⟩
  walk_at "rd"
  exact q l _ cs ws hs hl h2 hA hG (by omega)
theorem ok_turn {f : Addr} {fd : FuncData} (F : Fun K "_law_turn" "_law_turn" s_turn f fd) (T : Bt K mg)
    : FnOk P w K mg base CX0 1 f fd ["_law_paper"] (spTurn24) := by
  refine F.ok sc_turn (fun vs H Q E h => ?_) (fun cdv A outer s H vs Q E hr h => ?_)
  · obtain ⟨a, p, rfl, ha, hp, hl, q⟩ := h
    rfl
  obtain ⟨a, p, rfl, ha, hp, hl, q⟩ := h
  refine ⟨_, (pss_cons (ps_set (i := 1) sc_turn.nd rfl (by first | exact Or.inl rfl | exact Or.inr rfl) (pe_op op_rep (pe_lst (pa_cons pe_int pa_nil)) (pe_callB call_len_seq rfl T.b_len PySem.boot_len (pa_cons (pv 0) pa_nil))))
    (pss_cons (ps_for PassesOwn.never rfl (pi_range1 rfl T.b_range (pa_cons (pe_callB call_len_seq rfl T.b_len PySem.boot_len (pa_cons (pv 0) pa_nil)) pa_nil)) (pg_name (i := 2) sc_turn.nd rfl (by first | exact Or.inl rfl | exact Or.inr rfl))
      (pss_one (ps_asg (pv 2) (pg_sub (pv 1) (pe_ix ix_list (pv 0) (pv 2) (fun _ _ => rfl)) set_list))))
    (pss_one (ps_ret (pv 1))))), ?_⟩
  walk_at "rd"
  refine ⟨le_line (by decide), fun z0 hz0 => ?_⟩
  obtain ⟨H9, e9, s9, h9⟩ := newH hz0 (.lst [.int 0])
  rw [e9]; clear e9
  refine ⟨a, NL p, rfl, .inl (SqL.of (s9 _ _ ha)), ?_⟩
  rw [NL_len]
  refine ⟨z0, (p.length : Int), _, rfl, rfl, h9, by omega, by omega, le_line (by rw [List.length_singleton]; omega), fun un hun => ?_⟩
  rw [Int.toNat_natCast, rep_NL]
  obtain ⟨H10, e10, s10, h10⟩ := newH hun (.lst (NL (List.replicate p.length 0)))
  rw [e10]; clear e10
  have S10 := s9.trans s10
  have hunH := s9.free hun
  refine ⟨a, NL p, rfl, .inl (SqL.of (S10 _ _ ha)), ?_⟩
  rw [NL_len]
  refine forR1_of (by omega) (forR_of (fun i σ H' => ∃ (v2 : Option V), σ = [some (.ref a), some (.ref un), v2] ∧ H' un = some (.lst (NL (zsp p i))) ∧ Same H H') ⟨_, rfl, by rw [zsp_zero]; exact h10, S10⟩ ?_ ?_)
  · rintro i σ H' hi ⟨v2, rfl, hu, sU⟩
    have hi' : i < p.length := by omega
    have hlt := hp.at_lt hi'
    walk_at "rd"
    rw [Int.zero_add]
    refine ixL_of (SqL.of (sU _ _ ha)) (NL_ix hi' rfl) ⟨un, _, _, _, rfl, rfl, hu, ixN_of (by omega) (by rw [NL_len, zsp_len]; omega), ?_⟩
    refine ⟨_, rfl, ?_, sU.upd hunH⟩
    rw [upd_same, Int.toNat_natCast, ← zsp_step hp hi', NL, NL, List.map_set, List.map_set]
  rintro σ H' ⟨v2, rfl, hu, sU⟩
  rw [Int.toNat_natCast, zsp_end hp] at hu
  walk_at "rd"
  exact q un _ sU hunH hu
theorem ok_answer {f : Addr} {fd : FuncData} (F : Fun K "_law_answer" "_law_answer" s_answer f fd) (T : Bt K mg)
    : FnOk P w K mg base CX0 1 f fd ["_law_turn_here", "_law_one", "_law_other"] (spAnswer24) := by
  refine F.ok sc_answer (fun vs H Q E h => ?_) (fun cdv A outer s H vs Q E hr h => ?_)
  · obtain ⟨a, p, x, y, rfl, ha, hx, hy, q⟩ := h
    rfl
  obtain ⟨a, p, x, y, rfl, ha, hx, hy, q⟩ := h
  refine ⟨_, (pss_cons (ps_set (i := 3) sc_answer.nd rfl (by first | exact Or.inl rfl | exact Or.inr rfl) (pe_callB (call_max2 rfl) rfl T.b_max PyProof.Rows.boot_max (pa_cons (pv 1) (pa_cons (pv 2) pa_nil))))
    (pss_cons (ps_set (i := 4) sc_answer.nd rfl (by first | exact Or.inl rfl | exact Or.inr rfl) (pe_callB (call_min2 rfl) rfl T.b_min PyProof.Rows.boot_min (pa_cons (pv 1) (pa_cons (pv 2) pa_nil))))
    (pss_one (ps_ret (pe_tup (pa_cons (pv 3) (pa_cons (pv 4) (pa_cons (pe_cmpR op_lt (pe_ix ix_list (pv 0) (pv 3) (fun _ _ => rfl)) (pe_ix ix_list (pv 0) (pv 4) (fun _ _ => rfl)) (nomark _)) pa_nil)))))))), ?_⟩
  walk_at "rd"
  refine ⟨_, _, rfl, _, _, rfl, ?_⟩
  rw [mx24, mn24]
  walk_at "rd"
  refine ixL_of (SqL.of ha) (NL_ix (i := max x y) (by rw [Pap.bk_len]; omega) rfl) (ixL_of (SqL.of ha) (NL_ix (i := min x y) (by rw [Pap.bk_len]; omega) rfl) ?_)
  walk_at "rd"
  refine ⟨le_line (by decide), fun t ht => q t _ (same_new ht _) ht ?_⟩
  have e : decide (((Pap.at' (Pap.bk p) (max x y) : Nat) : Int) < (Pap.at' (Pap.bk p) (min x y) : Nat)) = decide (Pap.at' (Pap.bk p) (max x y) < Pap.at' (Pap.bk p) (min x y)) := by rw [decide_eq_decide]; omega
  rw [upd_same, e]
theorem ok_l_agrees {f : Addr} {fd : FuncData} (F : Fun K "_law_agrees" "_law_agrees" s_l_agrees f fd) (T : Bt K mg)
    (f_turn : Fn P w K mg base CX0 "_law_turn" 1 ["_law_paper"] (spTurn24))
    : FnOk P w K mg base CX0 2 f fd ["_law_paper", "_law_answers_here"] (spAgrees) := by
  refine F.ok sc_l_agrees (fun vs H Q E h => ?_) (fun cdv A outer s H vs Q E hr h => ?_)
  · obtain ⟨a, w, p, cs, ws, rfl, ha, hp, hl, hw, hA, hcs, hcl, q⟩ := h
    rfl
  obtain ⟨a, w, p, cs, ws, rfl, ha, hp, hl, hw, hA, hcs, hcl, q⟩ := h
  refine ⟨_, (pss_cons (ps_set (i := 2) sc_l_agrees.nd rfl (by first | exact Or.inl rfl | exact Or.inr rfl) (pe_fn f_turn (hr.mono (by decide)) rfl pass0 (pa_cons (pv 0) pa_nil)))
    (pss_cons (ps_for PassesOwn.never rfl (pi_list (pv 1)) (pg_tup (n := 3) rfl (pgs_cons (pg_name (i := 3) sc_l_agrees.nd rfl (by first | exact Or.inl rfl | exact Or.inr rfl)) (pgs_cons (pg_name (i := 4) sc_l_agrees.nd rfl (by first | exact Or.inl rfl | exact Or.inr rfl)) (pgs_cons (pg_name (i := 5) sc_l_agrees.nd rfl (by first | exact Or.inl rfl | exact Or.inr rfl)) pgs_nil))))
      (pss_one (ps_if (pt_cmpR op_ne (pe_cmpR op_lt (pe_ix ix_list (pv 2) (pv 3) (fun _ _ => rfl)) (pe_ix ix_list (pv 2) (pv 4) (fun _ _ => rfl)) (nomark _)) (pv 5) (nomark _))
        (pss_one (ps_ret pe_bl)) pss_nil)))
    (pss_one (ps_ret pe_bl)))), ?_⟩
  walk_at "rd"
  refine ⟨a, p, rfl, ha, hp, hl, fun tn H1 s1 htn0 htn => ?_⟩
  have hA1 := hA.keep s1
  walk_at "rd"
  refine forL_of (SqL.of (s1 _ _ hw)) (fun i σ X => ∃ v3 v4 v5, σ = [some (.ref a), some (.ref w), some (.ref tn), v3, v4, v5] ∧ X = H1 ∧ agB p (cs.take i) = true) ⟨_, _, _, rfl, rfl, rfl⟩ (fun i σ X _ ⟨_, _, _, _, e, _⟩ => by rw [e]; exact SqL.of (s1 _ _ hw)) ?_ ?_
  · rintro i x σ X hx ⟨v3, v4, v5, rfl, rfl, hall⟩
    have hi := (List.getElem?_eq_some_iff.mp hx).1
    rw [hA.len] at hi
    obtain ⟨⟨p1, q1, b1⟩, hc⟩ : ∃ c, cs[i]? = some c := ⟨_, List.getElem?_eq_getElem hi⟩
    obtain ⟨t, ht1, ht2⟩ := hA1.get i p1 q1 b1 hc
    rw [hx] at ht1
    cases ht1
    obtain ⟨b2, b3⟩ := hcs _ (List.mem_of_getElem? hc)
    walk_at "rd"
    refine gTup_of (SqT.of ht2) rfl ?_
    walk_at "rd"
    refine ixL_of (SqL.of htn) (NL_ix (by rw [Pap.bk_len]; exact b2) rfl) (ixL_of (SqL.of htn) (NL_ix (by rw [Pap.bk_len]; exact b3) rfl) ?_)
    walk_at "rd"
    have e := said_b (Pap.at' (Pap.bk p) p1) (Pap.at' (Pap.bk p) q1) b1
    by_cases hb : (decide (Pap.at' (Pap.bk p) p1 < Pap.at' (Pap.bk p) q1) == b1) = true
    · rw [hb] at e
      rw [if_neg (fun z => z (of_decide_eq_true e))]
      refine ⟨_, _, _, rfl, ?_⟩
      rw [take_snoc hc]
      unfold agB at hall ⊢
      rw [List.all_append, hall, List.all_cons, List.all_nil, Bool.and_true, Bool.true_and]
      exact hb
    · have hb' : (decide (Pap.at' (Pap.bk p) p1 < Pap.at' (Pap.bk p) q1) == b1) = false := by simpa using hb
      rw [hb'] at e
      rw [if_pos (of_decide_eq_false e)]
      have hf : agB p cs = false := by
        unfold agB
        rw [List.all_eq_false]
        exact ⟨_, List.mem_of_getElem? hc, by rw [hb']; decide⟩
      rw [hf] at q
      exact q _ s1
  rintro σ X ⟨v3, v4, v5, rfl, rfl, hall⟩
  rw [hA.len, List.take_of_length_le (Nat.le_refl _)] at hall
  rw [hall] at q
  walk_at "rd"
  exact q _ s1
theorem ok_says {f : Addr} {fd : FuncData} (F : Fun K "_law_says" "_law_says" s_says f fd) (T : Bt K mg)
    : FnOk P w K mg base CX0 1 f fd ["_law_found", "_law_due"] (spSays) := by
  refine F.ok sc_says (fun vs H Q E h => ?_) (fun cdv A outer s H vs Q E hr h => ?_)
  · obtain ⟨b, c, rfl, q⟩ := h
    rfl
  obtain ⟨b, c, rfl, q⟩ := h
  refine ⟨_, (pss_one (ps_ret (pe_and (pe_callB call_isinst rfl T.b_isinstance PyProof.Rows.boot_isinstance (pa_cons (pv 0) (pa_cons (pe_bty rfl T.b_bool PyProof.Rows.boot_bool) pa_nil))) (pe_one (pe_cmpR op_eq (pv 0) (pv 1) (nomark _)))))), ?_⟩
  walk_at "rd"
  refine inst_bl ?_
  walk_at "rd"
  have e : decide (b = c) = (b == c) := by cases b <;> cases c <;> rfl
  rw [e]
  exact q
theorem ok_answers {f : Addr} {fd : FuncData} (F : Fun K "_law_answers" "_law_answers" s_answers f fd) (T : Bt K mg)
    (f_turn : Fn P w K mg base CX0 "_law_turn" 1 ["_law_paper"] (spTurn24))
    (f_answer : Fn P w K mg base CX0 "_law_answer" 1 ["_law_turn_here", "_law_one", "_law_other"] (spAnswer24))
    : FnOk P w K mg base CX0 2 f fd ["_law_paper", "_law_cells", "_law_mode", "_law_out"] (spAnswers24 K) := by
  refine F.ok sc_answers (fun vs H Q E h => ?_) (fun cdv A outer s H vs Q E hr h => ?_)
  · obtain ⟨a, c, p, ns, md, ou, rfl, ha, hp, hl', hc, h63, q⟩ := h
    rfl
  obtain ⟨a, c, p, ns, md, ou, rfl, ha, hp, hl', hc, h63, q⟩ := h
  refine ⟨_, (pss_cons (ps_set (i := 4) sc_answers.nd rfl (by first | exact Or.inl rfl | exact Or.inr rfl) (pe_callB call_len_seq rfl T.b_len PySem.boot_len (pa_cons (pv 0) pa_nil)))
    (pss_cons (ps_set (i := 5) sc_answers.nd rfl (by first | exact Or.inl rfl | exact Or.inr rfl) (pe_fn f_turn (hr.mono (by decide)) rfl pass0 (pa_cons (pv 0) pa_nil)))
    (pss_cons (ps_set (i := 6) sc_answers.nd rfl (by first | exact Or.inl rfl | exact Or.inr rfl) (pe_lst pa_nil))
    (pss_cut
    (pss_cons (ps_for PassesOwn.never rfl (pi_list (pv 1)) (pg_name (i := 7) sc_answers.nd rfl (by first | exact Or.inl rfl | exact Or.inr rfl))
      (pss_one (ps_if (PW.pt (pw_and (pt_cmpR op_gt (pv 4) pe_int (nomark _)) (pw_and1 (pt_cmpR op_ne (pe_op op_mod (pv 7) (pv 4)) (pe_op op_mod (pe_op op_fdiv (pv 7) (pv 4)) (pv 4)) (nomark _)))))
        (pss_cons (ps_set (i := 8) sc_answers.nd rfl (by first | exact Or.inl rfl | exact Or.inr rfl) (pe_fn f_answer (hr.mono (by decide)) rfl pass0 (pa_cons (pv 5) (pa_cons (pe_op op_mod (pv 7) (pv 4)) (pa_cons (pe_op op_mod (pe_op op_fdiv (pv 7) (pv 4)) (pv 4)) pa_nil)))))
        (pss_cons (ps_if (PW.pt (pw_and (pt_cmpR op_eq (pv 2) pe_int (nomark _)) (pw_and1 (pt_cmpR op_eq (pe_op op_mod (pe_op op_add (pe_op op_fdiv (pe_op op_fdiv (pv 7) (pv 4)) (pv 4)) (pe_callB call_len_seq rfl T.b_len PySem.boot_len (pa_cons (pv 6) pa_nil))) pe_int) pe_int (nomark _)))))
          (pss_one (ps_set (i := 8) sc_answers.nd rfl (by first | exact Or.inl rfl | exact Or.inr rfl) (pe_tup (pa_cons (pe_ix ix_tup (pv 8) pe_int (fun _ _ => rfl)) (pa_cons (pe_ix ix_tup (pv 8) pe_int (fun _ _ => rfl)) (pa_cons (pe_not (pe_ix ix_tup (pv 8) pe_int (fun _ _ => rfl))) pa_nil)))))) pss_nil)
        (pss_one (ps_expr (pe_bm PySem.F.plainAttrs_list PySem.F.slot_list_append PySem.F.type_list_append mt_append (pv 6) (pa_cons (pv 8) pa_nil)))))) pss_nil)))
    (pss_cut
    (pss_cons (ps_if (pt_cmpR op_ge (pv 2) pe_int (nomark _))
      (pss_one (ps_for PassesOwn.never rfl (pi_range1 rfl T.b_range (pa_cons (pe_op op_sub (pv 4) pe_int) pa_nil)) (pg_name (i := 9) sc_answers.nd rfl (by first | exact Or.inl rfl | exact Or.inr rfl))
        (pss_one (ps_if (PW.pt (pw_or (pt_cmpR op_ne (pv 2) pe_int (nomark _)) (pw_or1 (pt_cmpR op_ne (pv 9) (pe_op op_mod (pv 3) (pe_op op_sub (pv 4) pe_int)) (nomark _)))))
          (pss_cons (ps_set (i := 10) sc_answers.nd rfl (by first | exact Or.inl rfl | exact Or.inr rfl) (pe_op op_mod (pe_op op_add (pe_op op_fdiv (pv 3) pe_int) (pe_op op_mul pe_int (pv 9))) (pe_op op_add (pe_callB call_len_seq rfl T.b_len PySem.boot_len (pa_cons (pv 6) pa_nil)) pe_int)))
          (pss_one (ps_expr (pe_bm PySem.F.plainAttrs_list PySem.F.slot_list_insert PySem.F.type_list_insert mt_insert (pv 6) (pa_cons (pv 10) (pa_cons (pe_fn f_answer (hr.mono (by decide)) rfl pass0 (pa_cons (pv 5) (pa_cons (pe_ix ix_list (pv 0) (pv 9) (fun _ _ => rfl)) (pa_cons (pe_ix ix_list (pv 0) (pe_op op_add (pv 9) pe_int) (fun _ _ => rfl)) pa_nil)))) pa_nil)))))) pss_nil)))) pss_nil)
    (pss_cut
    (pss_cons (ps_if (PW.pt (pw_and (pt_cmpR op_eq (pv 2) pe_int (nomark _)) (pw_and1 (pt_cmpR op_gt (pv 4) pe_int (nomark _)))))
      (pss_cons (ps_set (i := 11) sc_answers.nd rfl (by first | exact Or.inl rfl | exact Or.inr rfl) (pe_op op_mod (pv 3) (pv 4)))
      (pss_cons (ps_set (i := 8) sc_answers.nd rfl (by first | exact Or.inl rfl | exact Or.inr rfl) (pe_fn f_answer (hr.mono (by decide)) rfl pass0 (pa_cons (pv 5) (pa_cons (pv 11) (pa_cons (pe_op op_mod (pe_op op_add (pe_op op_add (pv 11) pe_int) (pe_op op_mod (pe_op op_fdiv (pv 3) (pv 4)) (pe_op op_sub (pv 4) pe_int))) (pv 4)) pa_nil)))))
      (pss_one (ps_expr (pe_bm PySem.F.plainAttrs_list PySem.F.slot_list_insert PySem.F.type_list_insert mt_insert (pv 6) (pa_cons (pe_op op_mod (pe_op op_fdiv (pv 3) pe_int) (pe_op op_add (pe_callB call_len_seq rfl T.b_len PySem.boot_len (pa_cons (pv 6) pa_nil)) pe_int)) (pa_cons (pe_tup (pa_cons (pe_ix ix_tup (pv 8) pe_int (fun _ _ => rfl)) (pa_cons (pe_ix ix_tup (pv 8) pe_int (fun _ _ => rfl)) (pa_cons (pe_not (pe_ix ix_tup (pv 8) pe_int (fun _ _ => rfl))) pa_nil)))) pa_nil))))))) pss_nil)
    (pss_cut
    (pss_one (ps_ret (pv 6))))))))))))), ?_⟩
  walk_at "rd"
  refine ⟨a, NL p, rfl, .inl (SqL.of ha), ?_⟩
  rw [NL_len]
  refine ⟨a, p, rfl, ha, hp, by omega, fun tn H1 s1 htn0 htn => ⟨Nat.zero_le _, fun l hl => ?_⟩⟩
  obtain ⟨H2, e2, s2, h2⟩ := newH hl (.lst [])
  rw [e2]; clear e2
  have S2 := s1.trans s2
  have hlH := s1.free hl
  have ntn : tn ≠ l := ne_of_none htn hl
  have up : ∀ {X : Hp}, Same H2 X → True := fun _ => trivial
  refine cut_of ?_
  walk_at "rd"
  refine forL_of (S2.seq hc) (fun i σ X => ∃ (v7 v8 : Option V) (cs : List (Nat × Nat × Bool)) (ws : List V), σ = [some (.ref a), some (.ref c), some (.int md), some (.int ou), some (.int p.length), some (.ref tn), some (.ref l), v7, v8, none, none, none] ∧ X l = some (.lst ws) ∧ Ans X cs ws ∧ Good p.length cs ∧ cs.length ≤ i ∧ Same H X ∧ X tn = some (.lst (NL (Pap.bk p)))) ⟨_, _, [], [], rfl, h2, ⟨rfl, fun j p q b h => by simp at h⟩, fun c hc => (by cases hc), Nat.le_refl _, S2, s2 _ _ htn⟩ (fun i σ X _ ⟨_, _, _, _, _, _, _, _, _, e, _⟩ => e.seq hc) ?_ ?_
  · rintro i x σ X hx ⟨v7, v8, cs, ws, rfl, h3, hA, hG, hlen, hs, htn3⟩
    obtain ⟨z, hz', rfl⟩ := get_ints hx
    have hi := (List.getElem?_eq_some_iff.mp hx).1
    rw [List.length_map] at hi
    walk_at "rd"
    by_cases hm : 1 < p.length
    · rw [if_pos (by omega)]
      have a0 := Int.emod_nonneg z (show (p.length : Int) ≠ 0 by omega)
      have a1 := Int.emod_lt_of_pos z (show (0 : Int) < p.length by omega)
      have b0 := Int.emod_nonneg (z / p.length) (show (p.length : Int) ≠ 0 by omega)
      have b1 := Int.emod_lt_of_pos (z / p.length) (show (0 : Int) < p.length by omega)
      obtain ⟨x, ex⟩ : ∃ x : Nat, z % (p.length : Int) = x := ⟨(z % (p.length : Int)).toNat, by omega⟩
      obtain ⟨y, ey⟩ : ∃ y : Nat, z / (p.length : Int) % (p.length : Int) = y := ⟨(z / (p.length : Int) % (p.length : Int)).toNat, by omega⟩
      refine ⟨by omega, ⟨by omega, by omega⟩, by omega, ?_⟩
      rw [ex, ey]
      rw [ex] at a1
      rw [ey] at b1
      by_cases hxy : x = y
      · rw [if_neg (by omega)]
        exact ⟨_, _, cs, ws, rfl, h3, hA, hG, Nat.le_succ_of_le hlen, hs, htn3⟩
      · rw [if_pos (by omega)]
        refine ⟨by omega, ⟨by omega, by omega⟩, by omega, tn, p, x, y, rfl, htn3, by omega, by omega, fun t H4 s4 ht0 ht4 => ?_⟩
        walk_at "rd"
        apply once2 (fun (t' : Addr) (X' : Hp) => Same H4 X' ∧ ∃ b', X' t' = some (.tup [.int ((max x y : Nat) : Int), .int ((min x y : Nat) : Int), .bl b']))
        · intro tailp
          by_cases h1 : md = 1
          · rw [if_pos h1]
            refine ⟨⟨by omega, by omega⟩, ⟨by omega, by omega⟩, l, _, rfl, .inl (SqL.of (s4 _ _ h3)), by decide, ?_⟩
            by_cases h7 : (z / (p.length : Int) / (p.length : Int) + (ws.length : Nat)) % 7 = 3
            · rw [if_pos h7]
              refine ixT_of (SqT.of ht4) (atI_of (by decide) rfl) (ixT_of (SqT.of ht4) (atI_of (by decide) rfl) (ixT_of (SqT.of ht4) (atI_of (by decide) rfl) ⟨_, rfl, le_line (by decide), fun t2 ht2 => ?_⟩))
              obtain ⟨H5, e5, s5, h5⟩ := newH ht2 (.tup [.int ((max x y : Nat) : Int), .int ((min x y : Nat) : Int), .bl (!decide (Pap.at' (Pap.bk p) (max x y) < Pap.at' (Pap.bk p) (min x y)))])
              rw [e5]; clear e5
              exact tailp t2 H5 ⟨s5, _, h5⟩
            · rw [if_neg h7]; exact tailp t H4 ⟨.refl _, _, ht4⟩
          · rw [if_neg h1]; exact tailp t H4 ⟨.refl _, _, ht4⟩
        rintro t' H5 ⟨s5, b', ht5⟩
        have h35 := s5 _ _ (s4 _ _ h3)
        refine ⟨.inl ⟨rfl, _, SqL.of h35⟩, l, _, _, rfl, rfl, h35, small1000 (by rw [hA.len]; omega), ?_⟩
        exact ⟨_, _, cs ++ [(max x y, min x y, b')], ws ++ [.ref t'], rfl, upd_same, (((hA.keep s4).keep s5).snoc ht5).upd h35, hG.snoc (by omega) (by omega), by rw [List.length_append, List.length_singleton]; omega, ((hs.trans s4).trans s5).upd hlH, by rw [upd_ne ntn]; exact s5 _ _ (s4 _ _ htn3)⟩
    · rw [if_neg (by omega)]
      exact ⟨_, _, cs, ws, rfl, h3, hA, hG, Nat.le_succ_of_le hlen, hs, htn3⟩
  rintro σ X ⟨v7, v8, cs, ws, rfl, h3, hA, hG, hlen, hs, htn3⟩
  rw [List.length_map] at hlen
  walk_at "rd"
  refine cut_of ?_
  walk_at "rd"
  apply onceX (fun u : Hp × List (Nat × Nat × Bool) × List V × Option V × Option V => [some (.ref a), some (.ref c), some (.int md), some (.int ou), some (.int p.length), some (.ref tn), some (.ref l), v7, v8, u.2.2.2.1, u.2.2.2.2, none]) (fun u => u.1) (fun u => u.1 l = some (.lst u.2.2.1) ∧ Ans u.1 u.2.1 u.2.2.1 ∧ Good p.length u.2.1 ∧ u.2.1.length ≤ 100 ∧ Same H u.1 ∧ u.1 tn = some (.lst (NL (Pap.bk p))))
  · intro tailp
    by_cases h2' : 2 ≤ md
    · rw [if_pos h2']
      refine forR1_of (by omega) (forR_of (fun i σ X => ∃ (v9 v10 : Option V) (cs : List (Nat × Nat × Bool)) (ws : List V), σ = [some (.ref a), some (.ref c), some (.int md), some (.int ou), some (.int p.length), some (.ref tn), some (.ref l), v7, v8, v9, v10, none] ∧ X l = some (.lst ws) ∧ Ans X cs ws ∧ Good p.length cs ∧ cs.length ≤ 63 + i ∧ Same H X ∧ X tn = some (.lst (NL (Pap.bk p)))) ⟨_, _, cs, ws, rfl, h3, hA, hG, by omega, hs, htn3⟩ ?_ ?_)
      · rintro i σ X hi ⟨v9, v10, cs, ws, rfl, h3, hA, hG, hlen, hs, htn3⟩
        walk_at "rd"
        rw [Int.zero_add]
        by_cases h3' : md = 3
        · rw [if_neg (fun z => z h3')]
          refine ⟨by omega, ?_⟩
          by_cases hk : (i : Int) = ou % ((p.length : Int) - 1)
          · rw [if_neg (fun z => z hk)]
            exact ⟨_, _, cs, ws, rfl, h3, hA, hG, by omega, hs, htn3⟩
          · rw [if_pos hk]
            have hwl := hA.len
            have hi' : i + 1 < p.length := by omega
            have m0 := Int.emod_nonneg (ou / 23 + 5 * (i : Int)) (show ((ws.length : Nat) : Int) + 1 ≠ 0 by omega)
            have m1 := Int.emod_lt_of_pos (ou / 23 + 5 * (i : Int)) (show (0 : Int) < (ws.length : Nat) + 1 by omega)
            refine ⟨⟨by decide, by decide⟩, .inl ⟨by decide, by decide⟩, l, _, rfl, .inl (SqL.of h3), by omega, .inl ⟨rfl, _, SqL.of h3⟩, ?_⟩
            generalize (ou / 23 + 5 * (i : Int)) % ((ws.length : Nat) + 1) = y at m0 m1 ⊢
            have ha3 := hs _ _ ha
            refine ixL_of (SqL.of ha3) (NL_ix (i := i) (by omega) rfl) ?_
            rw [show (i : Int) + 1 = ((i + 1 : Nat) : Int) by omega]
            refine ixL_of (SqL.of ha3) (NL_ix (i := i + 1) hi' rfl) ?_
            have n1 := hp.at_lt (show i < p.length by omega)
            have n2 := hp.at_lt hi'
            have n3 : Pap.at' p i ≠ Pap.at' p (i + 1) := fun e => by have := Pap.at_inj hp (by omega) hi' e; omega
            refine ⟨tn, p, _, _, rfl, htn3, n1, n2, fun t H4 s4 ht0 ht4 => ?_⟩
            have h34 := s4 _ _ h3
            refine ⟨l, _, y, _, rfl, rfl, h34, small1000 (by rw [hA.len]; omega), by omega, ?_⟩
            rw [insV_ans m0 (by omega)]
            have hr : y.toNat ≤ cs.length := by rw [← hA.len]; omega
            exact ⟨_, _, _, _, rfl, upd_same, ((hA.keep s4).ins ht4 y.toNat hr).upd h34, hG.ins (by omega) (by omega) _, by rw [List.length_append, List.length_cons, List.length_take, List.length_drop]; omega, (hs.trans s4).upd hlH, by rw [upd_ne ntn]; exact s4 _ _ htn3⟩
        · rw [if_pos h3']
          have hwl := hA.len
          have hi' : i + 1 < p.length := by omega
          have m0 := Int.emod_nonneg (ou / 23 + 5 * (i : Int)) (show ((ws.length : Nat) : Int) + 1 ≠ 0 by omega)
          have m1 := Int.emod_lt_of_pos (ou / 23 + 5 * (i : Int)) (show (0 : Int) < (ws.length : Nat) + 1 by omega)
          refine ⟨⟨by decide, by decide⟩, .inl ⟨by decide, by decide⟩, l, _, rfl, .inl (SqL.of h3), by omega, .inl ⟨rfl, _, SqL.of h3⟩, ?_⟩
          generalize (ou / 23 + 5 * (i : Int)) % ((ws.length : Nat) + 1) = y at m0 m1 ⊢
          have ha3 := hs _ _ ha
          refine ixL_of (SqL.of ha3) (NL_ix (i := i) (by omega) rfl) ?_
          rw [show (i : Int) + 1 = ((i + 1 : Nat) : Int) by omega]
          refine ixL_of (SqL.of ha3) (NL_ix (i := i + 1) hi' rfl) ?_
          have n1 := hp.at_lt (show i < p.length by omega)
          have n2 := hp.at_lt hi'
          have n3 : Pap.at' p i ≠ Pap.at' p (i + 1) := fun e => by have := Pap.at_inj hp (by omega) hi' e; omega
          refine ⟨tn, p, _, _, rfl, htn3, n1, n2, fun t H4 s4 ht0 ht4 => ?_⟩
          have h34 := s4 _ _ h3
          refine ⟨l, _, y, _, rfl, rfl, h34, small1000 (by rw [hA.len]; omega), by omega, ?_⟩
          rw [insV_ans m0 (by omega)]
          have hr : y.toNat ≤ cs.length := by rw [← hA.len]; omega
          exact ⟨_, _, _, _, rfl, upd_same, ((hA.keep s4).ins ht4 y.toNat hr).upd h34, hG.ins (by omega) (by omega) _, by rw [List.length_append, List.length_cons, List.length_take, List.length_drop]; omega, (hs.trans s4).upd hlH, by rw [upd_ne ntn]; exact s4 _ _ htn3⟩
      · rintro σ X ⟨v9, v10, cs, ws, rfl, h3, hA, hG, hlen, hs, htn3⟩
        walk_at "rd"
        exact tailp (X, cs, ws, v9, v10) ⟨h3, hA, hG, by show cs.length ≤ 100; omega, hs, htn3⟩
    · rw [if_neg h2']
      exact tailp (X, cs, ws, _, _) ⟨h3, hA, hG, by show cs.length ≤ 100; omega, hs, htn3⟩
  clear hA hG hlen hs htn3 h3 cs ws
  rintro ⟨X, cs, ws, v9, v10⟩ ⟨h3, hA, hG, hlen, hs, htn3⟩
  dsimp only at h3 hA hG hlen hs htn3 ⊢
  refine cut_of ?_
  walk_at "rd"
  apply onceX (fun u : Hp × List (Nat × Nat × Bool) × List V × Option V × Option V => [some (.ref a), some (.ref c), some (.int md), some (.int ou), some (.int p.length), some (.ref tn), some (.ref l), v7, u.2.2.2.1, v9, v10, u.2.2.2.2]) (fun u => u.1) (fun u => u.1 l = some (.lst u.2.2.1) ∧ Ans u.1 u.2.1 u.2.2.1 ∧ Good p.length u.2.1 ∧ u.2.1.length ≤ 101 ∧ Same H u.1)
  · intro tailp
    by_cases h4 : md = 4
    · rw [if_pos h4]
      by_cases hm : 1 < p.length
      · rw [if_pos (by omega)]
        have hwl := hA.len
        have a0 := Int.emod_nonneg ou (show (p.length : Int) ≠ 0 by omega)
        have a1 := Int.emod_lt_of_pos ou (show (0 : Int) < p.length by omega)
        have b0 := Int.emod_nonneg (ou / p.length) (show (p.length : Int) - 1 ≠ 0 by omega)
        have b1 := Int.emod_lt_of_pos (ou / p.length) (show (0 : Int) < (p.length : Int) - 1 by omega)
        refine ⟨by omega, ⟨by omega, by omega⟩, by omega, by omega, ?_⟩
        obtain ⟨x, ex⟩ : ∃ x : Nat, ou % (p.length : Int) = x := ⟨(ou % (p.length : Int)).toNat, by omega⟩
        obtain ⟨r, er⟩ : ∃ r : Nat, ou / (p.length : Int) % ((p.length : Int) - 1) = r := ⟨(ou / (p.length : Int) % ((p.length : Int) - 1)).toNat, by omega⟩
        rw [ex, er]
        rw [ex] at a1
        rw [er] at b1
        have ey : ((x : Int) + 1 + r) % (p.length : Int) = (((x + 1 + r) % p.length : Nat) : Int) := by push_cast; rfl
        rw [ey]
        have hne : (x + 1 + r) % p.length ≠ x := by
          by_cases h5 : x + 1 + r < p.length
          · rw [Nat.mod_eq_of_lt h5]; omega
          · rw [Nat.mod_eq_sub_mod (by omega), Nat.mod_eq_of_lt (by omega)]; omega
        have hlt := Nat.mod_lt (x + 1 + r) (show 0 < p.length by omega)
        generalize (x + 1 + r) % p.length = y at hne hlt ⊢
        refine ⟨tn, p, x, y, rfl, htn3, by omega, hlt, fun t H4 s4 ht0 ht4 => ?_⟩
        have h34 := s4 _ _ h3
        walk_at "rd"
        have m0 := Int.emod_nonneg (ou / 31) (show ((ws.length : Nat) : Int) + 1 ≠ 0 by omega)
        have m1 := Int.emod_lt_of_pos (ou / 31) (show (0 : Int) < (ws.length : Nat) + 1 by omega)
        refine ⟨.inl ⟨rfl, _, SqL.of h34⟩, ⟨by decide, by decide⟩, l, _, rfl, .inl (SqL.of h34), by omega, ?_⟩
        generalize ou / 31 % ((ws.length : Nat) + 1) = yy at m0 m1 ⊢
        refine ixT_of (SqT.of ht4) (atI_of (by decide) rfl) (ixT_of (SqT.of ht4) (atI_of (by decide) rfl) (ixT_of (SqT.of ht4) (atI_of (by decide) rfl) ⟨_, rfl, le_line (by decide), fun t2 ht2 => ?_⟩))
        obtain ⟨H5, e5, s5, h5⟩ := newH ht2 (.tup [.int ((max x y : Nat) : Int), .int ((min x y : Nat) : Int), .bl (!decide (Pap.at' (Pap.bk p) (max x y) < Pap.at' (Pap.bk p) (min x y)))])
        rw [e5]; clear e5
        have h35 := s5 _ _ h34
        refine ⟨l, _, yy, _, rfl, rfl, h35, small1000 (by rw [hA.len]; omega), by omega, ?_⟩
        rw [insV_ans m0 (by omega)]
        have hr' : yy.toNat ≤ cs.length := by omega
        exact tailp (_, cs.take yy.toNat ++ (max x y, min x y, !decide (Pap.at' (Pap.bk p) (max x y) < Pap.at' (Pap.bk p) (min x y))) :: cs.drop yy.toNat, _, _, _) ⟨upd_same, (((hA.keep s4).keep s5).ins h5 yy.toNat hr').upd h35, hG.ins (by omega) (by omega) _, by show (_ ++ _ :: _ : List _).length ≤ 101; rw [List.length_append, List.length_cons, List.length_take, List.length_drop]; omega, ((hs.trans s4).trans s5).upd hlH⟩
      · rw [if_neg (by omega)]
        exact tailp (X, cs, ws, _, _) ⟨h3, hA, hG, by show cs.length ≤ 101; omega, hs⟩
    · rw [if_neg h4]
      exact tailp (X, cs, ws, _, _) ⟨h3, hA, hG, by show cs.length ≤ 101; omega, hs⟩
  rintro ⟨X, cs, ws, v8', v11⟩ ⟨h3, hA, hG, hlen, hs⟩
  dsimp only at h3 hA hG hlen hs ⊢
  refine cut_of ?_
  walk_at "rd"
  exact q l X cs ws hs hlH h3 hA hG (by omega)
theorem ok_alone {f : Addr} {fd : FuncData} (F : Fun K "_law_alone" "_law_alone" s_alone f fd) (T : Bt K mg)
    (f_l_agrees : Fn P w K mg base CX0 "_law_agrees" 2 ["_law_paper", "_law_answers_here"] (spAgrees))
    : FnOk P w K mg base CX0 3 f fd ["_law_paper", "_law_answers_here"] (spAlone) := by
  refine F.ok sc_alone (fun vs H Q E h => ?_) (fun cdv A outer s H vs Q E hr h => ?_)
  · obtain ⟨a, w, p, cs, ws, rfl, ha, hp, hl, hw, hA, hcs, hcl, q⟩ := h
    rfl
  obtain ⟨a, w, p, cs, ws, rfl, ha, hp, hl, hw, hA, hcs, hcl, q⟩ := h
  refine ⟨_, (pss_cons (ps_for PassesOwn.never rfl (pi_range1 rfl T.b_range (pa_cons (pe_op op_sub (pe_callB call_len_seq rfl T.b_len PySem.boot_len (pa_cons (pv 0) pa_nil)) pe_int) pa_nil)) (pg_name (i := 2) sc_alone.nd rfl (by first | exact Or.inl rfl | exact Or.inr rfl))
      (pss_one (ps_if (pt_val (pe_fn f_l_agrees (hr.mono (by decide)) rfl pass0 (pa_cons (pe_op op_cat (pe_op op_cat (pe_slice sl_list (pv 0) po_none (po_some (pv 2))) (pe_lst (pa_cons (pe_ix ix_list (pv 0) (pe_op op_add (pv 2) pe_int) (fun _ _ => rfl)) (pa_cons (pe_ix ix_list (pv 0) (pv 2) (fun _ _ => rfl)) pa_nil)))) (pe_slice sl_list (pv 0) (po_some (pe_op op_add (pv 2) pe_int)) po_none)) (pa_cons (pv 1) pa_nil))))
        (pss_one (ps_ret pe_bl)) pss_nil)))
    (pss_one (ps_ret pe_bl))), ?_⟩
  walk_at "rd"
  refine ⟨a, _, rfl, .inl (SqL.of ha), ?_⟩
  rw [NL_len]
  refine forR1_of (by omega) (forR_of (fun i σ H' => ∃ v2, σ = [some (.ref a), some (.ref w), v2] ∧ Same H H' ∧ ∀ j, j < i → agB (swp p j) cs = false) ⟨_, rfl, .refl _, fun j hj => by omega⟩ ?_ ?_)
  · rintro i σ H' hi ⟨v2, rfl, hs, hno⟩
    walk_at "rd"
    rw [Int.zero_add]
    have hi' : i + 1 < p.length := by omega
    have ha1 := hs _ _ ha
    refine slL_of (SqL.of ha1) fun s1 hs1 => ?_
    rw [cutV_to (by rw [NL_len]; omega)]
    obtain ⟨H1, e1, t1, h1⟩ := newH hs1 (.lst ((NL p).take i))
    rw [e1]; clear e1
    have ha2 := t1 _ _ ha1
    rw [show (i : Int) + 1 = ((i + 1 : Nat) : Int) by omega]
    refine ixL_of (SqL.of ha2) (NL_ix (i := i + 1) hi' rfl) (ixL_of (SqL.of ha2) (NL_ix (i := i) (by omega) rfl) ?_)
    refine ⟨le_line (by decide), fun s2 hs2 => ?_⟩
    obtain ⟨H2, e2, t2, h2⟩ := newH hs2 (.lst (NL [Pap.at' p (i + 1), Pap.at' p i]))
    rw [show [V.int (Pap.at' p (i + 1)), V.int (Pap.at' p i)] = NL [Pap.at' p (i + 1), Pap.at' p i] from rfl, e2]; clear e2
    refine ⟨s1, s2, _, _, rfl, rfl, t2 _ _ h1, h2, le_line (by rw [List.length_take, NL_len, NL_len]; simp only [List.length_cons, List.length_nil]; omega), fun s3 hs3 => ?_⟩
    rw [show (NL p).take i ++ NL [Pap.at' p (i + 1), Pap.at' p i] = NL (p.take i ++ [Pap.at' p (i + 1), Pap.at' p i]) by unfold NL; rw [List.map_append, List.map_append, List.map_take, List.map_take]]
    obtain ⟨H3, e3, t3, h3⟩ := newH hs3 (.lst (NL (p.take i ++ [Pap.at' p (i + 1), Pap.at' p i])))
    rw [e3]; clear e3
    have ha3 := t3 _ _ (t2 _ _ ha2)
    refine slL_of (SqL.of ha3) fun s4 hs4 => ?_
    rw [show (i : Int) + 2 = ((i + 2 : Nat) : Int) by omega, cutV_from (by rw [NL_len]; omega)]
    obtain ⟨H4, e4, t4, h4⟩ := newH hs4 (.lst ((NL p).drop (i + 2)))
    rw [e4]; clear e4
    refine ⟨s3, s4, _, _, rfl, rfl, t4 _ _ h3, h4, le_line (by rw [List.length_drop, NL_len, NL_len, List.length_append, List.length_take]; simp only [List.length_cons, List.length_nil]; omega), fun s5 hs5 => ?_⟩
    rw [show NL (p.take i ++ [Pap.at' p (i + 1), Pap.at' p i]) ++ (NL p).drop (i + 2) = NL (swp p i) by unfold NL swp; simp only [List.map_append, List.map_drop]]
    obtain ⟨H5, e5, t5, h5⟩ := newH hs5 (.lst (NL (swp p i)))
    rw [e5]; clear e5
    have S5 : Same H H5 := hs.trans (t1.trans (t2.trans (t3.trans (t4.trans t5))))
    refine ⟨s5, w, swp p i, cs, ws, rfl, h5, swp_isP hp hi', by rw [swp_len hi']; exact hl, S5 _ _ hw, hA.keep S5, fun c hc => by have := hcs c hc; rw [swp_len hi']; omega, hcl, fun H6 t6 => ⟨_, rfl, ?_⟩⟩
    have S6 := S5.trans t6
    by_cases hb : agB (swp p i) cs = true
    · rw [if_pos hb]
      have e : alB p cs = false := by
        unfold alB
        rw [List.all_eq_false]
        exact ⟨i, List.mem_range.mpr (by omega), by rw [hb]; decide⟩
      rw [e] at q
      exact q _ S6
    · rw [if_neg hb]
      refine ⟨_, rfl, S6, fun j hj => ?_⟩
      by_cases e : j = i
      · rw [e]; simpa using hb
      · exact hno j (by omega)
  rintro σ H' ⟨v2, rfl, hs, hno⟩
  walk_at "rd"
  have e : alB p cs = true := by
    unfold alB
    rw [List.all_eq_true]
    intro k hk
    have := List.mem_range.mp hk
    rw [hno k (by omega)]; rfl
  rw [e] at q
  exact q _ hs
theorem ok_law {f : Addr} {fd : FuncData} (F : Fun K "law" "law" s_law f fd) (T : Bt K mg)
    (f_paper_by : Fn P w K mg base CX0 "_law_paper_by" 1 ["_law_cell", "_law_many"] (spPaper24))
    (f_answers : Fn P w K mg base CX0 "_law_answers" 2 ["_law_paper", "_law_cells", "_law_mode", "_law_out"] (spAnswers24 K))
    (f_l_agrees : Fn P w K mg base CX0 "_law_agrees" 2 ["_law_paper", "_law_answers_here"] (spAgrees))
    (f_cell_at : Fn P w K mg base CX0 "_law_cell_at" 1 ["_law_script", "_law_k"] (spCell K))
    (f_paper_of : Fn P w K mg base CX0 "_law_paper_of" 2 ["_law_cell", "_law_many"] (spPaper24))
    (f_answers_of : Fn P w K mg base CX0 "_law_answers_of" 2 ["_law_cell", "_law_many", "_law_size"] (spAnsOf))
    (f_alone : Fn P w K mg base CX0 "_law_alone" 3 ["_law_paper", "_law_answers_here"] (spAlone))
    (f_says : Fn P w K mg base CX0 "_law_says" 1 ["_law_found", "_law_due"] (spSays))
    (f_agrees : Fn P w K mg base CX0 "agrees" 5 ["paper", "answers"] (spAgrees))
    (f_shows : Fn P w K mg base CX0 "shows" 6 ["paper", "answers"] (spShows))
    : FnOk P w K mg base CX0 7 f fd ["_law_script"] (spLaw K) := by
  refine F.ok sc_law (fun vs H Q E h => ?_) (fun cdv A outer s H vs Q E hr h => ?_)
  · obtain ⟨a, ns, rfl, hS, h63, q⟩ := h
    rfl
  obtain ⟨a, ns, rfl, hS, h63, q⟩ := h
  refine ⟨_, (pss_cons (ps_set (i := 1) sc_law.nd rfl (by first | exact Or.inl rfl | exact Or.inr rfl) (pe_op op_mod (pe_fn f_cell_at (hr.mono (by decide)) rfl pass0 (pa_cons (pv 0) (pa_cons pe_int pa_nil))) pe_int))
    (pss_cons (ps_set (i := 2) sc_law.nd rfl (by first | exact Or.inl rfl | exact Or.inr rfl) (pe_fn f_paper_by (hr.mono (by decide)) rfl pass0 (pa_cons (pe_fn f_cell_at (hr.mono (by decide)) rfl pass0 (pa_cons (pv 0) (pa_cons pe_int pa_nil))) (pa_cons (pv 1) pa_nil))))
    (pss_cons (ps_set (i := 3) sc_law.nd rfl (by first | exact Or.inl rfl | exact Or.inr rfl) (pe_fn f_answers (hr.mono (by decide)) rfl pass0 (pa_cons (pv 2) (pa_cons (pe_slice sl_list (pv 0) (po_some pe_int) (po_some pe_int)) (pa_cons (pe_op op_mod (pe_fn f_cell_at (hr.mono (by decide)) rfl pass0 (pa_cons (pv 0) (pa_cons pe_int pa_nil))) pe_int) (pa_cons (pe_fn f_cell_at (hr.mono (by decide)) rfl pass0 (pa_cons (pv 0) (pa_cons pe_int pa_nil))) pa_nil))))))
    (pss_cut
    (pss_cons (ps_if (PW.pt (pw_and (pt_cmpR op_eq (pe_op op_mod (pe_fn f_cell_at (hr.mono (by decide)) rfl pass0 (pa_cons (pv 0) (pa_cons pe_int pa_nil))) pe_int) pe_int (nomark _)) (pw_and1 (pt_cmpR op_gt (pv 1) pe_int (nomark _)))))
      (pss_cons (ps_set (i := 2) sc_law.nd rfl (by first | exact Or.inl rfl | exact Or.inr rfl) (pe_fn f_paper_of (hr.mono (by decide)) rfl pass0 (pa_cons (pe_op op_fdiv (pe_fn f_cell_at (hr.mono (by decide)) rfl pass0 (pa_cons (pv 0) (pa_cons pe_int pa_nil))) pe_int) (pa_cons (pv 1) pa_nil))))
      (pss_one (ps_set (i := 3) sc_law.nd rfl (by first | exact Or.inl rfl | exact Or.inr rfl) (pe_fn f_answers_of (hr.mono (by decide)) rfl pass0 (pa_cons (pe_fn f_cell_at (hr.mono (by decide)) rfl pass0 (pa_cons (pv 0) (pa_cons pe_int pa_nil))) (pa_cons (pv 1) (pa_cons (pe_op op_mod (pe_op op_fdiv (pe_fn f_cell_at (hr.mono (by decide)) rfl pass0 (pa_cons (pv 0) (pa_cons pe_int pa_nil))) pe_int) pe_int) pa_nil))))))) pss_nil)
    (pss_cut
    (pss_cons (ps_set (i := 4) sc_law.nd rfl (by first | exact Or.inl rfl | exact Or.inr rfl) (pe_callTy call_list_of rfl T.b_list PyProof.Rows.boot_list (pa_cons (pv 2) pa_nil)))
    (pss_cons (ps_set (i := 5) sc_law.nd rfl (by first | exact Or.inl rfl | exact Or.inr rfl) (pe_callTy call_list_of rfl T.b_list PyProof.Rows.boot_list (pa_cons (pv 3) pa_nil)))
    (pss_cons (ps_set (i := 6) sc_law.nd rfl (by first | exact Or.inl rfl | exact Or.inr rfl) (pe_fn f_l_agrees (hr.mono (by decide)) rfl pass0 (pa_cons (pv 2) (pa_cons (pv 3) pa_nil))))
    (pss_cons (ps_set (i := 7) sc_law.nd rfl (by first | exact Or.inl rfl | exact Or.inr rfl) (pe_and (pv 6) (pe_one (pe_fn f_alone (hr.mono (by decide)) rfl pass0 (pa_cons (pv 2) (pa_cons (pv 3) pa_nil))))))
    (pss_cut
    (pss_cons (ps_if (PW.pt (pw_or (pt_not (pt_val (pe_fn f_says (hr.mono (by decide)) rfl pass0 (pa_cons (pe_fn f_agrees (hr.mono (by decide)) rfl pass0 (pa_cons (pv 4) (pa_cons (pv 5) pa_nil))) (pa_cons (pv 6) pa_nil))))) (pw_or1 (pt_not (pt_val (pe_fn f_says (hr.mono (by decide)) rfl pass0 (pa_cons (pe_fn f_shows (hr.mono (by decide)) rfl pass0 (pa_cons (pv 4) (pa_cons (pv 5) pa_nil))) (pa_cons (pv 7) pa_nil))))))))
      (pss_one (ps_ret pe_bl)) pss_nil)
    (pss_cut
    (pss_cons (ps_set (i := 8) sc_law.nd rfl (by first | exact Or.inl rfl | exact Or.inr rfl) (pe_fn f_paper_by (hr.mono (by decide)) rfl pass0 (pa_cons (pe_op op_fdiv (pe_fn f_cell_at (hr.mono (by decide)) rfl pass0 (pa_cons (pv 0) (pa_cons pe_int pa_nil))) pe_int) (pa_cons (pv 1) pa_nil))))
    (pss_cut
    (pss_cons (ps_if (pt_not (pt_val (pe_fn f_says (hr.mono (by decide)) rfl pass0 (pa_cons (pe_fn f_agrees (hr.mono (by decide)) rfl pass0 (pa_cons (pv 8) (pa_cons (pv 5) pa_nil))) (pa_cons (pe_fn f_l_agrees (hr.mono (by decide)) rfl pass0 (pa_cons (pv 8) (pa_cons (pv 3) pa_nil))) pa_nil)))))
      (pss_one (ps_ret pe_bl)) pss_nil)
    (pss_cut
    (pss_cons (ps_if (PW.pt (pw_and (pt_val (pv 7)) (pw_and (pt_val (pe_fn f_agrees (hr.mono (by decide)) rfl pass0 (pa_cons (pv 8) (pa_cons (pv 5) pa_nil)))) (pw_and1 (pt_cmpR (op_neD hr.units) (pv 8) (pv 2) (nomark _))))))
      (pss_one (ps_ret pe_bl)) pss_nil)
    (pss_cut
    (pss_cons (ps_expr (pe_bm0 PySem.F.plainAttrs_list PySem.F.slot_list_reverse PySem.F.type_list_reverse mt_reverse (pv 5)))
    (pss_cut
    (pss_cons (ps_if (PW.pt (pw_or (pt_not (pt_val (pe_fn f_says (hr.mono (by decide)) rfl pass0 (pa_cons (pe_fn f_shows (hr.mono (by decide)) rfl pass0 (pa_cons (pv 4) (pa_cons (pv 5) pa_nil))) (pa_cons (pv 7) pa_nil))))) (pw_or1 (pt_not (pt_val (pe_fn f_says (hr.mono (by decide)) rfl pass0 (pa_cons (pe_fn f_shows (hr.mono (by decide)) rfl pass0 (pa_cons (pv 4) (pa_cons (pe_lst pa_nil) pa_nil))) (pa_cons (pe_cmpR op_lt (pv 1) pe_int (nomark _)) pa_nil))))))))
      (pss_one (ps_ret pe_bl)) pss_nil)
    (pss_cut
    (pss_one (ps_ret (pe_and (pe_cmpR (op_eqD hr.units) (pv 4) (pv 2) (nomark _)) (pe_one (pe_cmpR (op_eqD hr.units) (pv 5) (pe_list_rev rfl rfl T.b_list rfl T.b_reversed (pa_cons (pv 3) pa_nil)) (nomark _))))))))))))))))))))))))))))), ?_⟩
  walk_at "rd"
  refine ⟨a, ns, 0, rfl, hS, by decide, ?_⟩
  have c0 := Int.emod_nonneg (cellOf ns 0) (show (25 : Int) ≠ 0 by decide)
  have c1 := Int.emod_lt_of_pos (cellOf ns 0) (show (0 : Int) < 25 by decide)
  obtain ⟨n, en⟩ : ∃ n : Nat, cellOf ns 0 % 25 = n := ⟨(cellOf ns 0 % 25).toNat, by omega⟩
  walk_at "rd"
  rw [en] at c0 c1 ⊢
  refine ⟨by decide, a, ns, 1, rfl, hS, by decide, ?_⟩
  refine ⟨_, n, rfl, by omega, fun pa H1 p s1 hpa0 hpa hp hpn => ?_⟩
  have hS1 := s1.seq hS
  refine slL_of hS1 fun sl hsl => ?_
  rw [cutV_ints]
  have hml : ((ns.drop (HT.sIx ns.length 0 (some 4))).take (HT.sIx ns.length ns.length (some 64) - HT.sIx ns.length 0 (some 4))).length ≤ 63 := by
    rw [List.length_take, List.length_drop]
    omega
  generalize (ns.drop (HT.sIx ns.length 0 (some 4))).take (HT.sIx ns.length ns.length (some 64) - HT.sIx ns.length 0 (some 4)) = ms at hml ⊢
  obtain ⟨H2, e2, s2, h2⟩ := newH hsl (.lst (ms.map V.int))
  rw [e2]; clear e2
  have hS2 := s2.seq hS1
  refine ⟨a, ns, 2, rfl, hS2, by decide, ?_⟩
  walk_at "rd"
  refine ⟨by decide, a, ns, 3, rfl, hS2, by decide, ?_⟩
  refine ⟨pa, sl, p, ms, _, _, rfl, s2 _ _ hpa, hp, by omega, SqL.of h2, hml, fun aw H3 cs ws s3 haw0 haw hA hG hcl => ?_⟩
  have hS3 := s3.seq hS2
  refine cut_of ?_
  walk_at "rd"
  apply onceX (fun u : Addr × Addr × Hp × List Nat × List (Nat × Nat × Bool) × List V => [some (.ref a), some (.int n), some (.ref u.1), some (.ref u.2.1), none, none, none, none, none]) (fun u => u.2.2.1) (fun u => u.2.2.1 u.1 = some (.lst (NL u.2.2.2.1)) ∧ Pap.IsP u.2.2.2.1 ∧ u.2.2.2.1.length = n ∧ u.2.2.1 u.2.1 = some (.lst u.2.2.2.2.2) ∧ Ans u.2.2.1 u.2.2.2.2.1 u.2.2.2.2.2 ∧ Good n u.2.2.2.2.1 ∧ u.2.2.2.2.1.length ≤ 200 ∧ SqL K u.2.2.1 a (ns.map V.int))
  · intro tailp
    refine ⟨a, ns, 1, rfl, hS3, by decide, ?_⟩
    walk_at "rd"
    refine ⟨by decide, ?_⟩
    rw [hpn] at hG
    by_cases ho : cellOf ns 1 % 2 = 1
    · rw [if_pos ho]
      by_cases hn0 : 0 < (n : Int)
      · rw [if_pos hn0]
        refine ⟨a, ns, 1, rfl, hS3, by decide, ?_⟩
        walk_at "rd"
        refine ⟨⟨by decide, by decide⟩, _, n, rfl, by omega, fun pa2 H4 p2 s4 hpa20 hpa2 hp2 hpn2 => ?_⟩
        have hS4 := s4.seq hS3
        refine ⟨a, ns, 3, rfl, hS4, by decide, ?_⟩
        refine ⟨a, ns, 2, rfl, hS4, by decide, ?_⟩
        walk_at "rd"
        have m0 := Int.emod_nonneg (cellOf ns 2 / 5) (show (61 : Int) ≠ 0 by decide)
        have m1 := Int.emod_lt_of_pos (cellOf ns 2 / 5) (show (0 : Int) < 61 by decide)
        refine ⟨⟨by decide, by decide⟩, by decide, ?_⟩
        obtain ⟨m, em⟩ : ∃ m : Nat, cellOf ns 2 / 5 % 61 = m := ⟨(cellOf ns 2 / 5 % 61).toNat, by omega⟩
        rw [em]
        refine ⟨_, n, m, rfl, by omega, by omega, by omega, fun aw2 H5 cs2 ws2 s5 haw20 haw2 hA2 hG2 hcl2 => ?_⟩
        exact tailp (pa2, aw2, H5, p2, cs2, ws2) ⟨s5 _ _ hpa2, hp2, hpn2, haw2, hA2, hG2, by dsimp only; omega, s5.seq hS4⟩
      · rw [if_neg hn0]
        exact tailp (pa, aw, H3, p, cs, ws) ⟨s3 _ _ (s2 _ _ hpa), hp, hpn, haw, hA, hG, hcl, hS3⟩
    · rw [if_neg ho]
      exact tailp (pa, aw, H3, p, cs, ws) ⟨s3 _ _ (s2 _ _ hpa), hp, hpn, haw, hA, hG, hcl, hS3⟩
  clear hpa hp hpn haw hA hG hcl hS hS1 hS2 hS3 s1 s2 s3 hpa0 haw0 h2 hsl hml en
  rintro ⟨pa, aw, X, p, cs, ws⟩ ⟨hpa, hp, hpn, haw, hA, hG, hcl, hS⟩
  dsimp only at hpa hp hpn haw hA hG hcl hS ⊢
  refine cut_of ?_
  walk_at "rd"
  have hG0 := hG
  rw [← hpn] at hG
  have hB : ∀ c ∈ cs, c.1 < p.length ∧ c.2.1 < p.length := fun c hc => by have := hG c hc; omega
  refine ⟨pa, _, rfl, .inl (SqL.of hpa), fun hd hhd => ?_⟩
  obtain ⟨H1, e1, t1, h1⟩ := newH hhd (.lst (NL p))
  rw [e1]; clear e1
  refine ⟨aw, _, rfl, .inl (SqL.of (t1 _ _ haw)), fun td htd => ?_⟩
  obtain ⟨H2, e2, t2, h2⟩ := newH htd (.lst ws)
  rw [e2]; clear e2
  have S2 := t1.trans t2
  refine ⟨pa, aw, p, cs, ws, rfl, S2 _ _ hpa, hp, by omega, S2 _ _ haw, hA.keep S2, hB, by omega, fun H3 t3 => ?_⟩
  have S3 := S2.trans t3
  apply onceX (fun _ : Hp => [some (.ref a), some (.int n), some (.ref pa), some (.ref aw), some (.ref hd), some (.ref td), some (.bl (agB p cs)), some (.bl (agB p cs && shB p cs)), none]) (fun Y => Y) (fun Y => Same H3 Y)
  · intro tailp
    refine ⟨_, rfl, ?_⟩
    by_cases hag : agB p cs = true
    · rw [if_pos hag]
      refine ⟨pa, aw, p, cs, ws, rfl, S3 _ _ hpa, hp, by omega, S3 _ _ haw, hA.keep S3, hG, by omega, fun H4 t4 => ?_⟩
      have e2 : alB p cs = (agB p cs && shB p cs) := by rw [hag, Bool.true_and, al_sh hp hG hag]
      rw [e2]
      exact tailp H4 t4
    · rw [if_neg hag]
      have tp := tailp H3 (.refl _)
      rw [show (agB p cs && shB p cs) = false by rw [show agB p cs = false by simpa using hag]; rfl] at tp
      exact tp
  rintro H4 t4
  have S4 := S3.trans t4
  have hA4 := hA.keep S4
  have h14 := t4 _ _ (t3 _ _ (t2 _ _ h1))
  have h24 := t4 _ _ (t3 _ _ h2)
  refine cut_of ?_
  walk_at "rd"
  refine ⟨hd, td, p, cs, ws, rfl, h14, hp, by omega, h24, hA4, hB, by omega, fun H5 t5 => ⟨_, _, rfl, ?_⟩⟩
  rw [beq_self_eq_true]
  refine ⟨_, rfl, ?_⟩
  rw [if_neg (by decide)]
  refine ⟨hd, td, p, cs, ws, rfl, t5 _ _ h14, hp, by omega, t5 _ _ h24, hA4.keep t5, hB, by omega, fun H6 t6 => ⟨_, _, rfl, ?_⟩⟩
  rw [beq_self_eq_true]
  refine ⟨_, rfl, ?_⟩
  rw [if_neg (by decide)]
  have T6 := t5.trans t6
  have S6 := S4.trans T6
  refine cut_of ?_
  walk_at "rd"
  refine ⟨a, ns, 2, rfl, S6.seq hS, by decide, ?_⟩
  walk_at "rd"
  refine ⟨⟨by decide, by decide⟩, _, n, rfl, by omega, fun oa H7 o t7 hoa0 hoa ho hon => ?_⟩
  have S7 := S6.trans t7
  have hA7 := hA.keep S7
  have h17 := t7 _ _ (T6 _ _ h14)
  have h27 := t7 _ _ (T6 _ _ h24)
  have hBo : ∀ c ∈ cs, c.1 < o.length ∧ c.2.1 < o.length := fun c hc => by have := hB c hc; omega
  refine cut_of ?_
  walk_at "rd"
  refine ⟨oa, td, o, cs, ws, rfl, hoa, ho, by omega, h27, hA7, hBo, by omega, fun H8 t8 => ?_⟩
  refine ⟨oa, aw, o, cs, ws, rfl, t8 _ _ hoa, ho, by omega, t8 _ _ (S7 _ _ haw), hA7.keep t8, hBo, by omega, fun H9 t9 => ⟨_, _, rfl, ?_⟩⟩
  rw [beq_self_eq_true]
  refine ⟨_, rfl, ?_⟩
  rw [if_neg (by decide)]
  have T9 := t8.trans t9
  have S9 := S7.trans T9
  refine cut_of ?_
  walk_at "rd"
  apply onceX (fun _ : Hp => [some (.ref a), some (.int n), some (.ref pa), some (.ref aw), some (.ref hd), some (.ref td), some (.bl (agB p cs)), some (.bl (agB p cs && shB p cs)), some (.ref oa)]) (fun Y => Y) (fun Y => Same H9 Y)
  · intro tailp
    by_cases hag : (agB p cs && shB p cs) = true
    · rw [if_pos hag]
      refine ⟨oa, td, o, cs, ws, rfl, T9 _ _ hoa, ho, by omega, T9 _ _ h27, hA7.keep T9, hBo, by omega, fun H10 t10 => ⟨_, rfl, ?_⟩⟩
      by_cases hb : agB o cs = true
      · rw [if_pos hb]
        obtain ⟨g1, g2⟩ := Bool.and_eq_true_iff.mp hag
        have eo : o = p := one_paper hp ho (by omega) g1 g2 hb
        refine neD_of Enc.int.list (by decide) (a := o.map fun (x : Nat) => (x : Int)) (b := p.map fun (x : Nat) => (x : Int)) (dp_ints (SqL.of (t10 _ _ (T9 _ _ hoa)))) (dp_ints (SqL.of (t10 _ _ (S9 _ _ hpa)))) ⟨_, rfl, ?_⟩
        rw [if_neg (by rw [eo]; simp)]
        exact tailp H10 t10
      · rw [if_neg hb]
        exact tailp H10 t10
    · rw [if_neg hag]
      exact tailp H9 (.refl _)
  rintro H10 t10
  have S10 := S9.trans t10
  have T10 := T9.trans t10
  have h110 := T10 _ _ h17
  have h210 := T10 _ _ h27
  have hA10 := hA7.keep T10
  have npa : pa ≠ td := ne_of_none (t1 _ _ hpa) htd
  have naw : aw ≠ td := ne_of_none (t1 _ _ haw) htd
  have nhd : hd ≠ td := ne_of_none h1 htd
  have hpa10 := S10 _ _ hpa
  have haw10 := S10 _ _ haw
  refine cut_of ?_
  walk_at "rd"
  refine ⟨.inl ⟨rfl, _, SqL.of h210⟩, td, ws, rfl, rfl, h210, ?_⟩
  have hA11 := (hA10.rev).upd (us' := ws.reverse) h210
  obtain ⟨H11, e11⟩ : ∃ Y, upd H10 td (.lst ws.reverse) = Y := ⟨_, rfl⟩
  have h111 : H11 hd = some (.lst (NL p)) := by rw [← e11, upd_ne nhd]; exact h110
  have h211 : H11 td = some (.lst ws.reverse) := by rw [← e11, upd_same]
  have hpa11 : H11 pa = some (.lst (NL p)) := by rw [← e11, upd_ne npa]; exact hpa10
  have haw11 : H11 aw = some (.lst ws) := by rw [← e11, upd_ne naw]; exact haw10
  rw [e11] at hA11 ⊢
  have hBr : ∀ c ∈ cs.reverse, c.1 < p.length ∧ c.2.1 < p.length := fun c hc => hB c (List.mem_reverse.mp hc)
  refine cut_of ?_
  walk_at "rd"
  refine ⟨hd, td, p, cs.reverse, ws.reverse, rfl, h111, hp, by omega, h211, hA11, hBr, by rw [List.length_reverse]; omega, fun H12 t12 => ⟨_, _, rfl, ?_⟩⟩
  rw [ag_rev, sh_rev, beq_self_eq_true]
  refine ⟨_, rfl, ?_⟩
  rw [if_neg (by decide)]
  refine ⟨Nat.zero_le _, fun el hel => ?_⟩
  obtain ⟨H13, e13, t13, h13⟩ := newH hel (.lst [])
  rw [e13]; clear e13
  refine ⟨hd, el, p, [], [], rfl, t13 _ _ (t12 _ _ h111), hp, by omega, h13, ⟨rfl, fun j p q b h => by simp at h⟩, fun c hc => (by cases hc), Nat.zero_le _, fun H14 t14 => ?_⟩
  have T14 := t12.trans (t13.trans t14)
  refine ⟨_, _, rfl, ?_⟩
  have ee : (agB p [] && shB p []) = decide ((n : Int) < 2) := by
    rw [show agB p [] = true from rfl, Bool.true_and, sh_nil, decide_eq_decide]; omega
  rw [ee, beq_self_eq_true]
  refine ⟨_, rfl, ?_⟩
  rw [if_neg (by decide)]
  refine cut_of ?_
  walk_at "rd"
  refine eqD_of Enc.int.list (by decide) (a := p.map fun (x : Nat) => (x : Int)) (b := p.map fun (x : Nat) => (x : Int)) (dp_ints (SqL.of (T14 _ _ h111))) (dp_ints (SqL.of (T14 _ _ hpa11))) ⟨_, rfl, ?_⟩
  rw [if_pos (by simp)]
  refine ⟨aw, ws, rfl, SqL.of (T14 _ _ haw11), fun r hr15 => ?_⟩
  obtain ⟨H15, e15, t15, h15⟩ := newH hr15 (.lst ws.reverse)
  rw [e15]; clear e15
  have hA15 := (hA11.keep T14).keep t15
  exact eqD_refl (d := .list (cs.reverse.map paD)) (dp_lst (SqL.of (t15 _ _ (T14 _ _ h211))) hA15.dp) (dp_lst (SqL.of h15) hA15.dp) (by unfold PyData.canLay0; exact pa_lay _) (by unfold PyData.depth; have := pa_dep cs.reverse; omega) (q _)
end
theorem all_mk {l : PySem.W.OpenLaw} {w : World} {K : PySem.W.Frag} {h : Heap} {mg : Str → Option Value} {fa f_straight f_is_number f_is_paper f_check_paper f_back f_agrees f_shows f_cell_at f_paper_by f_reserve f_paper_of f_answers_of f_turn f_answer f_l_agrees f_says f_answers f_alone f_law : Addr} (X : K.In h) (G : h.Ns mainGlobals mg) (hfa : mg "law" = some (.ref fa))
    {od_straight an_straight : Option Addr} {sl_straight : Array (Option Value)} {oc_straight kV_straight dc_straight pm_straight cd_straight ct_straight : Value}
    {od_is_number an_is_number : Option Addr} {sl_is_number : Array (Option Value)} {oc_is_number kV_is_number dc_is_number pm_is_number cd_is_number ct_is_number : Value}
    {od_is_paper an_is_paper : Option Addr} {sl_is_paper : Array (Option Value)} {oc_is_paper kV_is_paper dc_is_paper pm_is_paper cd_is_paper ct_is_paper : Value}
    {od_check_paper an_check_paper : Option Addr} {sl_check_paper : Array (Option Value)} {oc_check_paper kV_check_paper dc_check_paper pm_check_paper cd_check_paper ct_check_paper : Value}
    {od_back an_back : Option Addr} {sl_back : Array (Option Value)} {oc_back kV_back dc_back pm_back cd_back ct_back : Value}
    {od_agrees an_agrees : Option Addr} {sl_agrees : Array (Option Value)} {oc_agrees kV_agrees dc_agrees pm_agrees cd_agrees ct_agrees : Value}
    {od_shows an_shows : Option Addr} {sl_shows : Array (Option Value)} {oc_shows kV_shows dc_shows pm_shows cd_shows ct_shows : Value}
    {od_cell_at an_cell_at : Option Addr} {sl_cell_at : Array (Option Value)} {oc_cell_at kV_cell_at dc_cell_at pm_cell_at cd_cell_at ct_cell_at : Value}
    {od_paper_by an_paper_by : Option Addr} {sl_paper_by : Array (Option Value)} {oc_paper_by kV_paper_by dc_paper_by pm_paper_by cd_paper_by ct_paper_by : Value}
    {od_reserve an_reserve : Option Addr} {sl_reserve : Array (Option Value)} {oc_reserve kV_reserve dc_reserve pm_reserve cd_reserve ct_reserve : Value}
    {od_paper_of an_paper_of : Option Addr} {sl_paper_of : Array (Option Value)} {oc_paper_of kV_paper_of dc_paper_of pm_paper_of cd_paper_of ct_paper_of : Value}
    {od_answers_of an_answers_of : Option Addr} {sl_answers_of : Array (Option Value)} {oc_answers_of kV_answers_of dc_answers_of pm_answers_of cd_answers_of ct_answers_of : Value}
    {od_turn an_turn : Option Addr} {sl_turn : Array (Option Value)} {oc_turn kV_turn dc_turn pm_turn cd_turn ct_turn : Value}
    {od_answer an_answer : Option Addr} {sl_answer : Array (Option Value)} {oc_answer kV_answer dc_answer pm_answer cd_answer ct_answer : Value}
    {od_l_agrees an_l_agrees : Option Addr} {sl_l_agrees : Array (Option Value)} {oc_l_agrees kV_l_agrees dc_l_agrees pm_l_agrees cd_l_agrees ct_l_agrees : Value}
    {od_says an_says : Option Addr} {sl_says : Array (Option Value)} {oc_says kV_says dc_says pm_says cd_says ct_says : Value}
    {od_answers an_answers : Option Addr} {sl_answers : Array (Option Value)} {oc_answers kV_answers dc_answers pm_answers cd_answers ct_answers : Value}
    {od_alone an_alone : Option Addr} {sl_alone : Array (Option Value)} {oc_alone kV_alone dc_alone pm_alone cd_alone ct_alone : Value}
    {od_law an_law : Option Addr} {sl_law : Array (Option Value)} {oc_law kV_law dc_law pm_law cd_law ct_law : Value}
    (a_straight : PySem.W.nsIn K mainGlobals "straight" = some (some (.ref f_straight)))
    (l_straight : K.lookup f_straight = some ⟨oc_straight, od_straight, .func (PySem.W.fnOf "straight" "straight" (defArgs s_straight) (defBody s_straight) (defScope s_straight) .none kV_straight dc_straight pm_straight an_straight cd_straight ct_straight), sl_straight⟩)
    (c_straight : PySem.W.codeIn K cd_straight "straight" = true)
    (k_straight : PySem.W.keepIn K (.ref f_straight) = true)
    (a_is_number : PySem.W.nsIn K mainGlobals "is_number" = some (some (.ref f_is_number)))
    (l_is_number : K.lookup f_is_number = some ⟨oc_is_number, od_is_number, .func (PySem.W.fnOf "is_number" "is_number" (defArgs s_is_number) (defBody s_is_number) (defScope s_is_number) .none kV_is_number dc_is_number pm_is_number an_is_number cd_is_number ct_is_number), sl_is_number⟩)
    (c_is_number : PySem.W.codeIn K cd_is_number "is_number" = true)
    (k_is_number : PySem.W.keepIn K (.ref f_is_number) = true)
    (a_is_paper : PySem.W.nsIn K mainGlobals "is_paper" = some (some (.ref f_is_paper)))
    (l_is_paper : K.lookup f_is_paper = some ⟨oc_is_paper, od_is_paper, .func (PySem.W.fnOf "is_paper" "is_paper" (defArgs s_is_paper) (defBody s_is_paper) (defScope s_is_paper) .none kV_is_paper dc_is_paper pm_is_paper an_is_paper cd_is_paper ct_is_paper), sl_is_paper⟩)
    (c_is_paper : PySem.W.codeIn K cd_is_paper "is_paper" = true)
    (k_is_paper : PySem.W.keepIn K (.ref f_is_paper) = true)
    (a_check_paper : PySem.W.nsIn K mainGlobals "check_paper" = some (some (.ref f_check_paper)))
    (l_check_paper : K.lookup f_check_paper = some ⟨oc_check_paper, od_check_paper, .func (PySem.W.fnOf "check_paper" "check_paper" (defArgs s_check_paper) (defBody s_check_paper) (defScope s_check_paper) .none kV_check_paper dc_check_paper pm_check_paper an_check_paper cd_check_paper ct_check_paper), sl_check_paper⟩)
    (c_check_paper : PySem.W.codeIn K cd_check_paper "check_paper" = true)
    (k_check_paper : PySem.W.keepIn K (.ref f_check_paper) = true)
    (a_back : PySem.W.nsIn K mainGlobals "back" = some (some (.ref f_back)))
    (l_back : K.lookup f_back = some ⟨oc_back, od_back, .func (PySem.W.fnOf "back" "back" (defArgs s_back) (defBody s_back) (defScope s_back) .none kV_back dc_back pm_back an_back cd_back ct_back), sl_back⟩)
    (c_back : PySem.W.codeIn K cd_back "back" = true)
    (k_back : PySem.W.keepIn K (.ref f_back) = true)
    (a_agrees : PySem.W.nsIn K mainGlobals "agrees" = some (some (.ref f_agrees)))
    (l_agrees : K.lookup f_agrees = some ⟨oc_agrees, od_agrees, .func (PySem.W.fnOf "agrees" "agrees" (defArgs s_agrees) (defBody s_agrees) (defScope s_agrees) .none kV_agrees dc_agrees pm_agrees an_agrees cd_agrees ct_agrees), sl_agrees⟩)
    (c_agrees : PySem.W.codeIn K cd_agrees "agrees" = true)
    (k_agrees : PySem.W.keepIn K (.ref f_agrees) = true)
    (a_shows : PySem.W.nsIn K mainGlobals "shows" = some (some (.ref f_shows)))
    (l_shows : K.lookup f_shows = some ⟨oc_shows, od_shows, .func (PySem.W.fnOf "shows" "shows" (defArgs s_shows) (defBody s_shows) (defScope s_shows) .none kV_shows dc_shows pm_shows an_shows cd_shows ct_shows), sl_shows⟩)
    (c_shows : PySem.W.codeIn K cd_shows "shows" = true)
    (k_shows : PySem.W.keepIn K (.ref f_shows) = true)
    (a_cell_at : PySem.W.nsIn K mainGlobals "_law_cell_at" = some (some (.ref f_cell_at)))
    (l_cell_at : K.lookup f_cell_at = some ⟨oc_cell_at, od_cell_at, .func (PySem.W.fnOf "_law_cell_at" "_law_cell_at" (defArgs s_cell_at) (defBody s_cell_at) (defScope s_cell_at) .none kV_cell_at dc_cell_at pm_cell_at an_cell_at cd_cell_at ct_cell_at), sl_cell_at⟩)
    (c_cell_at : PySem.W.codeIn K cd_cell_at "_law_cell_at" = true)
    (k_cell_at : PySem.W.keepIn K (.ref f_cell_at) = true)
    (a_paper_by : PySem.W.nsIn K mainGlobals "_law_paper_by" = some (some (.ref f_paper_by)))
    (l_paper_by : K.lookup f_paper_by = some ⟨oc_paper_by, od_paper_by, .func (PySem.W.fnOf "_law_paper_by" "_law_paper_by" (defArgs s_paper_by) (defBody s_paper_by) (defScope s_paper_by) .none kV_paper_by dc_paper_by pm_paper_by an_paper_by cd_paper_by ct_paper_by), sl_paper_by⟩)
    (c_paper_by : PySem.W.codeIn K cd_paper_by "_law_paper_by" = true)
    (k_paper_by : PySem.W.keepIn K (.ref f_paper_by) = true)
    (a_reserve : PySem.W.nsIn K mainGlobals "_law_reserve" = some (some (.ref f_reserve)))
    (l_reserve : K.lookup f_reserve = some ⟨oc_reserve, od_reserve, .func (PySem.W.fnOf "_law_reserve" "_law_reserve" (defArgs s_reserve) (defBody s_reserve) (defScope s_reserve) .none kV_reserve dc_reserve pm_reserve an_reserve cd_reserve ct_reserve), sl_reserve⟩)
    (c_reserve : PySem.W.codeIn K cd_reserve "_law_reserve" = true)
    (k_reserve : PySem.W.keepIn K (.ref f_reserve) = true)
    (a_paper_of : PySem.W.nsIn K mainGlobals "_law_paper_of" = some (some (.ref f_paper_of)))
    (l_paper_of : K.lookup f_paper_of = some ⟨oc_paper_of, od_paper_of, .func (PySem.W.fnOf "_law_paper_of" "_law_paper_of" (defArgs s_paper_of) (defBody s_paper_of) (defScope s_paper_of) .none kV_paper_of dc_paper_of pm_paper_of an_paper_of cd_paper_of ct_paper_of), sl_paper_of⟩)
    (c_paper_of : PySem.W.codeIn K cd_paper_of "_law_paper_of" = true)
    (k_paper_of : PySem.W.keepIn K (.ref f_paper_of) = true)
    (a_answers_of : PySem.W.nsIn K mainGlobals "_law_answers_of" = some (some (.ref f_answers_of)))
    (l_answers_of : K.lookup f_answers_of = some ⟨oc_answers_of, od_answers_of, .func (PySem.W.fnOf "_law_answers_of" "_law_answers_of" (defArgs s_answers_of) (defBody s_answers_of) (defScope s_answers_of) .none kV_answers_of dc_answers_of pm_answers_of an_answers_of cd_answers_of ct_answers_of), sl_answers_of⟩)
    (c_answers_of : PySem.W.codeIn K cd_answers_of "_law_answers_of" = true)
    (k_answers_of : PySem.W.keepIn K (.ref f_answers_of) = true)
    (a_turn : PySem.W.nsIn K mainGlobals "_law_turn" = some (some (.ref f_turn)))
    (l_turn : K.lookup f_turn = some ⟨oc_turn, od_turn, .func (PySem.W.fnOf "_law_turn" "_law_turn" (defArgs s_turn) (defBody s_turn) (defScope s_turn) .none kV_turn dc_turn pm_turn an_turn cd_turn ct_turn), sl_turn⟩)
    (c_turn : PySem.W.codeIn K cd_turn "_law_turn" = true)
    (k_turn : PySem.W.keepIn K (.ref f_turn) = true)
    (a_answer : PySem.W.nsIn K mainGlobals "_law_answer" = some (some (.ref f_answer)))
    (l_answer : K.lookup f_answer = some ⟨oc_answer, od_answer, .func (PySem.W.fnOf "_law_answer" "_law_answer" (defArgs s_answer) (defBody s_answer) (defScope s_answer) .none kV_answer dc_answer pm_answer an_answer cd_answer ct_answer), sl_answer⟩)
    (c_answer : PySem.W.codeIn K cd_answer "_law_answer" = true)
    (k_answer : PySem.W.keepIn K (.ref f_answer) = true)
    (a_l_agrees : PySem.W.nsIn K mainGlobals "_law_agrees" = some (some (.ref f_l_agrees)))
    (l_l_agrees : K.lookup f_l_agrees = some ⟨oc_l_agrees, od_l_agrees, .func (PySem.W.fnOf "_law_agrees" "_law_agrees" (defArgs s_l_agrees) (defBody s_l_agrees) (defScope s_l_agrees) .none kV_l_agrees dc_l_agrees pm_l_agrees an_l_agrees cd_l_agrees ct_l_agrees), sl_l_agrees⟩)
    (c_l_agrees : PySem.W.codeIn K cd_l_agrees "_law_agrees" = true)
    (k_l_agrees : PySem.W.keepIn K (.ref f_l_agrees) = true)
    (a_says : PySem.W.nsIn K mainGlobals "_law_says" = some (some (.ref f_says)))
    (l_says : K.lookup f_says = some ⟨oc_says, od_says, .func (PySem.W.fnOf "_law_says" "_law_says" (defArgs s_says) (defBody s_says) (defScope s_says) .none kV_says dc_says pm_says an_says cd_says ct_says), sl_says⟩)
    (c_says : PySem.W.codeIn K cd_says "_law_says" = true)
    (k_says : PySem.W.keepIn K (.ref f_says) = true)
    (a_answers : PySem.W.nsIn K mainGlobals "_law_answers" = some (some (.ref f_answers)))
    (l_answers : K.lookup f_answers = some ⟨oc_answers, od_answers, .func (PySem.W.fnOf "_law_answers" "_law_answers" (defArgs s_answers) (defBody s_answers) (defScope s_answers) .none kV_answers dc_answers pm_answers an_answers cd_answers ct_answers), sl_answers⟩)
    (c_answers : PySem.W.codeIn K cd_answers "_law_answers" = true)
    (k_answers : PySem.W.keepIn K (.ref f_answers) = true)
    (a_alone : PySem.W.nsIn K mainGlobals "_law_alone" = some (some (.ref f_alone)))
    (l_alone : K.lookup f_alone = some ⟨oc_alone, od_alone, .func (PySem.W.fnOf "_law_alone" "_law_alone" (defArgs s_alone) (defBody s_alone) (defScope s_alone) .none kV_alone dc_alone pm_alone an_alone cd_alone ct_alone), sl_alone⟩)
    (c_alone : PySem.W.codeIn K cd_alone "_law_alone" = true)
    (k_alone : PySem.W.keepIn K (.ref f_alone) = true)
    (a_law : PySem.W.nsIn K mainGlobals "law" = some (some (.ref f_law)))
    (l_law : K.lookup f_law = some ⟨oc_law, od_law, .func (PySem.W.fnOf "law" "law" (defArgs s_law) (defBody s_law) (defScope s_law) .none kV_law dc_law pm_law an_law cd_law ct_law), sl_law⟩)
    (c_law : PySem.W.codeIn K cd_law "law" = true)
    (k_law : PySem.W.keepIn K (.ref f_law) = true)
    (z_len : PySem.W.nsIn K mainGlobals "len" = some none)
    (z_range : PySem.W.nsIn K mainGlobals "range" = some none)
    (z_list : PySem.W.nsIn K mainGlobals "list" = some none)
    (z_isinstance : PySem.W.nsIn K mainGlobals "isinstance" = some none)
    (z_bool : PySem.W.nsIn K mainGlobals "bool" = some none)
    (z_int : PySem.W.nsIn K mainGlobals "int" = some none)
    (z_max : PySem.W.nsIn K mainGlobals "max" = some none)
    (z_min : PySem.W.nsIn K mainGlobals "min" = some none)
    (z_all : PySem.W.nsIn K mainGlobals "all" = some none)
    (z_sorted : PySem.W.nsIn K mainGlobals "sorted" = some none)
    (z_reversed : PySem.W.nsIn K mainGlobals "reversed" = some none)
    (z_enumerate : PySem.W.nsIn K mainGlobals "enumerate" = some none)
    (z_zip : PySem.W.nsIn K mainGlobals "zip" = some none)
    (z_dict : PySem.W.nsIn K mainGlobals "dict" = some none)
    (z_ValueError : PySem.W.nsIn K mainGlobals "ValueError" = some none)
    (kit_int_bool : PySem.W.kitOne K (.type "int") (.type "bool") = some false) :
    ∃ fd : FuncData, (∀ (s : Shared) (v : Value), BindsTo s fd ⟨[v], []⟩ [("_law_script", v)]) ∧ ∀ base : Heap, K.In base → base.Ns mainGlobals mg → FnOk l.prog w K mg base CX0 7 fa fd ["_law_script"] (spLaw K) := by
  have e := hfa.symm.trans (PySem.W.mg_of X G a_law)
  cases e
  have F_straight := fun_mk (st := s_straight) l_straight c_straight k_straight
  have b_straight := F_straight.binds (ps := ["many"]) fun _ _ _ _ _ _ us hl => by obtain ⟨_, rfl⟩ := us1 hl; rfl
  have F_is_number := fun_mk (st := s_is_number) l_is_number c_is_number k_is_number
  have b_is_number := F_is_number.binds (ps := ["some"]) fun _ _ _ _ _ _ us hl => by obtain ⟨_, rfl⟩ := us1 hl; rfl
  have F_is_paper := fun_mk (st := s_is_paper) l_is_paper c_is_paper k_is_paper
  have b_is_paper := F_is_paper.binds (ps := ["some"]) fun _ _ _ _ _ _ us hl => by obtain ⟨_, rfl⟩ := us1 hl; rfl
  have F_check_paper := fun_mk (st := s_check_paper) l_check_paper c_check_paper k_check_paper
  have b_check_paper := F_check_paper.binds (ps := ["some", "many"]) fun _ _ _ _ _ _ us hl => by obtain ⟨_, _, rfl⟩ := us2 hl; rfl
  have F_back := fun_mk (st := s_back) l_back c_back k_back
  have b_back := F_back.binds (ps := ["paper"]) fun _ _ _ _ _ _ us hl => by obtain ⟨_, rfl⟩ := us1 hl; rfl
  have F_agrees := fun_mk (st := s_agrees) l_agrees c_agrees k_agrees
  have b_agrees := F_agrees.binds (ps := ["paper", "answers"]) fun _ _ _ _ _ _ us hl => by obtain ⟨_, _, rfl⟩ := us2 hl; rfl
  have F_shows := fun_mk (st := s_shows) l_shows c_shows k_shows
  have b_shows := F_shows.binds (ps := ["paper", "answers"]) fun _ _ _ _ _ _ us hl => by obtain ⟨_, _, rfl⟩ := us2 hl; rfl
  have F_cell_at := fun_mk (st := s_cell_at) l_cell_at c_cell_at k_cell_at
  have b_cell_at := F_cell_at.binds (ps := ["_law_script", "_law_k"]) fun _ _ _ _ _ _ us hl => by obtain ⟨_, _, rfl⟩ := us2 hl; rfl
  have F_paper_by := fun_mk (st := s_paper_by) l_paper_by c_paper_by k_paper_by
  have b_paper_by := F_paper_by.binds (ps := ["_law_cell", "_law_many"]) fun _ _ _ _ _ _ us hl => by obtain ⟨_, _, rfl⟩ := us2 hl; rfl
  have F_reserve := fun_mk (st := s_reserve) l_reserve c_reserve k_reserve
  have b_reserve := F_reserve.binds (ps := ["_law_cell", "_law_k"]) fun _ _ _ _ _ _ us hl => by obtain ⟨_, _, rfl⟩ := us2 hl; rfl
  have F_paper_of := fun_mk (st := s_paper_of) l_paper_of c_paper_of k_paper_of
  have b_paper_of := F_paper_of.binds (ps := ["_law_cell", "_law_many"]) fun _ _ _ _ _ _ us hl => by obtain ⟨_, _, rfl⟩ := us2 hl; rfl
  have F_answers_of := fun_mk (st := s_answers_of) l_answers_of c_answers_of k_answers_of
  have b_answers_of := F_answers_of.binds (ps := ["_law_cell", "_law_many", "_law_size"]) fun _ _ _ _ _ _ us hl => by obtain ⟨_, _, _, rfl⟩ := us3 hl; rfl
  have F_turn := fun_mk (st := s_turn) l_turn c_turn k_turn
  have b_turn := F_turn.binds (ps := ["_law_paper"]) fun _ _ _ _ _ _ us hl => by obtain ⟨_, rfl⟩ := us1 hl; rfl
  have F_answer := fun_mk (st := s_answer) l_answer c_answer k_answer
  have b_answer := F_answer.binds (ps := ["_law_turn_here", "_law_one", "_law_other"]) fun _ _ _ _ _ _ us hl => by obtain ⟨_, _, _, rfl⟩ := us3 hl; rfl
  have F_l_agrees := fun_mk (st := s_l_agrees) l_l_agrees c_l_agrees k_l_agrees
  have b_l_agrees := F_l_agrees.binds (ps := ["_law_paper", "_law_answers_here"]) fun _ _ _ _ _ _ us hl => by obtain ⟨_, _, rfl⟩ := us2 hl; rfl
  have F_says := fun_mk (st := s_says) l_says c_says k_says
  have b_says := F_says.binds (ps := ["_law_found", "_law_due"]) fun _ _ _ _ _ _ us hl => by obtain ⟨_, _, rfl⟩ := us2 hl; rfl
  have F_answers := fun_mk (st := s_answers) l_answers c_answers k_answers
  have b_answers := F_answers.binds (ps := ["_law_paper", "_law_cells", "_law_mode", "_law_out"]) fun _ _ _ _ _ _ us hl => by obtain ⟨_, _, _, _, rfl⟩ := us4 hl; rfl
  have F_alone := fun_mk (st := s_alone) l_alone c_alone k_alone
  have b_alone := F_alone.binds (ps := ["_law_paper", "_law_answers_here"]) fun _ _ _ _ _ _ us hl => by obtain ⟨_, _, rfl⟩ := us2 hl; rfl
  have F_law := fun_mk (st := s_law) l_law c_law k_law
  have b_law := F_law.binds (ps := ["_law_script"]) fun _ _ _ _ _ _ us hl => by obtain ⟨_, rfl⟩ := us1 hl; rfl
  have T : Bt K mg := ⟨PySem.W.mg_none_of X G z_len, PySem.W.mg_none_of X G z_range, PySem.W.mg_none_of X G z_list, PySem.W.mg_none_of X G z_isinstance, PySem.W.mg_none_of X G z_bool, PySem.W.mg_none_of X G z_int, PySem.W.mg_none_of X G z_max, PySem.W.mg_none_of X G z_min, PySem.W.mg_none_of X G z_all, PySem.W.mg_none_of X G z_sorted, PySem.W.mg_none_of X G z_reversed, PySem.W.mg_none_of X G z_enumerate, PySem.W.mg_none_of X G z_zip, PySem.W.mg_none_of X G z_dict, PySem.W.mg_none_of X G z_ValueError, kit_int_bool⟩
  refine ⟨PySem.W.fnOf "law" "law" (defArgs s_law) (defBody s_law) (defScope s_law) .none kV_law dc_law pm_law an_law cd_law ct_law, fun s v => .of_eq rfl, fun base _ _ => ?_⟩
  have f_paper_by' : Fn l.prog w K mg base CX0 "_law_paper_by" 1 ["_law_cell", "_law_many"] (spPaper24) := ⟨_, _, ok_paper_by F_paper_by T , b_paper_by, k_paper_by, PySem.W.mg_of X G a_paper_by⟩
  have f_turn' : Fn l.prog w K mg base CX0 "_law_turn" 1 ["_law_paper"] (spTurn24) := ⟨_, _, ok_turn F_turn T , b_turn, k_turn, PySem.W.mg_of X G a_turn⟩
  have f_answer' : Fn l.prog w K mg base CX0 "_law_answer" 1 ["_law_turn_here", "_law_one", "_law_other"] (spAnswer24) := ⟨_, _, ok_answer F_answer T , b_answer, k_answer, PySem.W.mg_of X G a_answer⟩
  have f_answers' : Fn l.prog w K mg base CX0 "_law_answers" 2 ["_law_paper", "_law_cells", "_law_mode", "_law_out"] (spAnswers24 K) := ⟨_, _, ok_answers F_answers T f_turn' f_answer', b_answers, k_answers, PySem.W.mg_of X G a_answers⟩
  have f_l_agrees' : Fn l.prog w K mg base CX0 "_law_agrees" 2 ["_law_paper", "_law_answers_here"] (spAgrees) := ⟨_, _, ok_l_agrees F_l_agrees T f_turn', b_l_agrees, k_l_agrees, PySem.W.mg_of X G a_l_agrees⟩
  have f_cell_at' : Fn l.prog w K mg base CX0 "_law_cell_at" 1 ["_law_script", "_law_k"] (spCell K) := ⟨_, _, ok_cell_at F_cell_at T , b_cell_at, k_cell_at, PySem.W.mg_of X G a_cell_at⟩
  have f_reserve' : Fn l.prog w K mg base CX0 "_law_reserve" 1 ["_law_cell", "_law_k"] (spReserve) := ⟨_, _, ok_reserve F_reserve T , b_reserve, k_reserve, PySem.W.mg_of X G a_reserve⟩
  have f_paper_of' : Fn l.prog w K mg base CX0 "_law_paper_of" 2 ["_law_cell", "_law_many"] (spPaper24) := ⟨_, _, ok_paper_of F_paper_of T f_reserve', b_paper_of, k_paper_of, PySem.W.mg_of X G a_paper_of⟩
  have f_answers_of' : Fn l.prog w K mg base CX0 "_law_answers_of" 2 ["_law_cell", "_law_many", "_law_size"] (spAnsOf) := ⟨_, _, ok_answers_of F_answers_of T f_reserve', b_answers_of, k_answers_of, PySem.W.mg_of X G a_answers_of⟩
  have f_alone' : Fn l.prog w K mg base CX0 "_law_alone" 3 ["_law_paper", "_law_answers_here"] (spAlone) := ⟨_, _, ok_alone F_alone T f_l_agrees', b_alone, k_alone, PySem.W.mg_of X G a_alone⟩
  have f_says' : Fn l.prog w K mg base CX0 "_law_says" 1 ["_law_found", "_law_due"] (spSays) := ⟨_, _, ok_says F_says T , b_says, k_says, PySem.W.mg_of X G a_says⟩
  have f_straight' : Fn l.prog w K mg base CX0 "straight" 1 ["many"] (spStraight) := ⟨_, _, ok_straight F_straight T , b_straight, k_straight, PySem.W.mg_of X G a_straight⟩
  have f_is_number' : Fn l.prog w K mg base CX0 "is_number" 1 ["some"] (spIsNumber) := ⟨_, _, ok_is_number F_is_number T , b_is_number, k_is_number, PySem.W.mg_of X G a_is_number⟩
  have f_is_paper' : Fn l.prog w K mg base CX0 "is_paper" 2 ["some"] (spIsPaper) := ⟨_, _, ok_is_paper F_is_paper T f_straight' f_is_number', b_is_paper, k_is_paper, PySem.W.mg_of X G a_is_paper⟩
  have f_check_paper' : Fn l.prog w K mg base CX0 "check_paper" 3 ["some", "many"] (spCheckPaper) := ⟨_, _, ok_check_paper F_check_paper T f_is_paper', b_check_paper, k_check_paper, PySem.W.mg_of X G a_check_paper⟩
  have f_back' : Fn l.prog w K mg base CX0 "back" 4 ["paper"] (spBack) := ⟨_, _, ok_back F_back T f_check_paper' f_straight', b_back, k_back, PySem.W.mg_of X G a_back⟩
  have f_agrees' : Fn l.prog w K mg base CX0 "agrees" 5 ["paper", "answers"] (spAgrees) := ⟨_, _, ok_agrees F_agrees T f_back', b_agrees, k_agrees, PySem.W.mg_of X G a_agrees⟩
  have f_shows' : Fn l.prog w K mg base CX0 "shows" 6 ["paper", "answers"] (spShows) := ⟨_, _, ok_shows F_shows T f_agrees', b_shows, k_shows, PySem.W.mg_of X G a_shows⟩
  exact ok_law F_law T f_paper_by' f_answers' f_l_agrees' f_cell_at' f_paper_of' f_answers_of' f_alone' f_says' f_agrees' f_shows'
theorem walk {l : PySem.W.OpenLaw} {q : Program} {loose : List Str} {XP : (Str → Option Value) → Heap → Prop} {YP : World → Heap → Prop} {d : DefRec} {K : Params → PySem.W.Frag} (hn : l.most = some 63) (hdf : d.params.defaults = [])
    (hY : ∀ (w : World) (h : Heap), YP w h → (K w.params).In h)
    (F : ∀ (w : World) (mg : Str → Option Value) (fa : Addr) (h : Heap), (K w.params).In h → h.Ns mainGlobals mg → mg d.name = some (.ref fa) →
      ∃ fd : FuncData, (∀ (s : Shared) (u : Value), BindsTo s fd ⟨[u], []⟩ [("_law_script", u)]) ∧ ∀ base : Heap, (K w.params).In base → base.Ns mainGlobals mg → FnOk l.prog w (K w.params) mg base CX0 7 fa fd ["_law_script"] (spLaw (K w.params))) :
    PySem.W.WalkO q loose XP YP l.row.toRowW d [] (fun f vs => PySem.call f vs) :=
  L2.walk_of (n := 63) (k := 7) (x := "_law_script") (CX := fun _ => CX0) (sp := fun w => spLaw (K w.params)) hn (by decide) hdf ⟨rfl, by decide, by decide⟩ hY F (fun _ _ a ns hl _ hS => ⟨a, ns, rfl, hS, hl, fun _ => rfl⟩) fun _ _ _ _ _ z => z
end Law
open PySem PySem.W PyProof.Rows
set_option maxRecDepth 100000 in
set_option maxHeartbeats 0 in
theorem PySem.Challenge.cw_sorthall_k24_whole_answers_show_holds : PySem.Challenge.rw_sorthall_k24_whole_answers_show.Holds := by
  refine L2.hd0 ?_
  k_fill
  refine Law.walk (l := PySem.Challenge.rw_sorthall_k24_whole_answers_show) rfl rfl (fun w h Y => PySem.W.kIn_of Y) ?F
  case F =>
    intro w mg fa h KX G hmg
    refine' Law.all_mk KX G hmg ?a_straight ?l_straight ?c_straight ?k_straight ?a_is_number ?l_is_number ?c_is_number ?k_is_number ?a_is_paper ?l_is_paper ?c_is_paper ?k_is_paper ?a_check_paper ?l_check_paper ?c_check_paper ?k_check_paper ?a_back ?l_back ?c_back ?k_back ?a_agrees ?l_agrees ?c_agrees ?k_agrees ?a_shows ?l_shows ?c_shows ?k_shows ?a_cell_at ?l_cell_at ?c_cell_at ?k_cell_at ?a_paper_by ?l_paper_by ?c_paper_by ?k_paper_by ?a_reserve ?l_reserve ?c_reserve ?k_reserve ?a_paper_of ?l_paper_of ?c_paper_of ?k_paper_of ?a_answers_of ?l_answers_of ?c_answers_of ?k_answers_of ?a_turn ?l_turn ?c_turn ?k_turn ?a_answer ?l_answer ?c_answer ?k_answer ?a_l_agrees ?l_l_agrees ?c_l_agrees ?k_l_agrees ?a_says ?l_says ?c_says ?k_says ?a_answers ?l_answers ?c_answers ?k_answers ?a_alone ?l_alone ?c_alone ?k_alone ?a_law ?l_law ?c_law ?k_law ?z_len ?z_range ?z_list ?z_isinstance ?z_bool ?z_int ?z_max ?z_min ?z_all ?z_sorted ?z_reversed ?z_enumerate ?z_zip ?z_dict ?z_ValueError ?kit_int_bool
    (case a_straight => k_is)
    (case l_straight => k_is)
    (case c_straight => k_is)
    (case k_straight => k_is)
    (case a_is_number => k_is)
    (case l_is_number => k_is)
    (case c_is_number => k_is)
    (case k_is_number => k_is)
    (case a_is_paper => k_is)
    (case l_is_paper => k_is)
    (case c_is_paper => k_is)
    (case k_is_paper => k_is)
    (case a_check_paper => k_is)
    (case l_check_paper => k_is)
    (case c_check_paper => k_is)
    (case k_check_paper => k_is)
    (case a_back => k_is)
    (case l_back => k_is)
    (case c_back => k_is)
    (case k_back => k_is)
    (case a_agrees => k_is)
    (case l_agrees => k_is)
    (case c_agrees => k_is)
    (case k_agrees => k_is)
    (case a_shows => k_is)
    (case l_shows => k_is)
    (case c_shows => k_is)
    (case k_shows => k_is)
    (case a_cell_at => k_is)
    (case l_cell_at => k_is)
    (case c_cell_at => k_is)
    (case k_cell_at => k_is)
    (case a_paper_by => k_is)
    (case l_paper_by => k_is)
    (case c_paper_by => k_is)
    (case k_paper_by => k_is)
    (case a_reserve => k_is)
    (case l_reserve => k_is)
    (case c_reserve => k_is)
    (case k_reserve => k_is)
    (case a_paper_of => k_is)
    (case l_paper_of => k_is)
    (case c_paper_of => k_is)
    (case k_paper_of => k_is)
    (case a_answers_of => k_is)
    (case l_answers_of => k_is)
    (case c_answers_of => k_is)
    (case k_answers_of => k_is)
    (case a_turn => k_is)
    (case l_turn => k_is)
    (case c_turn => k_is)
    (case k_turn => k_is)
    (case a_answer => k_is)
    (case l_answer => k_is)
    (case c_answer => k_is)
    (case k_answer => k_is)
    (case a_l_agrees => k_is)
    (case l_l_agrees => k_is)
    (case c_l_agrees => k_is)
    (case k_l_agrees => k_is)
    (case a_says => k_is)
    (case l_says => k_is)
    (case c_says => k_is)
    (case k_says => k_is)
    (case a_answers => k_is)
    (case l_answers => k_is)
    (case c_answers => k_is)
    (case k_answers => k_is)
    (case a_alone => k_is)
    (case l_alone => k_is)
    (case c_alone => k_is)
    (case k_alone => k_is)
    (case a_law => k_is)
    (case l_law => k_is)
    (case c_law => k_is)
    (case k_law => k_is)
    (case z_len => k_is)
    (case z_range => k_is)
    (case z_list => k_is)
    (case z_isinstance => k_is)
    (case z_bool => k_is)
    (case z_int => k_is)
    (case z_max => k_is)
    (case z_min => k_is)
    (case z_all => k_is)
    (case z_sorted => k_is)
    (case z_reversed => k_is)
    (case z_enumerate => k_is)
    (case z_zip => k_is)
    (case z_dict => k_is)
    (case z_ValueError => k_is)
    (case kit_int_bool => kit_is)
