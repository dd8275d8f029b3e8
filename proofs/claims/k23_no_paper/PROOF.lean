import PyProof.Rows.All
import Wide.All
import OpenK.AllK
import Wide.FinOn
import Lean
import PyProof.EqAt
import PyProof.EqKinds
import PyProof.TupleCall
import KE.KRevIter
import PyProof.CollectIter
import PyProof.SumWalkG
import PySem.Challenge.RW_sorthall_k23_no_paper
set_option Elab.async false
set_option linter.all false
set_option maxRecDepth 100000
namespace L2
open PySem PySem.W
def vw (p : Program) (ix : List Nat) : Program := { p with main := { p.main with body := ix.filterMap fun i => p.main.body[i]? } }
def Vw : Program := vw PySem.Challenge.pw_sorthall_k23_no_paper [1, 2, 3, 4, 5, 6, 7, 8, 9, 11, 12, 13, 14, 15, 16, 17, 19, 20, 21, 22, 23]
set_option hygiene false in
local macro_rules | `(tactic| o_head $H) => `(tactic| (refine holds_open (q := L2.Vw) (loose := []) (Xt := fun s => xlAt L2.Vw [] s && recOk (RowW.records _) s) (XP := XL L2.Vw []) (Yf := Hook.obs $H) (Ya := Hook.val $H) (YP := Hook.says $H) (N := 4934) ?hl (Hook.of $H) (Hook.keeps $H) (fun s e => xl_of s (Bool.and_eq_true_iff.mp e).1) XL.keeps (by rfl) (by rfl) (by rfl) (fun s e => recFacts_of (Bool.and_eq_true_iff.mp e).2) (by rfl) (by first | assumption | decide +kernel) (by decide +kernel) ⟨rfl, rfl, rfl, rfl, rfl, by decide +kernel⟩ ?hw ?hc; (case hl => (intro w; kernel_rfl))))
set_option maxHeartbeats 0 in
open_top hd0 for PySem.Challenge.rw_sorthall_k23_no_paper
end L2

-- CHANGE: your row's module here, as the last of these rows
set_option Elab.async false
set_option linter.all false
set_option maxRecDepth 100000
namespace L2
open PySem PySem.Spec PyProof.Rows

/-- a key: an int or a str -/
abbrev Key := Sum Int Str
def keyIs : Key → Value → Bool
  | .inl k, v => Value.isInt k v
  | .inr x, v => Value.isStrOf x v
def keyH (w : World) : Key → Int
  | .inl k => hashInt k
  | .inr x => hashStr w x
theorem keyIs_shape : ∀ {k : Key} {v : Value}, keyIs k v = true → (∃ i t, k = Sum.inl i ∧ v = Value.int i t) ∨ (∃ x t, k = Sum.inr x ∧ v = Value.str x t)
  | .inl i, v, h => by
    obtain ⟨t, e⟩ := Value.isInt_shape (k := i) (v := v) h
    exact .inl ⟨i, t, rfl, e⟩
  | .inr x, v, h => by
    obtain ⟨t, e⟩ := Value.isStrOf_shape (x := x) (v := v) h
    exact .inr ⟨x, t, rfl, e⟩
theorem key_ll (a b : Int) : decide ((Sum.inl a : Key) = Sum.inl b) = (a == b) := by
  by_cases e : a = b
  · subst e; simp
  · have h : ¬ (Sum.inl a : Key) = Sum.inl b := fun q => e (Sum.inl.inj q)
    rw [decide_eq_false h]
    exact (beq_eq_false_iff_ne.mpr e).symm
theorem key_rr (a b : Str) : decide ((Sum.inr a : Key) = Sum.inr b) = decide (a = b) := by
  by_cases e : a = b
  · subst e; simp
  · have h : ¬ (Sum.inr a : Key) = Sum.inr b := fun q => e (Sum.inr.inj q)
    rw [decide_eq_false h, decide_eq_false e]
theorem key_lr (a : Int) (b : Str) : decide ((Sum.inl a : Key) = Sum.inr b) = false := decide_eq_false (fun q => nomatch q)
theorem key_rl (a : Str) (b : Int) : decide ((Sum.inr a : Key) = Sum.inl b) = false := decide_eq_false (fun q => nomatch q)

def mixKind (prog : Program) (w : World) : PySem.KeyKind prog w Key where
  is := keyIs
  hash := keyH w
  inj := fun v a b ha hb => by
    rcases keyIs_shape ha with ⟨i, t, rfl, rfl⟩ | ⟨x, t, rfl, rfl⟩
    · rcases keyIs_shape hb with ⟨j, u, rfl, e⟩ | ⟨y, u, rfl, e⟩
      · injection e with e1 _; rw [e1]
      · exact nomatch e
    · rcases keyIs_shape hb with ⟨j, u, rfl, e⟩ | ⟨y, u, rfl, e⟩
      · exact nomatch e
      · injection e with e1 _; rw [e1]
  byValue := fun k v h => by
    rcases keyIs_shape h with ⟨i, t, rfl, rfl⟩ | ⟨x, t, rfl, rfl⟩ <;> rfl
  pyHash := fun hv h => by
    rcases keyIs_shape hv with ⟨i, t, rfl, rfl⟩ | ⟨x, t, rfl, rfl⟩
    · exact wpAny_pyHash_int h
    · exact wpAny_pyHash_str h
  eqBool := fun hu hv h => by
    rcases keyIs_shape hu with ⟨i, t, rfl, rfl⟩ | ⟨x, t, rfl, rfl⟩
    · rcases keyIs_shape hv with ⟨j, u, rfl, rfl⟩ | ⟨y, u, rfl, rfl⟩
      · rw [key_ll] at h; exact wpAny_eqBool_int h
      · rw [key_lr] at h; exact SeqAt.EqAt.int_str i t y u _ _ _ _ h
    · rcases keyIs_shape hv with ⟨j, u, rfl, rfl⟩ | ⟨y, u, rfl, rfl⟩
      · rw [key_rl] at h; exact SeqAt.EqAt.str_int x t j u _ _ _ _ h
      · rw [key_rr] at h; exact wpAny_eqBool_str h
  «strs» := fun k x t v h => by
    rcases keyIs_shape h with ⟨i, u, rfl, e⟩ | ⟨y, u, rfl, e⟩
    · exact nomatch e
    · injection e with e1 _
      subst e1
      cases v <;> rfl

end L2

namespace L2
open PySem PySem.Spec PyProof.Rows

/-- a value, without the heap -/
inductive V where
  | non | bl (b : Bool) | int (i : Int) | str (x : Str) | byt (b : Array UInt8) | flt (b : UInt64) | ref (a : Addr) | ty (n : String)
  deriving DecidableEq

def RelV : V → Value → Prop
  | .non, u => u = Value.none
  | .bl b, u => u = Value.bool b
  | .int i, u => ∃ t, u = Value.int i t
  | .str x, u => ∃ t, u = Value.str x t
  | .byt b, u => ∃ t, u = Value.bytes b t
  | .flt b, u => ∃ t, u = Value.float b t
  | .ref a, u => u = Value.ref a
  | .ty n, u => u = Value.type n

abbrev Vals : List V → List Value → Prop := Paired RelV
theorem Vals.length {xs : List V} {us : List Value} (r : Vals xs us) : xs.length = us.length := Paired.length r
theorem Vals.get : ∀ {xs : List V} {us : List Value} {i : Nat} {x : V}, Vals xs us → xs[i]? = some x → ∃ u, us[i]? = some u ∧ RelV x u
  | _, _, _, _, .nil, e => by simp at e
  | _, _, 0, _, .cons r _, e => by simp at e; subst e; exact ⟨_, rfl, r⟩
  | _, _, i + 1, x, .cons _ t, e => by
    obtain ⟨u, h1, h2⟩ := Vals.get (i := i) (x := x) t (by simpa using e)
    exact ⟨u, by simpa using h1, h2⟩
theorem Vals.set {x : V} {u : Value} (r : RelV x u) : ∀ {xs : List V} {us : List Value} (i : Nat), Vals xs us → Vals (xs.set i x) (us.set i u)
  | _, _, _, .nil => .nil
  | _, _, 0, .cons _ t => .cons r t
  | _, _, i + 1, .cons q t => .cons q (Vals.set r i t)
theorem Vals.append : ∀ {xs ys : List V} {us ws : List Value}, Vals xs us → Vals ys ws → Vals (xs ++ ys) (us ++ ws)
  | _, _, _, _, .nil, s => s
  | _, _, _, _, .cons r t, s => .cons r (Vals.append t s)
theorem Vals.take : ∀ {xs : List V} {us : List Value} (n : Nat), Vals xs us → Vals (xs.take n) (us.take n)
  | _, _, 0, _ => .nil
  | _, _, _ + 1, .nil => .nil
  | _, _, n + 1, .cons r t => .cons r (Vals.take n t)
theorem Vals.drop : ∀ {xs : List V} {us : List Value} (n : Nat), Vals xs us → Vals (xs.drop n) (us.drop n)
  | _, _, 0, r => r
  | _, _, _ + 1, .nil => .nil
  | _, _, n + 1, .cons _ t => Vals.drop n t
def RelO : Option V → Option Value → Prop
  | some v, some u => RelV v u
  | none, none => True
  | _, _ => False
def KV {κ : Type} : List (κ × V) → List (κ × Value) → Prop := Paired fun (p : κ × V) (q : κ × Value) => p.1 = q.1 ∧ RelV p.2 q.2

/-- a key of a dict (00_mix): an int or a text -/
def kV : Key → V
  | .inl i => .int i
  | .inr x => .str x

/-- what stands at a tracked address -/
inductive HO where
  /-- a list -/
  | lst (xs : List V)
  /-- a tuple (never changes) -/
  | tup (xs : List V)
  /-- a dict whose keys are ints and texts; one whose keys are tuples of ints and texts (the empty one is both) -/
  | dK (kvs : List (Key × V)) | dT (kvs : List (List Key × V))
  /-- a set of ints: its members, its size -/
  | set (S : Int → Bool) (n : Nat)
  /-- an instance of the class at C, its dict at dx, its attributes -/
  | ins (C dx : Addr) (fs : List (Str × V))
  /-- the dict of the instance at x -/
  | own (x : Addr)
  /-- the dict of an exception -/
  | xd (fs : List (Str × V))
  /-- a bound method, f of x -/
  | met (f x : Addr)
  /-- a range object lo, lo + 1, .. below hi -/
  | rng (lo hi : Int)
  /-- a thing that is known to the object (the script; a dict while a loop walks it): read, never written while it is so -/
  | frz (o : Obj) (u : HO)
  /-- a code object's table -/
  | tbl (ps : Array Value)
  /-- any other thing, by what is true of its one object (a def of one's own: SetO a S n := HO.ext fun h => ..) -/
  | ext (φ : Heap → Prop)

abbrev Hp := Addr → Option HO
def upd (H : Hp) (a : Addr) (o : HO) : Hp := fun b => if b = a then some o else H b
theorem upd_same {H : Hp} {a : Addr} {o : HO} : upd H a o a = some o := by unfold upd; rw [if_pos rfl]
theorem upd_ne {H : Hp} {a b : Addr} {o : HO} (h : b ≠ a) : upd H a o b = H b := by unfold upd; rw [if_neg h]
theorem upd_upd {H : Hp} {a : Addr} {o u : HO} : upd (upd H a o) a u = upd H a u := by
  funext b; unfold upd; split <;> rfl
theorem ne_of_none {H : Hp} {a b : Addr} {o : HO} (h : H a = some o) (h' : H b = none) : a ≠ b := by
  intro e; subst e; rw [h] at h'; cases h'

section
variable (P : Program) (w : World)
def ObjOk (H : Hp) (h : Heap) (a : Addr) : HO → Prop
  | .lst xs => xs.length ≤ sizeLine ∧ ∃ (its : List Value) (n : Nat), Vals xs its ∧ h.get? a = some { cls := .type "list", data := .seq its.toArray n }
  | .tup xs => xs.length ≤ sizeLine ∧ ∃ its : List Value, Vals xs its ∧ IsTup h a its.toArray
  | .dK kvs => kvs.length ≤ sizeLine ∧ (a == sysModules) = false ∧ ∃ vs, KV kvs vs ∧ h.DictOf (mixKind P w) a vs
  | .dT kvs => kvs.length ≤ sizeLine ∧ (a == sysModules) = false ∧ ∃ xs : List (List Key × Addr × Value),
      Paired (fun (p : List Key × V) (q : List Key × Addr × Value) => p.1 = q.1 ∧ H q.2.1 = some (.tup (p.1.map kV)) ∧ RelV p.2 q.2.2) kvs xs ∧
      ∃ o es ep, h.get? a = some o ∧ o.ExactDict ∧ o.data = .dict es ep ∧ es.toList = xs.map (entryOfKey (tupleKind (mixKind P w))) ∧ (xs.map (·.1)).Nodup
  | .set S n => h.SetOf (intKind P w) a S n
  | .ins C dx fs => H dx = some (.own a) ∧ fs.length ≤ 1000 ∧ dx ≠ a ∧ h.get? a = some (PySem.W.instObj C dx) ∧
      ∃ mA, h.Ns1 dx mA ∧ (∀ f, RelO (fs.lookup f) (mA f)) ∧ PySem.Within mA (fs.map (·.1))
  | .own _ => ∃ o, h.get? a = some o
  | .xd fs => ∃ mA, h.Ns1 a mA ∧ ∀ f, RelO (fs.lookup f) (mA f)
  | .rng lo hi => ∃ t u v, h.get? a = some { cls := .type "range", data := .fields #[.int lo t, .int hi u, .int 1 v] }
  | .frz o u => h.get? a = some o ∧ ObjOk H h a u
  | .tbl ps => h.get? a = some { cls := .none, data := .fields ps }
  | .met f x => h.get? a = some (PySem.W.methodObj (.ref f) (.ref x))
  | .ext φ => φ h ∧ (∃ o, h.get? a = some o) ∧ ∀ h1 h2 : Heap, φ h1 → (∀ o, h1.get? a = some o → h2.get? a = some o) → φ h2
/-- the abstract heap is held -/
def HOk (H : Hp) (h : Heap) : Prop := ∀ a o, H a = some o → ObjOk P w H h a o
end

section
variable {P : Program} {w : World} {H H' : Hp} {h h' : Heap} {a : Addr} {o : HO}
theorem ObjOk.lt (x : ObjOk P w H h a o) : a < h.objs.size := by
  cases o with
  | lst xs => obtain ⟨_, _, _, _, e⟩ := x; exact Heap.lt_size e
  | tup xs => obtain ⟨_, _, _, p⟩ := x; exact p.lt
  | dK kvs => obtain ⟨_, _, _, _, o, _, _, e, _⟩ := x; exact Heap.lt_size e
  | dT kvs => obtain ⟨_, _, _, _, o, _, _, e, _⟩ := x; exact Heap.lt_size e
  | set S n => obtain ⟨o, _, _, _, e, _⟩ := x; exact Heap.lt_size e
  | ins C dx fs => obtain ⟨_, _, _, e, _⟩ := x; exact Heap.lt_size e
  | own y => obtain ⟨_, e⟩ := x; exact Heap.lt_size e
  | xd fs => obtain ⟨_, ⟨_, _, _, e, _⟩, _⟩ := x; exact Heap.lt_size e
  | rng lo hi => obtain ⟨_, _, _, e⟩ := x; exact Heap.lt_size e
  | frz ob u => obtain ⟨e, _⟩ := x; exact Heap.lt_size e
  | tbl ps => exact Heap.lt_size (show h.get? a = some _ from x)
  | met f y => exact Heap.lt_size (show h.get? a = some _ from x)
  | ext φ => obtain ⟨_, ⟨_, e⟩, _⟩ := x; exact Heap.lt_size e
theorem Paired.mapP {α β : Type} {F G : α → β → Prop} : ∀ {l₁ : List α} {l₂ : List β}, Paired F l₁ l₂ → (∀ a b, F a b → G a b) → Paired G l₁ l₂
  | _, _, .nil, _ => .nil
  | _, _, .cons r t, f => .cons (f _ _ r) (Paired.mapP t f)
/-- what an object's description leans on: its own object, its own dict, the tuples -/
theorem ObjOk.stay (x : ObjOk P w H h a o) (k : ∀ b u, (b = a ∨ H b = some (.own a)) → h.get? b = some u → h'.get? b = some u)
    (ho : ∀ b, H b = some (.own a) → H' b = some (.own a)) (ht : ∀ b xs, H b = some (.tup xs) → H' b = some (.tup xs)) : ObjOk P w H' h' a o := by
  induction o with
  | lst xs => obtain ⟨z, its, n, r, e⟩ := x; exact ⟨z, its, n, r, k _ _ (.inl rfl) e⟩
  | tup xs => obtain ⟨z, its, r, ob, e, c⟩ := x; exact ⟨z, its, r, ob, k _ _ (.inl rfl) e, c⟩
  | dK kvs => obtain ⟨z, y, vs, r, ob, es, ep, e, c⟩ := x; exact ⟨z, y, vs, r, ob, es, ep, k _ _ (.inl rfl) e, c⟩
  | dT kvs =>
    obtain ⟨z, y, xs, r, ob, es, ep, e, c⟩ := x
    exact ⟨z, y, xs, Paired.mapP r fun p q z => ⟨z.1, ht _ _ z.2.1, z.2.2⟩, ob, es, ep, k _ _ (.inl rfl) e, c⟩
  | set S n => obtain ⟨ob, es, ep, t, e, c⟩ := x; exact ⟨ob, es, ep, t, k _ _ (.inl rfl) e, c⟩
  | ins C dx fs =>
    obtain ⟨d, z, ne, e, mA, ⟨od, es, ep, e2, c⟩, r⟩ := x
    exact ⟨ho _ d, z, ne, k _ _ (.inl rfl) e, mA, ⟨od, es, ep, k _ _ (.inr d) e2, c⟩, r⟩
  | own y => obtain ⟨ob, e⟩ := x; exact ⟨ob, k _ _ (.inl rfl) e⟩
  | xd fs => obtain ⟨mA, ⟨od, es, ep, e, c⟩, r⟩ := x; exact ⟨mA, ⟨od, es, ep, k _ _ (.inl rfl) e, c⟩, r⟩
  | rng lo hi => obtain ⟨t, u, v, e⟩ := x; exact ⟨t, u, v, k _ _ (.inl rfl) e⟩
  | frz ob u ih => obtain ⟨e, q⟩ := x; exact ⟨k _ _ (.inl rfl) e, ih q⟩
  | tbl ps =>
    have e : h.get? a = some { cls := .none, data := .fields ps } := x
    show h'.get? a = some { cls := .none, data := .fields ps }
    exact k a _ (.inl rfl) e
  | met f y =>
    have e : h.get? a = some (PySem.W.methodObj (.ref f) (.ref y)) := x
    show h'.get? a = some (PySem.W.methodObj (.ref f) (.ref y))
    exact k a _ (.inl rfl) e
  | ext φ => obtain ⟨p, ⟨o, e⟩, st⟩ := x; exact ⟨st _ _ p fun o q => k _ _ (.inl rfl) q, ⟨o, k _ _ (.inl rfl) e⟩, st⟩
theorem HOk.lt (x : HOk P w H h) (e : H a = some o) : a < h.objs.size := (x a o e).lt
theorem HOk.fresh (x : HOk P w H h) (e : h.objs.size ≤ a) : H a = none := by
  cases q : H a with
  | none => rfl
  | some u => exact absurd (Nat.lt_of_lt_of_le (x.lt q) e) (Nat.lt_irrefl _)
/-- every object of the heap is kept -/
theorem HOk.kept (x : HOk P w H h) (k : ∀ b u, h.get? b = some u → h'.get? b = some u) : HOk P w H h' := fun a o e =>
  (x a o e).stay (fun b u _ q => k b u q) (fun _ q => q) fun _ _ q => q
/-- a new object is laid and tracked -/
theorem HOk.laid (x : HOk P w H h) (k : ∀ b u, h.get? b = some u → h'.get? b = some u) (hp : h.objs.size ≤ a) (new : ObjOk P w (upd H a o) h' a o) : HOk P w (upd H a o) h' := fun b u e => by
  have hn := x.fresh hp
  by_cases hb : b = a
  · subst hb; rw [upd_same] at e; cases e; exact new
  · rw [upd_ne hb] at e
    exact (x b u e).stay (fun c v _ q => k c v q) (fun c q => by rw [upd_ne (ne_of_none q hn)]; exact q) fun c xs q => by rw [upd_ne (ne_of_none q hn)]; exact q
end

/-- what may be read as u: it is u, or a known u -/
def Rd (H : Hp) (a : Addr) (u : HO) : Prop := H a = some u ∨ ∃ o, H a = some (.frz o u)
theorem Rd.ok {P : Program} {w : World} {H : Hp} {h : Heap} {a : Addr} {u : HO} (r : Rd H a u) (x : HOk P w H h) : ObjOk P w H h a u := by
  rcases r with r | ⟨o, r⟩
  · exact x a u r
  · obtain ⟨_, q⟩ := x a _ r
    exact q
/-- what may be written -/
def Mut : Option HO → Prop
  | some (.lst _) => True
  | some (.dK _) => True
  | some (.dT _) => True
  | some (.set _ _) => True
  | some (.ins _ _ _) => True
  | some (.ext _) => True
  | _ => False
section
variable {P : Program} {w : World} {H : Hp} {h h' : Heap} {x e : Addr} {o' : HO}
/-- the object at e is changed: x itself, or the dict of the instance x -/
theorem HOk.write (ok : HOk P w H h) (mu : Mut (H x)) (he : e = x ∨ H e = some (.own x)) (k : ∀ b u, b ≠ e → h.get? b = some u → h'.get? b = some u) (heo : ∃ u, h'.get? e = some u)
    (new : ObjOk P w (upd H x o') h' x o') : HOk P w (upd H x o') h' := fun b u q => by
  have nown : ∀ c y, H c = some (.own y) → c ≠ x := fun c y r z => by subst z; rw [r] at mu; exact mu
  have ntup : ∀ c xs, H c = some (.tup xs) → c ≠ x := fun c xs r z => by subst z; rw [r] at mu; exact mu
  by_cases hb : b = x
  · subst hb; rw [upd_same] at q; cases q; exact new
  · rw [upd_ne hb] at q
    by_cases hbe : b = e
    · have q' : H b = some (.own x) := by
        rcases he with z | z
        · exact absurd (hbe.trans z) hb
        · rw [hbe]; exact z
      rw [q] at q'; cases q'
      obtain ⟨v, hv⟩ := heo
      exact ⟨v, by rw [hbe]; exact hv⟩
    · refine (ok b u q).stay (fun c v hc r => k c v ?_ r) (fun c r => by rw [upd_ne (nown c b r)]; exact r) fun c xs r => by rw [upd_ne (ntup c xs r)]; exact r
      rcases hc with rfl | hc
      · exact hbe
      · rintro rfl
        rcases he with z | z
        · exact nown c b hc z
        · rw [hc] at z; cases z; exact hb rfl
end

structure Un (fs ex : List Addr) (H H' : Hp) (h h' : Heap) : Prop where
  keep : ∀ b o, h.get? b = some o → H b = none → b ∉ fs → b ∉ ex → h'.get? b = some o
  slot : ∀ b o, h.get? b = some o → H b = none → b ∈ fs → b ∉ ex → ∃ sl, h'.get? b = some { o with slots := sl }
  free : ∀ b o, h.get? b = some o → H b = none → b ∉ ex → H' b = none
  there : ∀ b o, h.get? b = some o → b ∉ ex → ∃ o', h'.get? b = some o'
  tups : ∀ b xs, H b = some (.tup xs) → H' b = some (.tup xs)
  frzs : ∀ b o u, H b = some (.frz o u) → H' b = some (.frz o u)
  tbls : ∀ b ps, H b = some (.tbl ps) → ∃ more, H' b = some (.tbl (ps ++ more))
section
variable {fs fs' ex ex' : List Addr} {H H1 H2 : Hp} {h h1 h2 h' : Heap} {a x e : Addr} {o : HO}
theorem Un.any (u : Un fs ex H H1 h h1) {b : Addr} {ob : Obj} (q : h.get? b = some ob) (n : H b = none) (hx : b ∉ ex) : ∃ sl, h1.get? b = some { ob with slots := sl } := by
  by_cases hb : b ∈ fs
  · exact u.slot b ob q n hb hx
  · exact ⟨ob.slots, u.keep b ob q n hb hx⟩
theorem Un.kept (k : ∀ b u, h.get? b = some u → h'.get? b = some u) : Un fs ex H H h h' :=
  ⟨fun b ob q _ _ _ => k b ob q, fun b ob q _ _ _ => ⟨ob.slots, k b ob q⟩, fun _ _ _ n _ => n, fun b ob q _ => ⟨ob, k b ob q⟩, fun _ _ q => q, fun _ _ _ q => q, fun _ ps q => ⟨#[], by rw [q]; simp⟩⟩
theorem Un.refl : Un fs ex H H h h := Un.kept fun _ _ q => q
theorem Un.laid (k : ∀ b u, h.get? b = some u → h'.get? b = some u) (hp : h.objs.size ≤ a) (hn : H a = none) : Un fs ex H (upd H a o) h h' where
  keep := fun b u q _ _ _ => k b u q
  slot := fun b u q _ _ _ => ⟨u.slots, k b u q⟩
  free := fun b u q n _ => by rw [upd_ne (Nat.ne_of_lt (Nat.lt_of_lt_of_le (Heap.lt_size q) hp))]; exact n
  there := fun b u q _ => ⟨u, k b u q⟩
  tups := fun b xs q => by rw [upd_ne (ne_of_none q hn)]; exact q
  frzs := fun b u xs q => by rw [upd_ne (ne_of_none q hn)]; exact q
  tbls := fun b ps q => ⟨#[], by rw [upd_ne (ne_of_none q hn), q]; simp⟩
theorem Un.write (mu : Mut (H x)) (he : e = x ∨ H e = some (.own x)) (k : ∀ b u, b ≠ e → h.get? b = some u → h'.get? b = some u) (heo : ∃ u, h'.get? e = some u) : Un fs ex H (upd H x o) h h' := by
  have hx : ∀ b, H b = none → b ≠ x := fun b n z => by subst z; rw [n] at mu; exact mu
  have hb : ∀ b, H b = none → b ≠ e := fun b n z => by
    subst z
    rcases he with r | r
    · exact hx b n r
    · rw [n] at r; cases r
  have hm : ∀ b u, H b = some u → ¬ Mut (some u) → b ≠ x := fun b u q nm z => by subst z; rw [q] at mu; exact nm mu
  refine ⟨fun b u q n _ _ => k b u (hb b n) q, fun b u q n _ _ => ⟨u.slots, k b u (hb b n) q⟩, fun b u q n _ => by rw [upd_ne (hx b n)]; exact n, fun b u q _ => ?_,
    fun b xs q => by rw [upd_ne (hm b _ q fun z => z)]; exact q, fun b u xs q => by rw [upd_ne (hm b _ q fun z => z)]; exact q, fun b ps q => ⟨#[], by rw [upd_ne (hm b _ q fun z => z), q]; simp⟩⟩
  by_cases hbe : b = e
  · subst hbe; exact heo
  · exact ⟨u, k b u hbe q⟩
end

def trk (h : Heap) (H : Hp) : List Addr := (List.range h.objs.size).filter fun a => (H a).isSome
def hidT (h : Heap) (H : Hp) : Heap := PySem.W.hideAll h (trk h H)
theorem hidT_size (h : Heap) (H : Hp) : (hidT h H).objs.size = h.objs.size := PySem.W.hideAll_size _ _
theorem hidT_get {h : Heap} {H : Hp} {b : Addr} {o : Obj} (e : h.get? b = some o) (n : H b = none) : (hidT h H).get? b = some o :=
  PySem.W.hideAll_get _ e fun hm => by
    have q : (H b).isSome = true := (List.mem_filter.mp hm).2
    rw [n] at q; simp at q
theorem of_hidT {h : Heap} {H : Hp} {b : Addr} {o : Obj} (e : (hidT h H).get? b = some o) : h.get? b = some o ∧ H b = none := by
  have e' : h.get? b = some o := PySem.W.of_hideAll (trk h H) e
  refine ⟨e', ?_⟩
  cases q : H b with
  | none => rfl
  | some x =>
    have hm : b ∈ trk h H := List.mem_filter.mpr ⟨List.mem_range.mpr (Heap.lt_size e'), by simp [q]⟩
    have z : (hidT h H).get? b = none := PySem.W.hideAll_none (trk h H) hm
    rw [z] at e; cases e

end L2

namespace L2
open PySem PySem.Spec PyProof.Rows

/-- the module's facts, over the base: the heap at the law's entry without what is tracked there -/
structure Mod (K : PySem.W.Frag) (mg : Str → Option Value) (base : Heap) : Prop where
  kin : K.In base
  glob : base.Ns mainGlobals mg
  blt : ∃ mb, base.Ns builtinsNs mb ∧ ∀ x : Str, x ≠ "__name__" → mb x = bootBuiltins x
  nolimit : base.NoLimit

/-- the context: a def's body (or a comprehension's block) running. base: fixed through the whole law; s₀, H₀: the entry; outer: the frames whose slots others may change (a def's callers); stack: all frames that run;
   ex: iterators that were made ahead of the entry and are walked here (a comprehension's); fn: the names whose cells were made at the entry (a def: all; a comprehension's block: its own); calm: not within an except suite; pn: pins that every state bears; xe: what is wanted of an exception that leaves the code -/
structure Cx where
  prog : Program
  w : World
  K : PySem.W.Frag
  mg : Str → Option Value
  base : Heap
  A : Around
  N : List Str
  s₀ : Shared
  H₀ : Hp
  env : Env
  outer : List Env
  stack : List Env
  ex : List Addr
  fn : Str → Bool
  calm : Bool
  pn : List (Addr × Obj)
  xe : Value → Shared → Prop
/-- the callers' frames -/
def frs (l : List Env) : List Addr := l.filterMap (·.frame)
abbrev Cx.fs (X : Cx) : List Addr := frs X.outer

def Vis (sc : Scope) (x : Str) : Prop := sc.names.lookup x = some .local ∨ sc.names.lookup x = some .cell ∨ sc.names.lookup x = some .free
def Loc (sc : Scope) (x : Str) : Prop := sc.names.lookup x = some .local ∨ sc.names.lookup x = some .cell
def Look (env : Env) (h : Heap) (m : Str → Option Value) (x : Str) (u : Value) : Prop :=
  (env.kindOf x = some .local ∧ m x = some u) ∨ ((env.kindOf x = some .cell ∨ env.kindOf x = some .free) ∧ ∃ c, env.cells.lookup x = some c ∧ h.IsCell c (some u))

structure Cx.Ok (X : Cx) : Prop where
  mod : Mod X.K X.mg X.base
  kind : X.env.scope.kind = .function
  glob : X.env.globals = mainGlobals
  blt : X.env.builtins = builtinsNs
  above : X.s₀.heap.objs.size ≤ X.env.locals
  inj : ∀ x y c, X.env.cells.lookup x = some c → X.env.cells.lookup y = some c → x = y
  has : ∀ x, (X.env.kindOf x = some .cell ∨ X.env.kindOf x = some .free) → ∃ c, X.env.cells.lookup x = some c
  cab : ∀ x c, X.fn x = true → X.env.cells.lookup x = some c → X.s₀.heap.objs.size ≤ c
  hd : X.calm = true → X.A.handled = none
  frames : X.A.frames = some X.stack
  stk : X.stack = X.outer ∨ (X.stack = X.env :: X.outer ∧ X.env.frame = some X.env.locals)
  exf : ∀ b ∈ X.ex, b ≠ X.env.locals ∧ ∀ x c, X.env.cells.lookup x = some c → c ≠ b
  bs : ∀ b o, X.base.get? b = some o → X.s₀.heap.get? b = some o ∧ X.H₀ b = none
  bsz : X.base.objs.size ≤ X.s₀.heap.objs.size
  noex : ∀ b o, X.base.get? b = some o → b ∉ X.ex
  exfs : ∀ b ∈ X.ex, b ∉ X.fs
  funs : X.s₀.heap.FunFrames X.base X.outer
  frf : ∀ b ∈ X.fs, X.H₀ b = none

structure Inv (X : Cx) (pins : List (Addr × Obj)) (σ : List (Option V)) (H : Hp) (s : Shared) : Prop where
  ok : X.Ok
  os : s.os = X.s₀.os
  bare : AllBare s.gens
  base : Un X.fs X.ex X.H₀ H X.s₀.heap s.heap
  loc : ∃ m, s.heap.Ns X.env.locals m ∧ ∀ (i : Nat) (x : Str) (v : V), X.N[i]? = some x → σ[i]? = some (some v) → Vis X.env.scope x → ∃ u, RelV v u ∧ Look X.env s.heap m x u
  cell : ∀ x c, X.env.cells.lookup x = some c → ∃ v, s.heap.IsCell c v
  free : H X.env.locals = none
  freeC : ∀ x c, X.env.cells.lookup x = some c → H c = none
  pin : ∀ p ∈ X.pn ++ pins, s.heap.get? p.1 = some p.2 ∧ H p.1 = none ∧ p.1 ≠ X.env.locals ∧ p.1 ∉ X.fs ∧ ∀ v, p.2.data ≠ .cell v
  hok : HOk X.prog X.w H s.heap
  len : σ.length = X.N.length

section
variable {X : Cx} {pins : List (Addr × Obj)} {σ : List (Option V)} {H H' : Hp} {s : Shared} {h' : Heap}

theorem Cx.Ok.nofr (ok : X.Ok) {b : Addr} {o : Obj} (e : X.base.get? b = some o) : b ∉ X.fs := fun hb => by
  have := (ok.funs.mem hb).1
  rw [e] at this; cases this
theorem Inv.bs (I : Inv X pins σ H s) : ∀ b o, X.base.get? b = some o → s.heap.get? b = some o ∧ H b = none := fun b o e =>
  ⟨I.base.keep b o (I.ok.bs b o e).1 (I.ok.bs b o e).2 (I.ok.nofr e) (I.ok.noex b o e), I.base.free b o (I.ok.bs b o e).1 (I.ok.bs b o e).2 (I.ok.noex b o e)⟩
theorem Inv.bk (I : Inv X pins σ H s) : ∀ b o, X.base.get? b = some o → s.heap.get? b = some o := fun b o e => (I.bs b o e).1
theorem Inv.mod (I : Inv X pins σ H s) : Mod X.K X.mg X.base := I.ok.mod
theorem Inv.kIn (I : Inv X pins σ H s) : X.K.In s.heap := I.ok.mod.kin.keeps I.bk
theorem Inv.lt (I : Inv X pins σ H s) : X.env.locals < s.heap.objs.size := let ⟨_, hn, _⟩ := I.loc; hn.lt
theorem Inv.sz (I : Inv X pins σ H s) : X.s₀.heap.objs.size ≤ s.heap.objs.size := Nat.le_trans I.ok.above (Nat.le_of_lt I.lt)
theorem Inv.nofs (I : Inv X pins σ H s) {a : Addr} (h : s.heap.objs.size ≤ a) : a ∉ X.fs := fun hb => by
  obtain ⟨_, o, ho, _⟩ := I.ok.funs.mem hb
  exact absurd (Nat.lt_of_lt_of_le (Heap.lt_size ho) (Nat.le_trans I.sz h)) (Nat.lt_irrefl _)
theorem Inv.cne (I : Inv X pins σ H s) : ∀ x c, X.env.cells.lookup x = some c → c ≠ X.env.locals := fun x c e z => by
  obtain ⟨v, o, ho, hd⟩ := I.cell x c e
  obtain ⟨m, ⟨o', es, ep, ho', hd', _⟩, _⟩ := I.loc
  rw [z, ho'] at ho; cases ho; rw [hd'] at hd; cases hd
theorem Inv.funs (I : Inv X pins σ H s) : s.heap.FunFrames X.base X.outer := by
  have all : ∀ (l : List Env), (∀ b ∈ frs l, b ∈ X.fs) → X.s₀.heap.FunFrames X.base l → s.heap.FunFrames X.base l := by
    intro l
    induction l with
    | nil => intro _ _; trivial
    | cons env r ih =>
      intro hs hl
      obtain ⟨hk, ⟨L, o, hf, hn, ho, hd⟩, hr⟩ := hl
      have hL : L ∈ X.fs := hs L (by unfold frs; rw [List.filterMap_cons, hf]; exact List.mem_cons_self)
      obtain ⟨sl, e⟩ := I.base.slot L o ho (I.ok.frf L hL) hL fun z => I.ok.exfs L z hL
      exact ⟨hk, ⟨L, _, hf, hn, e, hd⟩, ih (fun b hb => hs b (by unfold frs; rw [List.filterMap_cons, hf]; exact List.mem_cons_of_mem _ hb)) hr⟩
  exact all X.outer (fun _ hb => hb) I.ok.funs

/-- the frames that run, for a call -/
theorem Inv.stack (I : Inv X pins σ H s) : s.heap.FunFrames X.base X.stack := by
  rcases I.ok.stk with e | ⟨e, hf⟩
  · rw [e]; exact I.funs
  · rw [e]
    obtain ⟨m, hn, _⟩ := I.loc
    refine .cons (by rw [I.ok.kind]; decide) hf hn ?_ I.funs
    exact Heap.get?_none_of_le (Nat.le_trans I.ok.bsz I.ok.above)
theorem Inv.stkSub (I : Inv X pins σ H s) : ∀ b ∈ frs X.stack, b ∈ X.env.locals :: X.fs := fun b hb => by
  rcases I.ok.stk with e | ⟨e, hf⟩
  · rw [e] at hb; exact List.mem_cons_of_mem _ hb
  · rw [e] at hb
    unfold frs at hb
    rw [List.filterMap_cons, hf] at hb
    exact hb
theorem Inv.stkFree (I : Inv X pins σ H s) : ∀ b ∈ frs X.stack, H b = none := fun b hb => by
  rcases List.mem_cons.mp (I.stkSub b hb) with e | hb
  · rw [e]; exact I.free
  · obtain ⟨_, o, ho, _⟩ := I.ok.funs.mem hb
    exact I.base.free b o ho (I.ok.frf b hb) fun z => I.ok.exfs b z hb

/-- THE STEP: the untracked objects but the frame and the records at ch are kept (the callers' frames up to slots), the frame's map is kept, the new abstract heap is held -/
theorem Inv.step {g' : Array GenState} {t' : Nat} {d' : Drawn} {ch : List Addr} (I : Inv X pins σ H s)
    (hch : ∀ b ∈ ch, (b ∈ X.ex ∨ X.s₀.heap.objs.size ≤ b) ∧ b ≠ X.env.locals ∧ (∀ x c, X.env.cells.lookup x = some c → c ≠ b) ∧ ∀ p ∈ X.pn ++ pins, p.1 ≠ b)
    (keep : ∀ b o, b ≠ X.env.locals → b ∉ X.fs → b ∉ ch → s.heap.get? b = some o → H b = none → h'.get? b = some o)
    (slot : ∀ b o, b ≠ X.env.locals → b ∈ X.fs → b ∉ ch → s.heap.get? b = some o → H b = none → ∃ sl, h'.get? b = some { o with slots := sl }) (free : ∀ b o, b ∉ ch → s.heap.get? b = some o → H b = none → H' b = none)
    (there : ∀ b o, b ∉ ch → s.heap.get? b = some o → ∃ o', h'.get? b = some o')
    (tups : ∀ b xs, H b = some (.tup xs) → H' b = some (.tup xs)) (frzs : ∀ b o u, H b = some (.frz o u) → H' b = some (.frz o u)) (tbls : ∀ b ps, H b = some (.tbl ps) → ∃ more, H' b = some (.tbl (ps ++ more)))
    (ns : ∀ m, s.heap.Ns X.env.locals m → h'.Ns X.env.locals m) (hok : HOk X.prog X.w H' h') (hg : AllBare g') :
    Inv X pins σ H' { s with heap := h', gens := g', drawn := d', toks := t' } := by
  have neL : ∀ b o, X.s₀.heap.get? b = some o → b ≠ X.env.locals := fun b o e => Nat.ne_of_lt (Nat.lt_of_lt_of_le (Heap.lt_size e) I.ok.above)
  have neC : ∀ b o, X.s₀.heap.get? b = some o → b ∉ X.ex → b ∉ ch := fun b o e hx hb => by
    rcases (hch b hb).1 with z | z
    · exact hx z
    · exact absurd (Nat.lt_of_lt_of_le (Heap.lt_size e) z) (Nat.lt_irrefl _)
  have cellK : ∀ x c, X.env.cells.lookup x = some c → ∀ v, s.heap.IsCell c v → h'.IsCell c v := fun x c e v ⟨o, ho, hd⟩ => by
    have nch : c ∉ ch := fun z => (hch c z).2.2.1 x c e rfl
    by_cases hc : c ∈ X.fs
    · obtain ⟨sl, q⟩ := slot c o (I.cne x c e) hc nch ho (I.freeC x c e)
      exact ⟨_, q, hd⟩
    · exact ⟨o, keep c o (I.cne x c e) hc nch ho (I.freeC x c e), hd⟩
  refine ⟨I.ok, I.os, hg, ⟨fun b o e n hb hx => ?_, fun b o e n hb hx => ?_, fun b o e n hx => ?_, fun b o e hx => ?_, fun b xs e => tups b xs (I.base.tups b xs e), fun b o xs e => frzs b o xs (I.base.frzs b o xs e), fun b ps e => ?_⟩, ?_, fun x c e => ?_, ?_, fun x c e => ?_, fun p hp => ?_, hok, I.len⟩
  · exact keep b o (neL b o e) hb (neC b o e hx) (I.base.keep b o e n hb hx) (I.base.free b o e n hx)
  · obtain ⟨sl, e1⟩ := I.base.slot b o e n hb hx
    obtain ⟨sl', e2⟩ := slot b _ (neL b o e) hb (neC b o e hx) e1 (I.base.free b o e n hx)
    exact ⟨sl', e2⟩
  · obtain ⟨o', e1⟩ := I.base.there b o e hx
    exact free b o' (neC b o e hx) e1 (I.base.free b o e n hx)
  · obtain ⟨o', e1⟩ := I.base.there b o e hx
    exact there b o' (neC b o e hx) e1
  · obtain ⟨m1, e1⟩ := I.base.tbls b ps e
    obtain ⟨m2, e2⟩ := tbls b _ e1
    exact ⟨m1 ++ m2, by rw [e2, Array.append_assoc]⟩
  · obtain ⟨m, hn, hl⟩ := I.loc
    refine ⟨m, ns m hn, fun i x v e1 e2 e3 => ?_⟩
    obtain ⟨u, r, l⟩ := hl i x v e1 e2 e3
    refine ⟨u, r, ?_⟩
    rcases l with l | ⟨k, c, e, z⟩
    · exact .inl l
    · exact .inr ⟨k, c, e, cellK x c e _ z⟩
  · obtain ⟨v, z⟩ := I.cell x c e
    exact ⟨v, cellK x c e v z⟩
  · obtain ⟨m, ⟨o, _, _, ho, _⟩, _⟩ := I.loc
    exact free _ o (fun z => (hch _ z).2.1 rfl) ho I.free
  · obtain ⟨v, o, ho, hd⟩ := I.cell x c e
    exact free c o (fun z => (hch c z).2.2.1 x c e rfl) ho (I.freeC x c e)
  · obtain ⟨e, n, ne, nf, d⟩ := I.pin p hp
    have nch : p.1 ∉ ch := fun z => (hch p.1 z).2.2.2 p hp rfl
    exact ⟨keep p.1 p.2 ne nf nch e n, free p.1 p.2 nch e n, ne, nf, d⟩
/-- .. where the frame's own object is kept too -/
theorem Inv.un {t' : Nat} (I : Inv X pins σ H s) (u : Un X.fs [] H H' s.heap h') (hok : HOk X.prog X.w H' h') : Inv X pins σ H' { s with heap := h', toks := t' } := by
  obtain ⟨m, ⟨o, es, ep, ho, r⟩, _⟩ := id I.loc
  obtain ⟨sl, hL⟩ := u.any ho I.free (by simp)
  exact I.step (g' := s.gens) (d' := s.drawn) (ch := []) (fun _ z => nomatch z) (fun b o _ hb _ e n => u.keep b o e n hb (by simp)) (fun b o _ hb _ e n => u.slot b o e n hb (by simp)) (fun b o _ e n => u.free b o e n (by simp)) (fun b o _ e => u.there b o e (by simp)) u.tups u.frzs u.tbls (fun m' hm => by
    obtain ⟨o', es', ep', ho', r'⟩ := hm
    rw [ho] at ho'; cases ho'
    exact ⟨_, es', ep', hL, r'⟩) hok I.bare
/-- behind a call (or a comprehension's block): the slots of this frame may have changed too, the records at ch may have turned -/
theorem Inv.call {g' : Array GenState} {t' : Nat} {d' : Drawn} {ch : List Addr} (I : Inv X pins σ H s) (u : Un (frs X.stack) ch H H' s.heap h') (hok : HOk X.prog X.w H' h') (hg : AllBare g')
    (hch : ∀ b ∈ ch, (b ∈ X.ex ∨ X.s₀.heap.objs.size ≤ b) ∧ b ≠ X.env.locals ∧ (∀ x c, X.env.cells.lookup x = some c → c ≠ b) ∧ ∀ p ∈ X.pn ++ pins, p.1 ≠ b) :
    Inv X pins σ H' { s with heap := h', gens := g', drawn := d', toks := t' } := by
  obtain ⟨m, ⟨o, es, ep, ho, r⟩, _⟩ := id I.loc
  obtain ⟨sl, hL⟩ := u.any ho I.free fun z => (hch _ z).2.1 rfl
  exact I.step (ch := ch) hch (fun b o hL hb hc e n => u.keep b o e n (fun z => (List.mem_cons.mp (I.stkSub b z)).elim hL hb) hc) (fun b o _ _ hc e n => u.any e n hc) (fun b o hc e n => u.free b o e n hc) (fun b o hc e => u.there b o e hc) u.tups u.frzs u.tbls (fun m' hm => by
    obtain ⟨o', es', ep', ho', r'⟩ := hm
    rw [ho] at ho'; cases ho'
    exact ⟨_, es', ep', hL, r'⟩) hok hg
/-- an untracked record of ours (an iterator) has turned -/
theorem Inv.turned {t' : Nat} {it : Addr} (I : Inv X pins σ H s) (k : ∀ b o, b ≠ it → s.heap.get? b = some o → h'.get? b = some o) (hn : H it = none) (hL : it ≠ X.env.locals)
    (h1 : it ∈ X.ex ∨ X.s₀.heap.objs.size ≤ it) (h2 : ∀ x c, X.env.cells.lookup x = some c → c ≠ it) (h3 : ∀ p ∈ X.pn ++ pins, p.1 ≠ it) : Inv X pins σ H { s with heap := h', toks := t' } := by
  have nit : ∀ b u, H b = some u → b ≠ it := fun b u e z => by rw [z, hn] at e; cases e
  refine I.step (g' := s.gens) (d' := s.drawn) (ch := [it]) (fun b hb => ?_) (fun b o _ _ hc e _ => k b o (fun z => hc (by simp [z])) e) (fun b o _ _ hc e _ => ⟨o.slots, k b o (fun z => hc (by simp [z])) e⟩) (fun _ _ _ _ n => n)
    (fun b o hc e => ⟨o, k b o (fun z => hc (by simp [z])) e⟩) (fun _ _ e => e) (fun _ _ _ e => e) (fun b ps e => ⟨#[], by rw [e]; simp⟩) (fun m hm => ?_) (fun b u e => ?_) I.bare
  · have e : b = it := by simpa using hb
    subst e
    exact ⟨h1, hL, h2, h3⟩
  · obtain ⟨o, es, ep, ho, r⟩ := hm
    exact ⟨o, es, ep, k _ o (Ne.symm hL) ho, r⟩
  · refine (I.hok b u e).stay (fun c v hc q => k c v ?_ q) (fun _ q => q) fun _ _ q => q
    rcases hc with z | z
    · rw [z]; exact nit b u e
    · exact nit c _ z
theorem Inv.tok (I : Inv X pins σ H s) (t : Nat) : Inv X pins σ H { s with toks := t } := I.un (h' := s.heap) (t' := t) Un.refl I.hok
/-- all objects kept -/
theorem Inv.kept {t' : Nat} (I : Inv X pins σ H s) (k : ∀ b u, s.heap.get? b = some u → h'.get? b = some u) : Inv X pins σ H { s with heap := h', toks := t' } := I.un (Un.kept k) (I.hok.kept k)
/-- a new object laid and tracked -/
theorem Inv.laid {a : Addr} {o : HO} {t' : Nat} (I : Inv X pins σ H s) (k : ∀ b u, s.heap.get? b = some u → h'.get? b = some u) (hp : s.heap.objs.size ≤ a) (new : ObjOk X.prog X.w (upd H a o) h' a o) :
    Inv X pins σ (upd H a o) { s with heap := h', toks := t' } := I.un (Un.laid k hp (I.hok.fresh hp)) (I.hok.laid k hp new)
/-- an object written -/
theorem Inv.write {x e : Addr} {o : HO} {t' : Nat} (I : Inv X pins σ H s) (mu : Mut (H x)) (he : e = x ∨ H e = some (.own x)) (k : ∀ b u, b ≠ e → s.heap.get? b = some u → h'.get? b = some u) (heo : ∃ u, h'.get? e = some u)
    (new : ObjOk X.prog X.w (upd H x o) h' x o) : Inv X pins σ (upd H x o) { s with heap := h', toks := t' } := I.un (Un.write mu he k heo) (I.hok.write mu he k heo new)
theorem Inv.pins_of {pins' : List (Addr × Obj)} (I : Inv X pins σ H s) (h : ∀ p ∈ pins', s.heap.get? p.1 = some p.2 ∧ H p.1 = none ∧ p.1 ≠ X.env.locals ∧ p.1 ∉ X.fs ∧ ∀ v, p.2.data ≠ .cell v) : Inv X pins' σ H s :=
  ⟨I.ok, I.os, I.bare, I.base, I.loc, I.cell, I.free, I.freeC, fun p hp => (List.mem_append.mp hp).elim (fun z => I.pin p (List.mem_append_left _ z)) (h p), I.hok, I.len⟩

theorem nodup_ix {N : List Str} (hN : N.Nodup) {i j : Nat} {x : Str} (a : N[i]? = some x) (b : N[j]? = some x) : i = j := by
  obtain ⟨h1, e1⟩ := List.getElem?_eq_some_iff.mp a
  obtain ⟨h2, e2⟩ := List.getElem?_eq_some_iff.mp b
  exact (List.getElem_inj hN).mp (e1.trans e2.symm)

/-- a name is stored; what changed -/
theorem store_ok2 {M : Model} {A : Around} {E : Value → Shared → Prop} {i : Nat} {x : Str} {v : V} {u : Value} {Q : Unit → Shared → Prop} (I : Inv X pins σ H s) (hN : X.N.Nodup) (hi : X.N[i]? = some x) (hx : Loc X.env.scope x) (r : RelV v u)
    (h : ∀ s', Inv X pins (σ.set i (some v)) H s' → (∃ a, Heap.SameBut a s.heap s'.heap ∧ (a = X.env.locals ∨ X.env.cells.lookup x = some a)) → Q () s') (hf : X.fn x = true ∨ X.env.scope.names.lookup x = some .local := by first | exact .inl rfl | exact .inr rfl | assumption) : wpAny M A (storeName X.env x u) Q E s := by
  obtain ⟨m, hn, hl⟩ := id I.loc
  have hcls : (X.env.scope.kind == .class || (X.env.scope.kind == .module && X.env.locals != X.env.globals)) = false := by rw [I.ok.kind]; rfl
  have hiσ : i < σ.length := by rw [I.len]; exact (List.getElem?_eq_some_iff.mp hi).1
  have cne := I.cne
  have tracked : ∀ {a : Addr} {h' : Heap}, (∃ o, s.heap.get? a = some o ∧ H a = none) → Heap.SameBut a s.heap h' → HOk X.prog X.w H h' := fun {a h'} ha hs b ob e => by
    obtain ⟨_, _, hfree⟩ := ha
    refine (I.hok b ob e).stay (fun c w' hc q => (hs.2 c ?_).trans q) (fun _ q => q) fun _ _ q => q
    rintro rfl
    rcases hc with rfl | hc
    · rw [hfree] at e; cases e
    · rw [hfree] at hc; cases hc
  rcases hx with hk | hk
  · refine wpAny_storeName_local hk hn (fun h' hn' hs => ?_) hcls
    obtain ⟨oL, _, _, hoL, _⟩ := id hn
    refine h _ ⟨I.ok, I.os, I.bare, ⟨fun b o e n hb hx => ?_, fun b o e n hb hx => ?_, I.base.free, fun b o e hx => ?_, I.base.tups, I.base.frzs, I.base.tbls⟩, ⟨_, hn', fun j y v' e1 e2 e3 => ?_⟩, fun y c e => ?_, I.free, I.freeC, fun p hp => ?_, tracked ⟨oL, hoL, I.free⟩ hs, by simpa using I.len⟩ ⟨_, hs, .inl rfl⟩
    · exact (hs.2 b (Nat.ne_of_lt (Nat.lt_of_lt_of_le (Heap.lt_size e) I.ok.above))).trans (I.base.keep b o e n hb hx)
    · obtain ⟨sl, e1⟩ := I.base.slot b o e n hb hx
      exact ⟨sl, (hs.2 b (Nat.ne_of_lt (Nat.lt_of_lt_of_le (Heap.lt_size e) I.ok.above))).trans e1⟩
    · obtain ⟨o', e1⟩ := I.base.there b o e hx
      exact ⟨o', (hs.2 b (Nat.ne_of_lt (Nat.lt_of_lt_of_le (Heap.lt_size e) I.ok.above))).trans e1⟩
    · by_cases hj : j = i
      · subst hj
        rw [hi] at e1; cases e1
        rw [List.getElem?_set_self hiσ] at e2
        cases e2
        exact ⟨u, r, .inl ⟨hk, by simp⟩⟩
      · rw [List.getElem?_set_ne (Ne.symm hj)] at e2
        obtain ⟨u', r', q⟩ := hl j y v' e1 e2 e3
        refine ⟨u', r', ?_⟩
        rcases q with ⟨k, e⟩ | ⟨k, c, e, z⟩
        · refine .inl ⟨k, ?_⟩
          have : y ≠ x := fun e => hj (nodup_ix hN e1 (e ▸ hi))
          simp [this, e]
        · exact .inr ⟨k, c, e, z.sameBut hs (cne y c e)⟩
    · obtain ⟨w', z⟩ := I.cell y c e
      exact ⟨w', z.sameBut hs (cne y c e)⟩
    · obtain ⟨e, n, ne, nf, d⟩ := I.pin p hp
      exact ⟨(hs.2 p.1 ne).trans e, n, ne, nf, d⟩
  · have hfn : X.fn x = true := by
      rcases hf with z | z
      · exact z
      · rw [z] at hk; cases hk
    obtain ⟨c, hc⟩ := I.ok.has x (.inl hk)
    obtain ⟨w', z⟩ := I.cell x c hc
    refine wpAny_storeName_cell I.ok.kind hk hc z (fun h' hc' hs => ?_)
    obtain ⟨oc, hoc, hocd⟩ := id z
    refine h { s with heap := h' } ⟨I.ok, I.os, I.bare, ⟨fun b o e n hb hx => ?_, fun b o e n hb hx => ?_, I.base.free, fun b o e hx => ?_, I.base.tups, I.base.frzs, I.base.tbls⟩, ⟨m, hn.sameBut hs (Ne.symm (cne x c hc)), fun j y v' e1 e2 e3 => ?_⟩, fun y c' e => ?_, I.free, I.freeC, fun p hp => ?_, tracked ⟨oc, hoc, I.freeC x c hc⟩ hs, by simpa using I.len⟩ ⟨c, hs, .inr hc⟩
    · exact (hs.2 b (Nat.ne_of_lt (Nat.lt_of_lt_of_le (Heap.lt_size e) (I.ok.cab x c hfn hc)))).trans (I.base.keep b o e n hb hx)
    · obtain ⟨sl, e1⟩ := I.base.slot b o e n hb hx
      exact ⟨sl, (hs.2 b (Nat.ne_of_lt (Nat.lt_of_lt_of_le (Heap.lt_size e) (I.ok.cab x c hfn hc)))).trans e1⟩
    · obtain ⟨o', e1⟩ := I.base.there b o e hx
      exact ⟨o', (hs.2 b (Nat.ne_of_lt (Nat.lt_of_lt_of_le (Heap.lt_size e) (I.ok.cab x c hfn hc)))).trans e1⟩
    · by_cases hj : j = i
      · subst hj
        rw [hi] at e1; cases e1
        rw [List.getElem?_set_self hiσ] at e2
        cases e2
        exact ⟨u, r, .inr ⟨.inl hk, c, hc, hc'⟩⟩
      · rw [List.getElem?_set_ne (Ne.symm hj)] at e2
        obtain ⟨u', r', q⟩ := hl j y v' e1 e2 e3
        refine ⟨u', r', ?_⟩
        rcases q with q | ⟨k, c', e, z'⟩
        · exact .inl q
        · refine .inr ⟨k, c', e, z'.sameBut hs ?_⟩
          rintro rfl
          exact hj (nodup_ix hN e1 (I.ok.inj _ _ _ e hc ▸ hi))
    · by_cases hcc : c' = c
      · subst hcc; exact ⟨_, hc'⟩
      · obtain ⟨w2, z2⟩ := I.cell y c' e
        exact ⟨w2, z2.sameBut hs hcc⟩
    · obtain ⟨e, n, ne, nf, d⟩ := I.pin p hp
      refine ⟨(hs.2 p.1 ?_).trans e, n, ne, nf, d⟩
      intro q
      rw [q, hoc] at e
      have q' : oc = p.2 := Option.some.inj e
      exact d w' (by rw [← q']; exact hocd)
theorem store_ok {M : Model} {A : Around} {E : Value → Shared → Prop} {i : Nat} {x : Str} {v : V} {u : Value} {Q : Unit → Shared → Prop} (I : Inv X pins σ H s) (hN : X.N.Nodup) (hi : X.N[i]? = some x) (hx : Loc X.env.scope x) (r : RelV v u)
    (h : ∀ s', Inv X pins (σ.set i (some v)) H s' → Q () s') (hf : X.fn x = true ∨ X.env.scope.names.lookup x = some .local := by first | exact .inl rfl | exact .inr rfl | assumption) : wpAny M A (storeName X.env x u) Q E s :=
  store_ok2 I hN hi hx r (fun s' I' _ => h s' I') hf
/-- behind a call or a block, the state as it is -/
theorem Inv.call' {s' : Shared} {ch : List Addr} (I : Inv X pins σ H s) (ho : s'.os = s.os) (u : Un (frs X.stack) ch H H' s.heap s'.heap) (hok : HOk X.prog X.w H' s'.heap) (hg : AllBare s'.gens)
    (hch : ∀ b ∈ ch, (b ∈ X.ex ∨ X.s₀.heap.objs.size ≤ b) ∧ b ≠ X.env.locals ∧ (∀ x c, X.env.cells.lookup x = some c → c ≠ b) ∧ ∀ p ∈ X.pn ++ pins, p.1 ≠ b) : Inv X pins σ H' s' := by
  obtain ⟨h', g', d', t', o'⟩ := s'
  have e : o' = s.os := ho
  subst e
  exact I.call (g' := g') (t' := t') (d' := d') u hok hg hch
end

/-- an exception: its class, its own dict's address (where it has one), the abstract heap behind it -/
abbrev XK := Value → Option Addr → Hp → Prop
abbrev St := List (Option V)
abbrev VK := V → Hp → Prop
/-- an expression's reading; a test's; an argument list's -/
abbrev TE := St → Hp → VK → Prop
abbrev TT := St → Hp → (Bool → Hp → Prop) → Prop
abbrev TA := St → Hp → (List V → Hp → Prop) → Prop
/-- what is wanted behind a statement -/
structure Ends where
  nx : St → Hp → Prop
  rt : VK
  bk : St → Hp → Prop := fun _ _ => False
  ct : St → Hp → Prop := fun _ _ => False
abbrev TS := Ends → St → Hp → Prop

def EP (X : Cx) (pins : List (Addr × Obj)) (σ : St) (Q : VK) (u : Value) (s' : Shared) : Prop := ∃ v H', Inv X pins σ H' s' ∧ RelV v u ∧ Q v H'
def TP (X : Cx) (pins : List (Addr × Obj)) (σ : St) (Q : Bool → Hp → Prop) (b : Bool) (s' : Shared) : Prop := ∃ H', Inv X pins σ H' s' ∧ Q b H'
def AP (X : Cx) (pins : List (Addr × Obj)) (σ : St) (Q : List V → Hp → Prop) (us : List Value) (s' : Shared) : Prop := ∃ vs H', Inv X pins σ H' s' ∧ Vals vs us ∧ Q vs H'
def SP (X : Cx) (pins : List (Addr × Obj)) (D : Ends) (f : Flow) (s' : Shared) : Prop :=
  match f with
  | .next => ∃ σ' H', Inv X pins σ' H' s' ∧ D.nx σ' H'
  | .brk => ∃ σ' H', Inv X pins σ' H' s' ∧ D.bk σ' H'
  | .cont => ∃ σ' H', Inv X pins σ' H' s' ∧ D.ct σ' H'
  | .ret u => ∃ v σ' H', Inv X pins σ' H' s' ∧ RelV v u ∧ D.rt v H'

def PE (X : Cx) (e : Expr) (t : TE) : Prop :=
  ∀ (pins : List (Addr × Obj)) (s : Shared) (σ : St) (H : Hp) (Q : VK), Inv X pins σ H s → t σ H Q → wpAny (model X.prog X.w) X.A (eval e X.env) (EP X pins σ Q) X.xe s
def PT (X : Cx) (e : Expr) (t : TT) : Prop :=
  ∀ (pins : List (Addr × Obj)) (s : Shared) (σ : St) (H : Hp) (Q : Bool → Hp → Prop), Inv X pins σ H s → t σ H Q → wpAny (model X.prog X.w) X.A (isTrue e X.env (eval e X.env)) (TP X pins σ Q) X.xe s
/-- a test whatever its 'whole' is (and, or) -/
def PW (X : Cx) (e : Expr) (t : TT) : Prop :=
  ∀ (whole : Sem Value) (pins : List (Addr × Obj)) (s : Shared) (σ : St) (H : Hp) (Q : Bool → Hp → Prop), Inv X pins σ H s → t σ H Q → wpAny (model X.prog X.w) X.A (isTrue e X.env whole) (TP X pins σ Q) X.xe s
theorem PW.pt {X : Cx} {e : Expr} {t : TT} (h : PW X e t) : PT X e t := h _
/-- an argument list (no star), from the left -/
def PA (X : Cx) (es : List Expr) (t : TA) : Prop :=
  ∀ (pos : Pos) (pins : List (Addr × Obj)) (s : Shared) (σ : St) (H : Hp) (Q : List V → Hp → Prop), Inv X pins σ H s → t σ H Q → wpAny (model X.prog X.w) X.A (spliced (backTo pos (starEach es X.env))) (AP X pins σ Q) X.xe s
def PS (X : Cx) (st : Stmt) (t : TS) : Prop :=
  ∀ (pins : List (Addr × Obj)) (s : Shared) (σ : St) (H : Hp) (D : Ends), Inv X pins σ H s → t D σ H → wpAny (model X.prog X.w) X.A (exec st X.env) (SP X pins D) X.xe s
def PSs (X : Cx) (st : List Stmt) (t : TS) : Prop :=
  ∀ (pins : List (Addr × Obj)) (s : Shared) (σ : St) (H : Hp) (D : Ends), Inv X pins σ H s → t D σ H → wpAny (model X.prog X.w) X.A (execs st X.env) (SP X pins D) X.xe s
/-- weaken the end -/
theorem thn {α : Type} {t : Sem α} {Q Q' : α → Shared → Prop} {M : Model} {A : Around} {E : Value → Shared → Prop} {s : Shared} (h : wpAny M A t Q E s) (hQ : ∀ a s, Q a s → Q' a s) : wpAny M A t Q' E s := wpAny_mono h hQ fun _ _ x => x
end L2

namespace L2
open PySem PySem.Spec PyProof.Rows
section
variable {X : Cx}

def tVar (i : Nat) : TE := fun σ H Q => ∃ v, σ[i]? = some (some v) ∧ Q v H
def tC (v : V) : TE := fun _ H Q => Q v H
theorem pe_var {i : Nat} {x : Str} {pos : Pos} (hN : X.N[i]? = some x) (hv : Vis X.env.scope x) (hd : (x == ("__debug__" : Str)) = false := by decide) (hcd : (x == ("__classdict__" : Str)) = false := by decide) : PE X (.Name x pos) (tVar i) := by
  intro pins s σ H Q I h
  obtain ⟨v, e, h⟩ := h
  obtain ⟨m, hn, hl⟩ := I.loc
  obtain ⟨u, r, l⟩ := hl i x v hN e hv
  have fin : EP X pins σ Q u s := ⟨v, H, I, r, h⟩
  rcases l with ⟨hk, hm⟩ | ⟨hk, c, hc, hcell⟩
  · exact wpAny_Name (wpAny_loadName_local I.ok.kind hk hn hm fin) hd
  · rcases hk with hk | hk
    · exact wpAny_Name (wpAny_loadName_cell I.ok.kind hk hc hcell fin) hd
    · exact wpAny_Name (wpAny_loadName_free I.ok.kind hk hc hcell fin hcd) hd
theorem pe_int {i j pos} : PE X (.Constant (.int i) j pos) (tC (.int i)) := fun _ _ _ H _ I h => wpAny_Constant_int ⟨.int i, H, I.tok _, ⟨_, rfl⟩, h⟩
theorem pe_bl {b j pos} : PE X (.Constant (.bool b) j pos) (tC (.bl b)) := fun _ _ _ H _ I h => Constant_bool ⟨.bl b, H, I, rfl, h⟩
theorem pe_non {j pos} : PE X (.Constant .none j pos) (tC .non) := fun _ _ _ H _ I h => Constant_none ⟨.non, H, I, rfl, h⟩
theorem pe_str {x j pos} : PE X (.Constant (.str x) j pos) (tC (.str x)) := fun _ _ _ H _ I h => Calls.Constant_str ⟨.str x, H, I.tok _, ⟨_, rfl⟩, h⟩

/-- a global name of the def -/
def Gl (X : Cx) (x : Str) : Prop := X.env.kindOf x = some .globalImplicit
theorem ld_glob {E : Value → Shared → Prop} {pins : List (Addr × Obj)} {s : Shared} {σ : St} {H : Hp} {x : Str} {u : Value} {pos : Pos} {Q : Value → Shared → Prop} (I : Inv X pins σ H s) (hg : Gl X x) (hm : X.mg x = some u) (h : Q u s)
    (hd : (x == ("__debug__" : Str)) = false := by decide) : wpAny (model X.prog X.w) X.A (eval (.Name x pos) X.env) Q E s :=
  Calls.Name_function_global I.ok.kind hg (Calls.loadGlobal_global (by rw [I.ok.glob]; exact I.mod.glob.keeps I.bk) hm h) hd
theorem ld_blt {E : Value → Shared → Prop} {pins : List (Addr × Obj)} {s : Shared} {σ : St} {H : Hp} {x : Str} {u : Value} {pos : Pos} {Q : Value → Shared → Prop} (I : Inv X pins σ H s) (hg : Gl X x) (hm : X.mg x = none) (hv : bootBuiltins x = some u) (h : Q u s)
    (hn : x ≠ "__name__" := by decide) (hd : (x == ("__debug__" : Str)) = false := by decide) : wpAny (model X.prog X.w) X.A (eval (.Name x pos) X.env) Q E s := by
  obtain ⟨mb, h1, h2⟩ := I.mod.blt
  exact Calls.Name_function_global I.ok.kind hg (Calls.loadGlobal_builtin (by rw [I.ok.glob]; exact I.mod.glob.keeps I.bk) hm (by rw [I.ok.blt]; exact h1.keeps I.bk) ((h2 x hn).trans hv) h) hd
/-- a module's constant, a class, a function, as a value -/
theorem pe_glob {x : Str} {v : V} {u : Value} {pos : Pos} (hg : Gl X x) (hm : X.mg x = some u) (r : RelV v u) (hd : (x == ("__debug__" : Str)) = false := by decide) : PE X (.Name x pos) (tC v) :=
  fun _ _ _ H _ I h => ld_glob I hg hm ⟨v, H, I, r, h⟩ hd
theorem pe_bltn {x : Str} {v : V} {u : Value} {pos : Pos} (hg : Gl X x) (hm : X.mg x = none) (hv : bootBuiltins x = some u) (r : RelV v u) (hn : x ≠ "__name__" := by decide) (hd : (x == ("__debug__" : Str)) = false := by decide) : PE X (.Name x pos) (tC v) :=
  fun _ _ _ H _ I h => ld_blt I hg hm hv ⟨v, H, I, r, h⟩ hn hd

variable {a b : Expr} {ta tb : TE} {pos : Pos}
/-- a comparison as a value, as a test -/
def tB (t : TE) : TT := fun σ H Q => t σ H fun x H1 => ∃ c, x = .bl c ∧ Q c H1
/-- an expression whose value is a bool, as a test -/
theorem pt_val {e : Expr} {t : TE} (h : PE X e t) (he : ∀ whole, isTrue e X.env whole = (do let v ← whole; standAt e.pos; holding [v] (truthy v)) := by intro _; rfl) : PT X e (tB t) := by
  intro pins s σ H Q I hw
  refine isTrue_plain (thn (h pins s σ H _ I hw) fun v s1 ⟨x, H1, I1, r1, q1⟩ => ?_) (he _)
  obtain ⟨d, rfl, q⟩ := q1
  cases r1
  exact wpAny_truthy_bool ⟨H1, I1, q⟩

variable {tA tB' : TT} {rest : List Expr}
def tAnd (t u : TT) : TT := fun σ H Q => t σ H fun c H1 => if c = true then u σ H1 Q else Q false H1
def tOr (t u : TT) : TT := fun σ H Q => t σ H fun c H1 => if c = true then Q true H1 else u σ H1 Q
def tNot (t : TT) : TT := fun σ H Q => t σ H fun c H1 => Q (!c) H1
theorem pw_and1 (ha : PT X a tA) : PW X (.BoolOp .And [a] pos) tA := by
  intro wh pins s σ H Q I h
  refine isTrue_and (thn (ha pins s σ H Q I h) fun c s1 e => ?_)
  cases c with
  | true => exact isTrue_and_nil e
  | false => exact e
theorem pw_or1 (ha : PT X a tA) : PW X (.BoolOp .Or [a] pos) tA := by
  intro wh pins s σ H Q I h
  refine isTrue_or (thn (ha pins s σ H Q I h) fun c s1 e => ?_)
  cases c with
  | false => exact isTrue_or_nil e
  | true => exact e
theorem pw_and (ha : PT X a tA) (hb : PW X (.BoolOp .And (b :: rest) pos) tB') : PW X (.BoolOp .And (a :: b :: rest) pos) (tAnd tA tB') := by
  intro wh pins s σ H Q I h
  refine isTrue_and (thn (ha pins s σ H _ I h) fun c s1 ⟨H1, I1, q1⟩ => ?_)
  cases c with
  | true => exact hb wh pins s1 σ H1 Q I1 q1
  | false => exact ⟨H1, I1, q1⟩
theorem pw_or (ha : PT X a tA) (hb : PW X (.BoolOp .Or (b :: rest) pos) tB') : PW X (.BoolOp .Or (a :: b :: rest) pos) (tOr tA tB') := by
  intro wh pins s σ H Q I h
  refine isTrue_or (thn (ha pins s σ H _ I h) fun c s1 ⟨H1, I1, q1⟩ => ?_)
  cases c with
  | true => exact ⟨H1, I1, q1⟩
  | false => exact hb wh pins s1 σ H1 Q I1 q1
theorem pt_not (ha : PT X a tA) : PT X (.UnaryOp .Not a pos) (tNot tA) := by
  intro pins s σ H Q I h
  exact isTrue_not (ha pins s σ H (fun c H1 => Q (!c) H1) I h)
/-- .. as values (bools) -/
def tAndV (ta tb : TE) : TE := fun σ H Q => ta σ H fun x H1 => ∃ c, x = .bl c ∧ if c = true then tb σ H1 Q else Q (.bl false) H1
def tOrV (ta tb : TE) : TE := fun σ H Q => ta σ H fun x H1 => ∃ c, x = .bl c ∧ if c = true then Q (.bl true) H1 else tb σ H1 Q
def tNotV (ta : TE) : TE := fun σ H Q => ta σ H fun x H1 => ∃ c, x = .bl c ∧ Q (.bl (!c)) H1
theorem pe_one {op} {t : TE} (h : PE X a t) : PE X (.BoolOp op [a] pos) t := fun pins s σ H Q I hw => BoolOp_one (h pins s σ H Q I hw)
theorem pe_and (ha : PE X a ta) (hb : PE X (.BoolOp .And (b :: rest) pos) tb) : PE X (.BoolOp .And (a :: b :: rest) pos) (tAndV ta tb) := by
  intro pins s σ H Q I h
  refine BoolOp_and (thn (ha pins s σ H _ I h) fun v s1 ⟨x, H1, I1, r1, q1⟩ => ?_)
  obtain ⟨c, rfl, q1⟩ := q1
  cases r1
  refine wpAny_truthy_bool ?_
  cases c with
  | true => exact hb pins s1 σ H1 Q I1 q1
  | false => exact ⟨.bl false, H1, I1, rfl, q1⟩
theorem pe_not (ha : PE X a ta) : PE X (.UnaryOp .Not a pos) (tNotV ta) := by
  intro pins s σ H Q I h
  refine UnaryOp_ (thn (ha pins s σ H _ I h) fun v s1 ⟨x, H1, I1, r1, q1⟩ => ?_)
  obtain ⟨c, rfl, q1⟩ := q1
  cases r1
  exact not_of (wpAny_truthy_bool ⟨.bl (!c), H1, I1, rfl, q1⟩)
/-- a if t else b -/
def tIf (t : TT) (ta tb : TE) : TE := fun σ H Q => t σ H fun c H1 => if c = true then ta σ H1 Q else tb σ H1 Q
end
end L2

namespace L2
open PySem PySem.Spec PyProof.Rows

def SqL (K : PySem.W.Frag) (H : Hp) (a : Addr) (xs : List V) : Prop :=
  Rd H a (.lst xs) ∨
    ∃ (o : Obj) (its : Array Value) (n : Nat), K.lookup a = some o ∧ o.cls = .type "list" ∧ o.dict = none ∧ o.data = .seq its n ∧ its.size ≤ sizeLine ∧ Vals xs its.toList
def SqT (K : PySem.W.Frag) (H : Hp) (a : Addr) (xs : List V) : Prop :=
  Rd H a (.tup xs) ∨
    ∃ (o : Obj) (its : Array Value) (n : Nat), K.lookup a = some o ∧ o.cls = .type "tuple" ∧ o.data = .seq its n ∧ its.size ≤ sizeLine ∧ Vals xs its.toList
def absV : Value → Option V
  | .none => some .non
  | .bool b => some (.bl b)
  | .int i _ => some (.int i)
  | .str x _ => some (.str x)
  | .bytes b _ => some (.byt b)
  | .float b _ => some (.flt b)
  | .ref a => some (.ref a)
  | .type n => some (.ty n)
  | _ => none
theorem RelV.abs {x : V} {u : Value} (r : RelV x u) : absV u = some x := by
  cases x with
  | non => cases r; rfl
  | bl _ => cases r; rfl
  | int _ => obtain ⟨t, rfl⟩ := r; rfl
  | str _ => obtain ⟨t, rfl⟩ := r; rfl
  | byt _ => obtain ⟨t, rfl⟩ := r; rfl
  | flt _ => obtain ⟨t, rfl⟩ := r; rfl
  | ref _ => cases r; rfl
  | ty _ => cases r; rfl
theorem RelV.inj {x y : V} {u : Value} (r : RelV x u) (q : RelV y u) : x = y := Option.some.inj (r.abs.symm.trans q.abs)
theorem Vals.inj : ∀ {xs ys : List V} {us : List Value}, Vals xs us → Vals ys us → xs = ys
  | _, _, _, .nil, .nil => rfl
  | _, _, _, .cons r t, .cons r' t' => by rw [r.inj r', Vals.inj t t']
section
variable {X : Cx} {pins : List (Addr × Obj)} {σ : St} {H : Hp} {s : Shared} {a : Addr} {xs ys : List V}
theorem SqL.of {K : PySem.W.Frag} (h : H a = some (.lst xs)) : SqL K H a xs := .inl (.inl h)
theorem SqT.of {K : PySem.W.Frag} (h : H a = some (.tup xs)) : SqT K H a xs := .inl (.inl h)
theorem Inv.list (I : Inv X pins σ H s) (h : SqL X.K H a xs) : ∃ its : List Value, Vals xs its ∧ PlainL s.heap a its.toArray ∧ xs.length ≤ sizeLine := by
  rcases h with h | ⟨o, its, n, hk, hc, hd, hs, hz, r⟩
  · obtain ⟨z, its, n, r, e⟩ := h.ok I.hok
    exact ⟨its, r, ⟨_, n, e, rfl, rfl, rfl⟩, z⟩
  · refine ⟨its.toList, r, ⟨o, n, I.kIn a o hk, hc, hd, by simpa using hs⟩, ?_⟩
    have e := r.length
    simp only [Array.length_toList] at e
    omega
theorem Inv.tuple (I : Inv X pins σ H s) (h : SqT X.K H a xs) : ∃ its : List Value, Vals xs its ∧ IsTup s.heap a its.toArray ∧ xs.length ≤ sizeLine := by
  rcases h with h | ⟨o, its, n, hk, hc, hs, hz, r⟩
  · obtain ⟨z, its, r, p⟩ := h.ok I.hok
    exact ⟨its, r, p, z⟩
  · refine ⟨its.toList, r, ⟨o, I.kIn a o hk, hc, n, by simpa using hs⟩, ?_⟩
    have e := r.length
    simp only [Array.length_toList] at e
    omega
theorem Inv.list_inj (I : Inv X pins σ H s) (h : SqL X.K H a xs) (h' : SqL X.K H a ys) : xs = ys := by
  obtain ⟨its, r, ⟨o, n, e, _, _, d⟩, _⟩ := I.list h
  obtain ⟨its', r', ⟨o', n', e', _, _, d'⟩, _⟩ := I.list h'
  rw [e] at e'; cases e'
  rw [d] at d'
  injection d' with d1 _
  have : its = its' := by simpa using congrArg Array.toList d1
  subst this
  exact r.inj r'
end

abbrev Cx.wish (X : Cx) (E : Value → Shared → Prop) : Cx := { X with xe := E }
/-- no exception leaves -/
abbrev Cx.nox (X : Cx) : Cx := X.wish fun _ _ => False
theorem Cx.Ok.wish {X : Cx} (ok : X.Ok) (E : Value → Shared → Prop) : (X.wish E).Ok :=
  ⟨ok.mod, ok.kind, ok.glob, ok.blt, ok.above, ok.inj, ok.has, ok.cab, ok.hd, ok.frames, ok.stk, ok.exf, ok.bs, ok.bsz, ok.noex, ok.exfs, ok.funs, ok.frf⟩
theorem Cx.Ok.unwish {X : Cx} {E : Value → Shared → Prop} (ok : (X.wish E).Ok) : X.Ok :=
  ⟨ok.mod, ok.kind, ok.glob, ok.blt, ok.above, ok.inj, ok.has, ok.cab, ok.hd, ok.frames, ok.stk, ok.exf, ok.bs, ok.bsz, ok.noex, ok.exfs, ok.funs, ok.frf⟩
section
variable {X : Cx} {pins : List (Addr × Obj)} {σ : St} {H : Hp} {s : Shared} {E : Value → Shared → Prop}
theorem Inv.wish (I : Inv X pins σ H s) (E : Value → Shared → Prop) : Inv (X.wish E) pins σ H s := ⟨I.ok.wish E, I.os, I.bare, I.base, I.loc, I.cell, I.free, I.freeC, I.pin, I.hok, I.len⟩
theorem Inv.unwish (I : Inv (X.wish E) pins σ H s) : Inv X pins σ H s := ⟨I.ok.unwish, I.os, I.bare, I.base, I.loc, I.cell, I.free, I.freeC, I.pin, I.hok, I.len⟩
theorem SP.unwish {D : Ends} {f : Flow} {s' : Shared} (h : SP (X.wish E) pins D f s') : SP X pins D f s' := by
  cases f with
  | next => obtain ⟨σ', H', I, q⟩ := h; exact ⟨σ', H', I.unwish, q⟩
  | brk => obtain ⟨σ', H', I, q⟩ := h; exact ⟨σ', H', I.unwish, q⟩
  | cont => obtain ⟨σ', H', I, q⟩ := h; exact ⟨σ', H', I.unwish, q⟩
  | ret u => obtain ⟨v, σ', H', I, r, q⟩ := h; exact ⟨v, σ', H', I.unwish, r, q⟩
theorem PSs.nox {st : List Stmt} {t : TS} (h : PSs X.nox st t) : PSs X st t := fun pins s σ H D I hw =>
  wpAny_mono (h pins s σ H D (I.wish _) hw) (fun _ _ q => q.unwish) fun _ _ z => False.elim z
end

section
variable {X : Cx} {st : Stmt} {rest : List Stmt} {t u : TS} {e : Expr} {te : TE} {pos : Pos}
def tNext : TS := fun D σ H => D.nx σ H
def tSeq (t u : TS) : TS := fun D σ H => t { D with nx := u D } σ H
theorem pss_nil : PSs X [] tNext := fun _ _ σ H _ I h => wpAny_execs_nil ⟨σ, H, I, h⟩
theorem pss_cons (h1 : PS X st t) (h2 : PSs X rest u) : PSs X (st :: rest) (tSeq t u) := by
  intro pins s σ H D I h
  refine wpAny_execs_cons (thn (h1 pins s σ H { D with nx := u D } I h) fun f s1 q => ?_)
  cases f with
  | next =>
    obtain ⟨σ', H', I', q⟩ := q
    exact h2 pins s1 σ' H' D I' q
  | ret v => exact q
  | brk => exact q
  | cont => exact q
theorem pss_one (h1 : PS X st t) : PSs X [st] t := by
  intro pins s σ H D I h
  refine wpAny_execs_cons (thn (h1 pins s σ H D I h) fun f s1 q => ?_)
  cases f with
  | next => exact wpAny_execs_nil q
  | ret v => exact q
  | brk => exact q
  | cont => exact q
/-- in a def's body nothing is shown -/
theorem Inv.quiet {pins : List (Addr × Obj)} {σ : St} {H : Hp} {s : Shared} (I : Inv X pins σ H s) : interactive X.env = false := by simp [interactive, I.ok.kind]
/-- an expression whose value is dropped -/
def tDrop (te : TE) : TS := fun D σ H => te σ H fun _ H1 => D.nx σ H1
theorem ps_expr (he : PE X e te) (hs : swapsWith e none pos.line X.env = pure false := by rfl) : PS X (.Expr e pos) (tDrop te) := by
  intro pins s σ H D I h
  exact wpAny_Expr_any (thn (he pins s σ H _ I h) fun v s1 ⟨x, H1, I1, r1, q1⟩ => ⟨σ, H1, I1, q1⟩) I.quiet hs
def tRet (te : TE) : TS := fun D σ H => te σ H D.rt
theorem ps_ret (he : PE X e te) : PS X (.Return (some e) pos) (tRet te) := by
  intro pins s σ H D I h
  exact wpAny_Return_some (thn (he pins s σ H _ I h) fun v s1 ⟨x, H1, I1, r1, q1⟩ => ⟨x, σ, H1, I1, r1, q1⟩)
def tRetN : TS := fun D _ H => D.rt .non H
def tIfS (c : TT) (t u : TS) : TS := fun D σ H => c σ H fun b H1 => if b = true then t D σ H1 else u D σ H1
theorem ps_if {c : Expr} {a b : List Stmt} {tc : TT} (hc : PT X c tc) (ha : PSs X a t) (hb : PSs X b u) : PS X (.If c a b pos) (tIfS tc t u) := by
  intro pins s σ H D I h
  refine wpAny_If (thn (hc pins s σ H _ I h) fun d s1 ⟨H1, I1, q1⟩ => ?_)
  cases d with
  | true => exact ha pins s1 σ H1 D I1 q1
  | false => exact hb pins s1 σ H1 D I1 q1
/-- code that the proof never comes to -/
def tNever : TS := fun _ _ _ => False
end

abbrev TG := V → St → Hp → (St → Hp → Prop) → Prop
abbrev TGs := List V → St → Hp → (St → Hp → Prop) → Prop
def PG (X : Cx) (target : Expr) (t : TG) : Prop :=
  ∀ (pins : List (Addr × Obj)) (s : Shared) (σ : St) (H : Hp) (v : V) (u : Value) (Q : St → Hp → Prop), Inv X pins σ H s → RelV v u → t v σ H Q →
    wpAny (model X.prog X.w) X.A (assign target X.env u) (fun _ s' => ∃ σ' H', Inv X pins σ' H' s' ∧ Q σ' H') X.xe s
/-- several targets, one after another -/
def PGs (X : Cx) (ts : List Expr) (t : TGs) : Prop :=
  ∀ (pins : List (Addr × Obj)) (s : Shared) (σ : St) (H : Hp) (vs : List V) (us : List Value) (Q : St → Hp → Prop), Inv X pins σ H s → Vals vs us → t vs σ H Q →
    wpAny (model X.prog X.w) X.A (assignInOrder ((assignEach ts X.env).map (·.2)) us) (fun _ s' => ∃ σ' H', Inv X pins σ' H' s' ∧ Q σ' H') X.xe s
/-- o[i] = v, by values -/
abbrev TSet := V → V → V → Hp → (Hp → Prop) → Prop
def PSet (X : Cx) (t : TSet) : Prop :=
  ∀ (pins : List (Addr × Obj)) (s : Shared) (σ : St) (H : Hp) (o i v : V) (ov iv u : Value) (Q : Hp → Prop), Inv X pins σ H s → RelV o ov → RelV i iv → RelV v u → t o i v H Q →
    wpAny (model X.prog X.w) X.A (setItem ov iv u) (fun _ s' => ∃ H', Inv X pins σ H' s' ∧ Q H') X.xe s
/-- a op= b, by values -/
abbrev TIp := V → V → Hp → VK → Prop
section
variable {X : Cx} {pos : Pos}
def gName (i : Nat) : TG := fun v σ H Q => Q (σ.set i (some v)) H
theorem pg_name {i : Nat} {x : Str} (hN : X.N.Nodup) (hi : X.N[i]? = some x) (hx : Loc X.env.scope x) (hf : X.fn x = true ∨ X.env.scope.names.lookup x = some .local := by first | exact .inl rfl | exact .inr rfl | assumption) : PG X (.Name x pos) (gName i) := by
  intro pins s σ H v u Q I r h
  exact wpAny_assign_Name (store_ok I hN hi hx r (fun s' I' => ⟨_, H, I', h⟩) hf)
def gNil : TGs := fun vs σ H Q => vs = [] ∧ Q σ H
def gCons (t : TG) (u : TGs) : TGs := fun vs σ H Q => ∃ v r, vs = v :: r ∧ t v σ H fun σ' H' => u r σ' H' Q
theorem pgs_nil : PGs X [] gNil := by
  intro pins s σ H vs us Q I r h
  obtain ⟨e, h⟩ := h
  subst e
  cases r
  exact assignInOrder_nil ⟨σ, H, I, h⟩
theorem pgs_cons {e : Expr} {es : List Expr} {t : TG} {u : TGs} (h1 : PG X e t) (h2 : PGs X es u)
    (hs : (assignEach (e :: es) X.env).map (·.2) = assign e X.env :: (assignEach es X.env).map (·.2) := by rfl) : PGs X (e :: es) (gCons t u) := by
  intro pins s σ H vs us Q I r h
  obtain ⟨v, vr, e1, h⟩ := h
  subst e1
  cases r with
  | cons r rr =>
    rw [hs]
    refine assignInOrder_cons (thn (h1 pins s σ H _ _ _ I r h) fun _ s1 ⟨σ1, H1, I1, q1⟩ => ?_)
    exact h2 pins s1 σ1 H1 _ _ Q I1 rr q1
/-- (a, b, ..) = a tuple of that length -/
def gTup (K : PySem.W.Frag) (n : Nat) (t : TGs) : TG := fun v σ H Q => ∃ a xs, v = .ref a ∧ SqT K H a xs ∧ xs.length = n ∧ t xs σ H Q
theorem pg_tup {es : List Expr} {k : Nat} {t : TGs} {n : Nat} (hc : X.calm = true) (h : PGs X es t)
    (hn : (assignEach es X.env).length = n := by rfl) (hst : (assignEach es X.env).findIdx? (·.1) = none := by rfl) : PG X (.Tuple es k pos) (gTup X.K n t) := by
  intro pins s σ H v u Q I r hw
  obtain ⟨a, xs, e1, hq, hl, hw⟩ := hw
  subst e1
  cases r
  obtain ⟨its, rv, ht, hz⟩ := I.tuple hq
  refine assign_Tuple_tuple (I.ok.hd hc) ht (by simp [hn, ← hl, rv.length]) hst fun h' hx => ?_
  have I1 : Inv X pins σ H { s with heap := h' } := I.kept (t' := s.toks) fun b o e => hx b o (Nat.ne_of_lt (Heap.lt_size e)) e
  exact h pins _ σ H xs _ Q I1 (by simpa using rv) hw
/-- o[i] = .. -/
def gSub (to ti : TE) (t : TSet) : TG := fun v σ H Q => to σ H fun o H1 => ti σ H1 fun i H2 => t o i v H2 fun H3 => Q σ H3
theorem pg_sub {o i : Expr} {to ti : TE} {t : TSet} (ho : PE X o to) (hi : PE X i ti) (hs : PSet X t)
    (ha : ∀ v, assign (.Subscript o i pos) X.env v = (do
      let ov ← holding [v] (eval o X.env)
      let iv ← holding [v, ov] (eval i X.env)
      standAt pos
      holding [v, ov, iv] (setItem ov iv v)
      release [v, ov, iv] []) := by intro _; rfl) : PG X (.Subscript o i pos) (gSub to ti t) := by
  intro pins s σ H v u Q I r h
  rw [ha]
  refine wpAny_bind (wpAny_holding (thn (ho pins s σ H _ I h) fun ov s1 ⟨x, H1, I1, r1, q1⟩ => ?_))
  refine wpAny_bind (wpAny_holding (thn (hi pins s1 σ H1 _ I1 q1) fun iv s2 ⟨y, H2, I2, r2, q2⟩ => ?_))
  refine wpAny_bind (wpAny_standAt (wpAny_bind (wpAny_holding (thn (hs pins s2 σ H2 x y v ov iv u _ I2 r1 r2 r q2) fun _ s3 ⟨H3, I3, q3⟩ => ?_))))
  exact wpAny_release ⟨σ, H3, I3, q3⟩
/-- target = value -/
def tAsg (te : TE) (g : TG) : TS := fun D σ H => te σ H fun x H1 => g x σ H1 D.nx
theorem ps_asg {tg e : Expr} {te : TE} {g : TG} (he : PE X e te) (hg : PG X tg g) (hs : swapsWithSole [tg] e pos.line X.env = pure false := by rfl) (hw : swappedStores [tg] e X.env = pure none := by rfl)
    (h1 : (assignEach [tg] X.env).map (·.2) = [assign tg X.env] := by rfl) : PS X (.Assign [tg] e pos) (tAsg te g) := by
  intro pins s σ H D I h
  refine wpAny_Assign_stores (thn (he pins s σ H _ I h) fun v s1 ⟨x, H1, I1, r1, q1⟩ => ?_) hs hw
  rw [h1]
  exact thn (hg pins s1 σ H1 x v _ I1 r1 q1) fun _ s2 q => q
/-- name = value -/
theorem ps_set {i : Nat} {x : Str} {e : Expr} {te : TE} {pos' : Pos} (hN : X.N.Nodup) (hi : X.N[i]? = some x) (hx : Loc X.env.scope x) (he : PE X e te) (hs : swapsWith e (some (.Name x pos')) pos.line X.env = pure false := by rfl) (hf : X.fn x = true ∨ X.env.scope.names.lookup x = some .local := by first | exact .inl rfl | exact .inr rfl | assumption) :
    PS X (.Assign [.Name x pos'] e pos) (tAsg te (gName i)) := by
  intro pins s σ H D I h
  refine wpAny_Assign_Name (thn (he pins s σ H _ I h) fun v s1 ⟨y, H1, I1, r1, q1⟩ => ?_) hs
  exact store_ok I1 hN hi hx r1 (fun s2 I2 => ⟨_, H1, I2, q1⟩) hf
/-- name op= e -/
def tAug (i : Nat) (te : TE) (ti : TIp) : TS := fun D σ H => ∃ x, σ[i]? = some (some x) ∧ te σ H fun y H1 => ti x y H1 fun z H2 => D.nx (σ.set i (some z)) H2
/-- ints -/
def ipI (f : Int → Int → Int) : TIp := fun x y H Q => ∃ i j, x = .int i ∧ y = .int j ∧ Q (.int (f i j)) H
end

section
variable {X : Cx} {pos : Pos}
end

/-- at turn i: it yields x (the heap may grow), or it stops -/
structure It where
  go : Nat → Hp → Prop
  yld : Nat → Hp → V → Hp → Prop
  stop : Nat → Hp → Prop
/-- the iterator's own objects may turn: they are not the frame's, not pinned, younger than the entry (or a comprehension's own) -/
def FpOk (X : Cx) (pins : List (Addr × Obj)) (H : Hp) (b : Addr) : Prop :=
  H b = none ∧ b ≠ X.env.locals ∧ b ∉ X.fs ∧ (b ∈ X.ex ∨ X.s₀.heap.objs.size ≤ b) ∧ (∀ x c, X.env.cells.lookup x = some c → c ≠ b) ∧ ∀ p ∈ X.pn ++ pins, p.1 ≠ b
theorem Inv.fpOk {X : Cx} {pins : List (Addr × Obj)} {σ : St} {H H' : Hp} {s : Shared} {b : Addr} (I : Inv X pins σ H s) (hb : s.heap.objs.size ≤ b) (hn : H' b = none) : FpOk X pins H' b := by
  refine ⟨hn, Nat.ne_of_gt (Nat.lt_of_lt_of_le I.lt hb), I.nofs hb, .inr (Nat.le_trans I.sz hb), fun x c e z => ?_, fun p hp z => ?_⟩
  · obtain ⟨v, q⟩ := I.cell x c e
    exact absurd (Nat.lt_of_lt_of_le q.lt (by rw [z]; exact hb)) (Nat.lt_irrefl _)
  · exact absurd (Nat.lt_of_lt_of_le (Heap.lt_size (I.pin p hp).1) (by rw [z]; exact hb)) (Nat.lt_irrefl _)
structure Turn (P : Program) (w : World) (K : PySem.W.Frag) (tg : Expr) (J : It) (fp : List Addr) (it : Addr) (tn : Nat → Heap → Prop) : Prop where
  mem : it ∈ fp
  obj : ∀ i h, tn i h → ∀ b ∈ fp, ∃ o, h.get? b = some o ∧ ∀ v, o.data ≠ .cell v
  keep : ∀ i h h', tn i h → (∀ b ∈ fp, ∀ o, h.get? b = some o → h'.get? b = some o) → tn i h'
  item : ∀ (X : Cx), X.prog = P → X.w = w → X.K = K → X.calm = true → ∀ (i : Nat) (pins : List (Addr × Obj)) (s : Shared) (σ : St) (H : Hp) (E : Value → Shared → Prop), Inv X pins σ H s → (∀ b ∈ fp, FpOk X pins H b) → tn i s.heap → J.go i H →
    wpAny (model P w) X.A (pyNext (.ref it)) (fun r s1 => ∃ u, r = some u ∧
      wpAny (model P w) X.A (letOwnedTupleGo tg (.ref it) u) (fun _ s2 => ∃ x H', Inv X pins σ H' s2 ∧ RelV x u ∧ J.yld i H x H' ∧ tn (i + 1) s2.heap ∧ ∀ b ∈ fp, H' b = none) E s1) E s
  done : ∀ (X : Cx), X.prog = P → X.w = w → X.K = K → X.calm = true → ∀ (i : Nat) (pins : List (Addr × Obj)) (s : Shared) (σ : St) (H : Hp) (E : Value → Shared → Prop), Inv X pins σ H s → (∀ b ∈ fp, FpOk X pins H b) → tn i s.heap → J.stop i H →
    wpAny (model P w) X.A (pyNext (.ref it)) (fun r s1 => r = none ∧ Inv X pins σ H s1) E s
  self : ∀ (A : Around) (i : Nat) (s : Shared) (Q : Value → Shared → Prop) (E : Value → Shared → Prop), tn i s.heap → Q (.ref it) s → wpAny (model P w) A (pyIter (.ref it)) Q E s
abbrev TI := St → Hp → (It → Hp → Prop) → Prop
/-- an iterator has come -/
def PIE (X : Cx) (pins : List (Addr × Obj)) (σ : St) (tg : Expr) (R : It → Hp → Prop) (itv : Value) (s2 : Shared) : Prop :=
  ∃ (it : Addr) (fp : List Addr) (tn : Nat → Heap → Prop) (J : It) (H' : Hp), itv = .ref it ∧ Inv X pins σ H' s2 ∧ Turn X.prog X.w X.K tg J fp it tn ∧ tn 0 s2.heap ∧ (∀ b ∈ fp, FpOk X pins H' b) ∧ R J H'
def PI (X : Cx) (tg iter : Expr) (wi : TI) : Prop :=
  ∀ (pins : List (Addr × Obj)) (s : Shared) (σ : St) (H : Hp) (R : It → Hp → Prop), Inv X pins σ H s → wi σ H R →
    wpAny (model X.prog X.w) X.A (eval iter X.env) (fun v s1 => wpAny (model X.prog X.w) X.A (pyIter v) (PIE X pins σ tg R) X.xe s1) X.xe s

/-- the step ahead of the store is nothing for an iterator that keeps no tuple -/
theorem go_of {M : Model} {A : Around} {E : Value → Shared → Prop} {s : Shared} {tg : Expr} {it : Addr} {u : Value} {o : Obj} {n : String} {vs : Array Value} {Q : Unit → Shared → Prop} (ho : s.heap.get? it = some o) (hc : o.cls = .type n) (hd : o.data = .fields vs)
    (hn : ["enumerate", "zip", "dict_itemiterator", "dict_reverseitemiterator", "odict_iterator", "itertools.zip_longest", "itertools.pairwise"].contains n = false) (hQ : Q () s) : wpAny M A (letOwnedTupleGo tg (.ref it) u) Q E s := by
  unfold letOwnedTupleGo
  cases tg <;> first
    | exact wpAny_pure hQ
    | (cases u <;> first
        | exact wpAny_pure hQ
        | (refine wpAny_bind (wpAny_load ho ?_)
           rw [hc, hd]
           show wpAny M A (if (["enumerate", "zip", "dict_itemiterator", "dict_reverseitemiterator", "odict_iterator", "itertools.zip_longest", "itertools.pairwise"].contains n && vs[0]? == some (rawInt _)) = true then _ else _) Q E s
           rw [if_neg (by intro h; rw [hn, Bool.false_and] at h; cases h)]
           exact wpAny_pure hQ))

/-- the list at a, as it stands at each turn (a loop may append to it) -/
def Itl (K : PySem.W.Frag) (a : Addr) : It :=
  ⟨fun i H => ∃ xs x, SqL K H a xs ∧ xs[i]? = some x, fun i H x H' => H' = H ∧ ∀ xs, SqL K H a xs → xs[i]? = some x, fun i H => ∃ xs, SqL K H a xs ∧ xs.length ≤ i⟩
/-- lo, lo + 1, .. (n of them) -/
def Itr (lo : Int) (n : Nat) : It := ⟨fun i _ => i < n, fun i H x H' => H' = H ∧ x = .int (lo + i), fun i _ => n ≤ i⟩
theorem turn_list {P : Program} {w : World} {K : PySem.W.Frag} {tg : Expr} (a it : Addr) : Turn P w K tg (Itl K a) [it] it (fun i h => h.IsListIter it a i) where
  mem := by simp
  obj := fun i h st b hb => by
    have e : b = it := by simpa using hb
    subst e
    obtain ⟨o, e, c, d⟩ := st
    exact ⟨o, e, fun v z => by rw [d] at z; cases z⟩
  keep := fun i h h' st k => st.at fun o e => k it (by simp) o e
  item := by
    intro X hP hw hK hc i pins s σ H E I hf st hg
    subst hP hw hK
    obtain ⟨xs, x, hq, hx⟩ := hg
    obtain ⟨its, rv, p, hz⟩ := I.list hq
    obtain ⟨u, hu, ru⟩ := rv.get hx
    obtain ⟨f0, f1, f2, f3, f4, f5⟩ := hf it (by simp)
    refine wpAny_pyNext_list_item st p.isList (x := u) (by simpa using hu) fun h' st' sb => ?_
    have I1 : Inv X pins σ H { s with heap := h' } := I.turned (t' := s.toks) (fun b o hb e => (sb.2 b hb).trans e) f0 f1 f3 f4 f5
    obtain ⟨o, e, c, d⟩ := id st'
    exact ⟨u, rfl, go_of (s := { s with heap := h' }) e c d (by decide) ⟨x, H, I1, ru, ⟨rfl, fun ys hy => by rw [I.list_inj hy hq]; exact hx⟩, st', fun b hb => (hf b hb).1⟩⟩
  done := by
    intro X hP hw hK hc i pins s σ H E I hf st hg
    subst hP hw hK
    obtain ⟨xs, hq, hx⟩ := hg
    obtain ⟨its, rv, p, hz⟩ := I.list hq
    obtain ⟨f0, f1, f2, f3, f4, f5⟩ := hf it (by simp)
    have hl := rv.length
    exact wpAny_pyNext_list_end (I.ok.hd hc) st p.isList (by simp; omega) fun h' eb => ⟨rfl, I.turned (t' := s.toks) (fun b o hb e => eb b o hb e) f0 f1 f3 f4 f5⟩
  self := fun _ _ _ _ _ st h => wpAny_pyIter_listiter st h
theorem turn_range {P : Program} {w : World} {K : PySem.W.Frag} {tg : Expr} (it : Addr) (lo : Int) (n : Nat) : Turn P w K tg (Itr lo n) [it] it (fun i h => IsRangeIter h it (lo + (i : Nat) * 1) ((n : Int) - (i : Nat)) 1) where
  mem := by simp
  obj := fun i h st b hb => by
    have e : b = it := by simpa using hb
    subst e
    exact ⟨_, st, fun v z => by
      have z' : Data.fields _ = Data.cell v := z
      cases z'⟩
  keep := fun i h h' st k => k it (by simp) _ st
  item := by
    intro X hP hw hK hc i pins s σ H E I hf st hg
    subst hP hw hK
    obtain ⟨f0, f1, f2, f3, f4, f5⟩ := hf it (by simp)
    have W := Walks.range (prog := X.prog) (w := X.w) (I.ok.hd hc) it lo 1 n
    refine W.item i s _ _ hg st fun v h' tk hv st' kk => ?_
    obtain ⟨t, rfl⟩ := hv
    have I1 : Inv X pins σ H { s with heap := h', toks := tk } := I.turned (fun b o hb e => kk b o (by simpa using hb) e) f0 f1 f3 f4 f5
    refine ⟨_, rfl, go_of (s := { s with heap := h', toks := tk }) (n := "range_iterator") st' rfl rfl (by decide) ⟨.int (lo + i), H, I1, ⟨t, ?_⟩, ⟨rfl, rfl⟩, st', fun b hb => (hf b hb).1⟩⟩
    rw [Int.mul_one]
  done := by
    intro X hP hw hK hc i pins s σ H E I hf st hg
    subst hP hw hK
    obtain ⟨f0, f1, f2, f3, f4, f5⟩ := hf it (by simp)
    exact wpAny_pyNext_range_end (I.ok.hd hc) st (by have : n ≤ i := hg; omega) fun h' eb => ⟨rfl, I.turned (t' := s.toks) (fun b o hb e => eb b o hb e) f0 f1 f3 f4 f5⟩
  self := fun _ _ _ _ _ st h => wpAny_pyIter_rangeiter st h
end L2

namespace L2
open PySem PySem.Spec PyProof.Rows
section
variable {X : Cx} {tg : Expr}
def iList (K : PySem.W.Frag) (tl : TE) : TI := fun σ H R => tl σ H fun x H1 => ∃ a, x = .ref a ∧ (∃ xs, SqL K H1 a xs) ∧ R (Itl K a) H1
theorem pi_list {l : Expr} {tl : TE} (hl : PE X l tl) : PI X tg l (iList X.K tl) := by
  intro pins s σ H R I h
  refine thn (hl pins s σ H _ I h) fun v s1 ⟨x, H1, I1, r1, q1⟩ => ?_
  obtain ⟨a, e, ⟨xs, hq⟩, q⟩ := q1
  subst e
  cases r1
  obtain ⟨its, rv, p, hz⟩ := I1.list hq
  refine wpAny_pyIter_list p.isList ?_
  refine ⟨s1.heap.objs.size, [s1.heap.objs.size], _, _, H1, rfl, I1.kept (t' := s1.toks) fun b o e => Heap.get?_push_of_some _ e, turn_list a _, ⟨_, Heap.get?_push_size _ rfl, rfl, rfl⟩, fun b hb => ?_, q⟩
  have e : b = s1.heap.objs.size := by simpa using hb
  subst e
  exact I1.fpOk (Nat.le_refl _) (I1.hok.fresh (Nat.le_refl _))
/-- a range object just made, walked -/
theorem range_it {pins : List (Addr × Obj)} {σ : St} {H : Hp} {s : Shared} {R : It → Hp → Prop} {E : Value → Shared → Prop} {lo hi : Int} {t u v : Tok} {tk : Nat} (I : Inv X pins σ H s) (h1 : -(2 ^ 62) ≤ lo) (h2 : lo < 2 ^ 62) (h3 : -(2 ^ 62) ≤ hi) (h4 : hi < 2 ^ 62)
    (q : R (Itr lo (hi - lo).toNat) H) : wpAny (model X.prog X.w) X.A (pyIter (.ref s.heap.objs.size)) (PIE X pins σ tg R) E { s with heap := s.heap.push { cls := .type "range", data := .fields #[.int lo t, .int hi u, .int 1 v] }, toks := tk } := by
  refine wpAny_pyIter_range (IsRange.new ..) (small_one h1 h2 h3 h4) ?_
  have I1 : Inv X pins σ H { s with heap := s.heap.push { cls := .type "range", data := .fields #[.int lo t, .int hi u, .int 1 v] }, toks := tk } := I.kept fun b o e => Heap.get?_push_of_some _ e
  refine ⟨(s.heap.push { cls := .type "range", data := .fields #[.int lo t, .int hi u, .int 1 v] }).objs.size, [(s.heap.push { cls := .type "range", data := .fields #[.int lo t, .int hi u, .int 1 v] }).objs.size], _, _, H, rfl,
    I1.kept (t' := tk) fun b o e => Heap.get?_push_of_some _ e, turn_range _ lo (hi - lo).toNat, ?_, fun b hb => ?_, q⟩
  · have e1 : lo + ((0 : Nat) : Int) * 1 = lo := by simp
    have e2 : (((hi - lo).toNat : Nat) : Int) - ((0 : Nat) : Int) = Builtin.Range.rangeSize lo hi 1 := by rw [rangeSize_one]; split <;> omega
    show IsRangeIter _ _ (lo + ((0 : Nat) : Int) * 1) ((((hi - lo).toNat : Nat) : Int) - ((0 : Nat) : Int)) 1
    rw [e1, e2]
    exact Heap.get?_push_size _ rfl
  · have e : b = (s.heap.push { cls := .type "range", data := .fields #[.int lo t, .int hi u, .int 1 v] }).objs.size := by simpa using hb
    subst e
    exact I1.fpOk (Nat.le_refl _) (I1.hok.fresh (Nat.le_refl _))
def iRng1 (ta : TA) : TI := fun σ H R => ta σ H fun vs H1 => ∃ j : Int, vs = [.int j] ∧ -(2 ^ 62) ≤ j ∧ j < 2 ^ 62 ∧ R (Itr 0 j.toNat) H1
def iRng2 (ta : TA) : TI := fun σ H R => ta σ H fun vs H1 => ∃ i j : Int, vs = [.int i, .int j] ∧ (-(2 ^ 62) ≤ i ∧ i < 2 ^ 62 ∧ -(2 ^ 62) ≤ j ∧ j < 2 ^ 62) ∧ R (Itr i (j - i).toNat) H1
theorem pi_range1 {a : Expr} {ta : TA} {p pos : Pos} (hg : Gl X "range") (hm : X.mg "range" = none) (ha : PA X [a] ta) (hs : starEach [a] X.env = [(false, eval a X.env)] := by rfl) : PI X tg (.Call (.Name "range" p) [a] [] pos) (iRng1 ta) := by
  intro pins s σ H R I h
  refine Call_ (ld_blt I hg hm boot_range (PyProof.Rows.callWith_type1 (thn (ha pos pins s σ H _ I h) fun us s1 ⟨vs, H1, I1, r1, q1⟩ => ?_) hs rfl))
  obtain ⟨j, e, q1, q2, q⟩ := q1
  subst e
  cases r1 with
  | cons r rr =>
    cases rr
    obtain ⟨t, rfl⟩ := r
    exact call_range_1 (range_it I1 (by omega) (by omega) q1 q2 (by simpa using q))
/-- W: the invariant by the turn and a measure; N: what the body is to reach -/
def tFor (wi : TI) (g : TG) (tb : TS) : TS := fun D σ H => wi σ H fun J H1 => ∃ W : Nat → Nat → St → Hp → Prop, (∃ m, W 0 m σ H1) ∧ ∀ i m σ H, W i m σ H →
  (J.stop i H ∧ D.nx σ H) ∨ (J.go i H ∧ ∃ N : St → Hp → Prop, (∀ σ' H', N σ' H' → ∃ m', m' < m ∧ W (i + 1) m' σ' H') ∧ ∀ x H', J.yld i H x H' → g x σ H' fun σ2 H2 => tb { D with nx := N, ct := N, bk := D.nx } σ2 H2)
/-- the records at fp as they stand -/
def pinsAt (fp : List Addr) (h : Heap) : List (Addr × Obj) := fp.filterMap fun b => (h.get? b).map fun o => (b, o)
theorem mem_pinsAt {fp : List Addr} {h : Heap} {b : Addr} {o : Obj} (hb : b ∈ fp) (e : h.get? b = some o) : (b, o) ∈ pinsAt fp h := List.mem_filterMap.mpr ⟨b, hb, by rw [e]; rfl⟩
theorem of_pinsAt {fp : List Addr} {h : Heap} {p : Addr × Obj} (hp : p ∈ pinsAt fp h) : p.1 ∈ fp ∧ h.get? p.1 = some p.2 := by
  obtain ⟨b, hb, e⟩ := List.mem_filterMap.mp hp
  cases q : h.get? b with
  | none => rw [q] at e; cases e
  | some o =>
    rw [q] at e
    have e' : (b, o) = p := Option.some.inj e
    subst e'
    exact ⟨hb, q⟩
theorem Inv.pinned {pins : List (Addr × Obj)} {σ : St} {H : Hp} {s : Shared} {fp : List Addr} (I : Inv X pins σ H s) (hf : ∀ b ∈ fp, FpOk X pins H b) (ho : ∀ b ∈ fp, ∃ o, s.heap.get? b = some o ∧ ∀ v, o.data ≠ .cell v) : Inv X (pins ++ pinsAt fp s.heap) σ H s :=
  I.pins_of fun p hp => (List.mem_append.mp hp).elim (fun z => I.pin p (List.mem_append_right _ z)) fun z => by
    obtain ⟨hb, e⟩ := of_pinsAt z
    obtain ⟨f0, f1, f2, _⟩ := hf p.1 hb
    obtain ⟨o, e', d⟩ := ho p.1 hb
    rw [e] at e'; cases e'
    exact ⟨e, f0, f1, f2, d⟩
theorem Inv.unpinned {pins pl : List (Addr × Obj)} {σ : St} {H : Hp} {s : Shared} (I : Inv X (pins ++ pl) σ H s) : Inv X pins σ H s := I.pins_of fun p hp => I.pin p (List.mem_append_right _ (List.mem_append_left _ hp))
theorem ps_for {iter : Expr} {body : List Stmt} {wi : TI} {g : TG} {tb : TS} {pos : Pos} (hp : PassesOwn (model X.prog X.w) X.A X.env X.xe) (hc : X.calm = true) (hi : PI X tg iter wi) (hg : PG X tg g) (hb : PSs X body tb)
    (hs : ∀ x, foldedSetIterable iter X.env x = pure x := by intro _; rfl) : PS X (.For tg iter body [] pos) (tFor wi g tb) := by
  intro pins s σ H D I h
  refine wpAny_For (thn (hi pins s σ H _ I h) fun v s1 h1 => thn h1 fun itv s2 h2 => ?_) hs
  obtain ⟨it, fp, tn, J, H2, e, I2, T, st2, f2, W, ⟨m0, w0⟩, turn⟩ := h2
  subst e
  -- what stays true of the iterator's objects through the loop
  have stat : ∀ {H' : Hp}, (∀ b ∈ fp, H' b = none) → ∀ b ∈ fp, FpOk X pins H' b := fun hn b hb => ⟨hn b hb, (f2 b hb).2⟩
  refine codeAny_forLoop_any (fun n s' => ∃ i σ' H', Inv X pins σ' H' s' ∧ tn i s'.heap ∧ (∀ b ∈ fp, H' b = none) ∧ W i n σ' H') ?_ m0 ⟨0, σ, H2, I2, st2, fun b hb => (f2 b hb).1, w0⟩
  rintro n s3 ⟨i, σ3, H3, I3, st3, fr3, w3⟩
  rcases turn i n σ3 H3 w3 with ⟨stop, qn⟩ | ⟨go, N, hN, step⟩
  · refine wpAny_passesOwn hp (thn (T.done X rfl rfl rfl hc i pins s3 σ3 H3 X.xe I3 (stat fr3) st3 stop) fun r s4 ⟨hr, I4⟩ => ?_)
    subst hr
    exact wpAny_execs_nil ⟨σ3, H3, I4, qn⟩
  · refine wpAny_passesOwn hp (thn (T.item X rfl rfl rfl hc i pins s3 σ3 H3 X.xe I3 (stat fr3) st3 go) fun r s4 ⟨u, hr, h4⟩ => ?_)
    subst hr
    refine wpAny_passesOwn hp (thn h4 fun _ s5 ⟨x, H5, I5, r5, y5, st5, fr5⟩ => ?_)
    have I5' := I5.pinned (stat fr5) (T.obj _ _ st5)
    refine wpAny_passesOwn hp (thn (hg _ s5 σ3 H5 x u _ I5' r5 (step x H5 y5)) fun _ s6 ⟨σ6, H6, I6, q6⟩ => ?_)
    refine wpAny_passesOwn hp (thn (hb _ s6 σ6 H6 _ I6 q6) fun f s7 q7 => ?_)
    have again : ∀ {σ7 : St} {H7 : Hp}, Inv X (pins ++ pinsAt fp s5.heap) σ7 H7 s7 → N σ7 H7 → ∃ m, m < n ∧ ∃ i σ' H', Inv X pins σ' H' s7 ∧ tn i s7.heap ∧ (∀ b ∈ fp, H' b = none) ∧ W i m σ' H' := fun {σ7 H7} I7 n7 => by
      obtain ⟨m', hm, w7⟩ := hN σ7 H7 n7
      refine ⟨m', hm, i + 1, σ7, H7, I7.unpinned, T.keep _ _ _ st5 fun b hb o e => (I7.pin (b, o) (List.mem_append_right _ (List.mem_append_right _ (mem_pinsAt hb e)))).1, fun b hb => ?_, w7⟩
      obtain ⟨o, e, d⟩ := T.obj _ _ st5 b hb
      exact (I7.pin (b, o) (List.mem_append_right _ (List.mem_append_right _ (mem_pinsAt hb e)))).2.1
    cases f with
    | next => obtain ⟨σ7, H7, I7, n7⟩ := q7; exact again I7 n7
    | cont => obtain ⟨σ7, H7, I7, n7⟩ := q7; exact again I7 n7
    | brk => obtain ⟨σ7, H7, I7, q7⟩ := q7; exact ⟨σ7, H7, I7.unpinned, q7⟩
    | ret v => obtain ⟨x7, σ7, H7, I7, r7, q7⟩ := q7; exact ⟨x7, σ7, H7, I7.unpinned, r7, q7⟩
end

theorem for_range {lo : Int} {n : Nat} {g : TG} {tb : TS} {D : Ends} {σ : St} {H : Hp} (Pv : Nat → St → Hp → Prop) (h0 : Pv 0 σ H)
    (hs : ∀ i σ H, i < n → Pv i σ H → g (.int (lo + i)) σ H fun σ2 H2 => tb { D with nx := Pv (i + 1), ct := Pv (i + 1), bk := D.nx } σ2 H2) (hd : ∀ σ H, Pv n σ H → D.nx σ H) :
    ∃ W : Nat → Nat → St → Hp → Prop, (∃ m, W 0 m σ H) ∧ ∀ i m σ H, W i m σ H →
      ((Itr lo n).stop i H ∧ D.nx σ H) ∨ ((Itr lo n).go i H ∧ ∃ N : St → Hp → Prop, (∀ σ' H', N σ' H' → ∃ m', m' < m ∧ W (i + 1) m' σ' H') ∧ ∀ x H', (Itr lo n).yld i H x H' → g x σ H' fun σ2 H2 => tb { D with nx := N, ct := N, bk := D.nx } σ2 H2) := by
  refine ⟨fun i m σ H => m = n - i ∧ i ≤ n ∧ Pv i σ H, ⟨n, by simp, Nat.zero_le _, h0⟩, ?_⟩
  rintro i m σ H ⟨rfl, hi, p⟩
  by_cases hlt : i < n
  · refine .inr ⟨hlt, Pv (i + 1), fun σ' H' p' => ⟨n - (i + 1), by omega, rfl, hlt, p'⟩, fun x H' y => ?_⟩
    obtain ⟨e, y⟩ := y
    subst e y
    exact hs i σ _ hlt p
  · have e : i = n := by omega
    subst e
    exact .inl ⟨Nat.le_refl _, hd σ H p⟩
end L2

namespace L2
open PySem PySem.Spec PyProof.Rows

abbrev R2 := V → V → Hp → VK → Prop
/-- a two-place operation on values: f is binaryOp op, inplaceOp op or compareOp op -/
def OpR (X : Cx) (f : Value → Value → Sem Value) (r : R2) : Prop :=
  ∀ (pins : List (Addr × Obj)) (s : Shared) (σ : St) (H : Hp) (x y : V) (v u : Value) (Q : VK), Inv X pins σ H s → RelV x v → RelV y u → r x y H Q →
    wpAny (model X.prog X.w) X.A (f v u) (EP X pins σ Q) X.xe s
/-- a one-place operation -/
def UnR (X : Cx) (f : Value → Sem Value) (r : V → Hp → VK → Prop) : Prop :=
  ∀ (pins : List (Addr × Obj)) (s : Shared) (σ : St) (H : Hp) (x : V) (v : Value) (Q : VK), Inv X pins σ H s → RelV x v → r x H Q →
    wpAny (model X.prog X.w) X.A (f v) (EP X pins σ Q) X.xe s
/-- a call of a value that is known (a builtin, a type) with values -/
def CallR (X : Cx) (f : Value) (r : List V → Hp → VK → Prop) : Prop :=
  ∀ (pins : List (Addr × Obj)) (s : Shared) (σ : St) (H : Hp) (xs : List V) (us : List Value) (Q : VK), Inv X pins σ H s → Vals xs us → r xs H Q →
    wpAny (model X.prog X.w) X.A (call f us) (EP X pins σ Q) X.xe s
def tOp (r : R2) (ta tb : TE) : TE := fun σ H Q => ta σ H fun x H1 => tb σ H1 fun y H2 => r x y H2 Q
def tUn (r : V → Hp → VK → Prop) (ta : TE) : TE := fun σ H Q => ta σ H fun x H1 => r x H1 Q
/-- ints in, under C, and a value out -/
def rI (C : Int → Int → Prop) (g : Int → Int → V) : R2 := fun x y H Q => ∃ i j, x = .int i ∧ y = .int j ∧ C i j ∧ Q (g i j) H
def rI0 (g : Int → Int → V) : R2 := fun x y H Q => ∃ i j, x = .int i ∧ y = .int j ∧ Q (g i j) H
def rU (g : Int → V) : V → Hp → VK → Prop := fun x H Q => ∃ i, x = .int i ∧ Q (g i) H

section
variable {X : Cx} {a b c : Expr} {ta tb tc : TE} {pos : Pos}

theorem binT (ha : PE X a ta) (hb : PE X b tb) {pins : List (Addr × Obj)} {s : Shared} {σ : St} {H : Hp} {R : V → V → Hp → Prop} (I : Inv X pins σ H s)
    (h : ta σ H fun x H1 => tb σ H1 fun y H2 => R x y H2) {Q : Value → Shared → Prop} {f : Value → Value → Sem Value}
    (hf : ∀ v u s2 x y H2, Inv X pins σ H2 s2 → RelV x v → RelV y u → R x y H2 → wpAny (model X.prog X.w) X.A (f v u) Q X.xe s2) :
    wpAny (model X.prog X.w) X.A (eval a X.env) (fun v s₁ => wpAny (model X.prog X.w) X.A (eval b X.env) (fun u s₂ => wpAny (model X.prog X.w) X.A (f v u) Q X.xe s₂) X.xe s₁) X.xe s := by
  refine thn (ha pins s σ H _ I h) fun v s1 ⟨x, H1, I1, r1, q1⟩ => ?_
  refine thn (hb pins s1 σ H1 _ I1 q1) fun u s2 ⟨y, H2, I2, r2, q2⟩ => ?_
  exact hf v u s2 x y H2 I2 r1 r2 q2

theorem pe_op {op : Operator} {r : R2} (ho : OpR X (binaryOp op) r) (ha : PE X a ta) (hb : PE X b tb) : PE X (.BinOp a op b pos) (tOp r ta tb) := by
  intro pins s σ H Q I h
  exact wpAny_BinOp (binT ha hb I h fun v u s2 x y H2 I2 rx ry q => ho pins s2 σ H2 x y v u Q I2 rx ry q)
theorem pe_un {op : UnaryOp} {r : V → Hp → VK → Prop} (ho : UnR X (unaryOp op) r) (ha : PE X a ta) : PE X (.UnaryOp op a pos) (tUn r ta) := by
  intro pins s σ H Q I h
  exact UnaryOp_ (thn (ha pins s σ H _ I h) fun v s1 ⟨x, H1, I1, r1, q1⟩ => ho pins s1 σ H1 x v Q I1 r1 q1)
theorem opI {f : Value → Value → Sem Value} {C : Int → Int → Prop} {g : Int → Int → Int}
    (rule : ∀ (i j : Int) (t u : Tok) (s : Shared) (Q : Value → Shared → Prop) (E : Value → Shared → Prop), C i j → Q (.int (g i j) s.toks) { s with toks := s.toks + 1 } → wpAny (model X.prog X.w) X.A (f (.int i t) (.int j u)) Q E s) :
    OpR X f (rI C fun i j => .int (g i j)) := by
  intro pins s σ H x y v u Q I rx ry h
  obtain ⟨i, j, rfl, rfl, hc, q⟩ := h
  obtain ⟨t, rfl⟩ := rx
  obtain ⟨t', rfl⟩ := ry
  exact rule i j t t' s _ _ hc ⟨.int (g i j), H, I.tok _, ⟨_, rfl⟩, q⟩
theorem opI0 {f : Value → Value → Sem Value} {g : Int → Int → Int}
    (rule : ∀ (i j : Int) (t u : Tok) (s : Shared) (Q : Value → Shared → Prop) (E : Value → Shared → Prop), Q (.int (g i j) s.toks) { s with toks := s.toks + 1 } → wpAny (model X.prog X.w) X.A (f (.int i t) (.int j u)) Q E s) :
    OpR X f (rI0 fun i j => .int (g i j)) := by
  intro pins s σ H x y v u Q I rx ry h
  obtain ⟨i, j, rfl, rfl, q⟩ := h
  obtain ⟨t, rfl⟩ := rx
  obtain ⟨t', rfl⟩ := ry
  exact rule i j t t' s _ _ ⟨.int (g i j), H, I.tok _, ⟨_, rfl⟩, q⟩
theorem opB0 {f : Value → Value → Sem Value} {g : Int → Int → Bool}
    (rule : ∀ (i j : Int) (t u : Tok) (s : Shared) (Q : Value → Shared → Prop) (E : Value → Shared → Prop), Q (.bool (g i j)) s → wpAny (model X.prog X.w) X.A (f (.int i t) (.int j u)) Q E s) :
    OpR X f (rI0 fun i j => .bl (g i j)) := by
  intro pins s σ H x y v u Q I rx ry h
  obtain ⟨i, j, rfl, rfl, q⟩ := h
  obtain ⟨t, rfl⟩ := rx
  obtain ⟨t', rfl⟩ := ry
  exact rule i j t t' s _ _ ⟨.bl (g i j), H, I, rfl, q⟩

def CDiv (i j : Int) : Prop := 0 < j ∧ j < 1073741824
def CPow (i j : Int) : Prop := 0 ≤ j ∧ j ≤ 1000000 ∧ i.natAbs < 2 ^ 64
theorem op_add : OpR X (binaryOp .Add) (rI0 fun i j => .int (i + j)) := opI0 fun _ _ _ _ _ _ _ q => add_int q
theorem op_sub : OpR X (binaryOp .Sub) (rI0 fun i j => .int (i - j)) := opI0 fun _ _ _ _ _ _ _ q => sub_int q
/-- // by a positive divisor -/
theorem op_fdiv : OpR X (binaryOp .FloorDiv) (rI CDiv fun i j => .int (i / j)) := opI fun i j _ _ _ _ _ hc q => by
  have h1 : (0 : Int) < j := hc.1
  have h2 : j < 1073741824 := hc.2
  exact floordiv_int (by omega) (by rw [Int.fdiv_eq_ediv_of_nonneg i (by omega)]; exact q) (.inl (PyProof.noPylong_small (by omega)))
/-- % by a positive divisor of any size -/
theorem op_mod : OpR X (binaryOp .Mod) (rI (fun _ j => 0 < j) fun i j => .int (i % j)) := opI fun i j _ _ _ _ _ hc q => by
  have h1 : (0 : Int) < j := hc
  exact mod_int' (by omega) (by rw [Int.fmod_eq_emod_of_nonneg i (by omega)]; exact q)
theorem op_pow : OpR X (binaryOp .Pow) (rI CPow fun i j => .int (i ^ j.toNat)) := opI fun _ _ _ _ _ _ _ hc q => pow_int_small hc.1 hc.2.1 hc.2.2 q
theorem unI {f : Value → Sem Value} {g : Int → Int}
    (rule : ∀ (i : Int) (t : Tok) (s : Shared) (Q : Value → Shared → Prop) (E : Value → Shared → Prop), Q (.int (g i) s.toks) { s with toks := s.toks + 1 } → wpAny (model X.prog X.w) X.A (f (.int i t)) Q E s) :
    UnR X f (rU fun i => .int (g i)) := by
  intro pins s σ H x v Q I rx h
  obtain ⟨i, rfl, q⟩ := h
  obtain ⟨t, rfl⟩ := rx
  exact rule i t s _ _ ⟨.int (g i), H, I.tok _, ⟨_, rfl⟩, q⟩
theorem un_neg : UnR X (unaryOp .USub) (rU fun i => .int (-i)) := unI fun _ _ _ _ _ q => neg_int q
end

/-- the scalars that == tells apart as data does -/
def scal : V → V → Bool
  | .non, .non => true | .non, .int _ => true | .int _, .non => true | .non, .bl _ => true | .bl _, .non => true | .non, .str _ => true | .str _, .non => true
  | .int _, .int _ => true | .bl _, .bl _ => true | .str _, .str _ => true | .byt _, .byt _ => true
  | .int _, .str _ => true | .str _, .int _ => true | .bl _, .str _ => true | .str _, .bl _ => true
  | _, _ => false
def rEq : R2 := fun x y H Q => scal x y = true ∧ Q (.bl (decide (x = y))) H
def rNe : R2 := fun x y H Q => scal x y = true ∧ Q (.bl (!decide (x = y))) H

theorem dec_int {i j : Int} : decide (V.int i = V.int j) = (i == j) := by
  rw [Bool.eq_iff_iff]
  simp
theorem dec_bl {i j : Bool} : decide (V.bl i = V.bl j) = (i == j) := by
  rw [Bool.eq_iff_iff]
  simp
theorem dec_str {i j : Str} : decide (V.str i = V.str j) = (i == j) := by
  rw [Bool.eq_iff_iff]
  simp
theorem dec_byt {i j : Array UInt8} : decide (V.byt i = V.byt j) = (i.toList == j.toList) := by
  rw [Bool.eq_iff_iff]
  cases i
  cases j
  simp

section
variable {X : Cx} {a b c : Expr} {ta tb tc : TE} {pos : Pos}
theorem fin_bl {pins : List (Addr × Obj)} {σ : St} {H : Hp} {s : Shared} {Q : VK} {k k' : Bool} (I : Inv X pins σ H s) (q : Q (.bl k) H) (e : k = k') : EP X pins σ Q (.bool k') s := by
  subst e
  exact ⟨.bl k, H, I, rfl, q⟩
theorem op_eq : OpR X (compareOp .Eq) rEq := by
  intro pins s σ H x y v u Q I rx ry h
  obtain ⟨hs, q⟩ := h
  cases x with
  | non =>
    cases rx
    cases y with
    | non => cases ry; exact PySem.EqNone.eq_none_none (fin_bl I q (by simp))
    | bl j => cases ry; exact PySem.EqNone.eq_none_bool (fin_bl I q (by simp))
    | int j => obtain ⟨t', rfl⟩ := ry; exact PySem.EqNone.eq_none_int (fin_bl I q (by simp))
    | str j => obtain ⟨t', rfl⟩ := ry; exact PySem.EqNone.eq_none_str (fin_bl I q (by simp))
    | _ => exact absurd (show false = true from hs) Bool.false_ne_true
  | bl i =>
    cases rx
    cases y with
    | non => cases ry; exact PySem.EqNone.eq_bool_none (fin_bl I q (by simp))
    | bl j => cases ry; exact eq_bool (fin_bl I q dec_bl)
    | str j => obtain ⟨t', rfl⟩ := ry; exact PySem.EqMixed.eq_bool_str (fin_bl I q (by simp))
    | _ => exact absurd (show false = true from hs) Bool.false_ne_true
  | int i =>
    obtain ⟨t, rfl⟩ := rx
    cases y with
    | non => cases ry; exact PySem.EqNone.eq_int_none (fin_bl I q (by simp))
    | int j => obtain ⟨t', rfl⟩ := ry; exact eq_int (fin_bl I q dec_int)
    | str j => obtain ⟨t', rfl⟩ := ry; exact PySem.EqMixed.eq_int_str (fin_bl I q (by simp))
    | _ => exact absurd (show false = true from hs) Bool.false_ne_true
  | str i =>
    obtain ⟨t, rfl⟩ := rx
    cases y with
    | non => cases ry; exact PySem.EqNone.eq_str_none (fin_bl I q (by simp))
    | bl j => cases ry; exact PySem.EqMixed.eq_str_bool (fin_bl I q (by simp))
    | int j => obtain ⟨t', rfl⟩ := ry; exact PySem.EqMixed.eq_str_int (fin_bl I q (by simp))
    | str j => obtain ⟨t', rfl⟩ := ry; exact eq_str (fin_bl I q dec_str)
    | _ => exact absurd (show false = true from hs) Bool.false_ne_true
  | byt i =>
    obtain ⟨t, rfl⟩ := rx
    cases y with
    | byt j => obtain ⟨t', rfl⟩ := ry; exact PySem.W.eq_bytes (fin_bl I q dec_byt)
    | _ => exact absurd (show false = true from hs) Bool.false_ne_true
  | _ => cases y <;> exact absurd (show false = true from hs) Bool.false_ne_true
theorem op_ne : OpR X (compareOp .NotEq) rNe := by
  intro pins s σ H x y v u Q I rx ry h
  obtain ⟨hs, q⟩ := h
  cases x with
  | non =>
    cases rx
    cases y with
    | non => cases ry; exact PySem.EqNone.ne_none_none (fin_bl I q (by simp))
    | bl j => cases ry; exact PySem.EqNone.ne_none_bool (fin_bl I q (by simp))
    | int j => obtain ⟨t', rfl⟩ := ry; exact PySem.EqNone.ne_none_int (fin_bl I q (by simp))
    | str j => obtain ⟨t', rfl⟩ := ry; exact PySem.EqNone.ne_none_str (fin_bl I q (by simp))
    | _ => exact absurd (show false = true from hs) Bool.false_ne_true
  | bl i =>
    cases rx
    cases y with
    | non => cases ry; exact PySem.EqNone.ne_bool_none (fin_bl I q (by simp))
    | bl j => cases ry; exact ne_bool (fin_bl I q (congrArg not dec_bl))
    | str j => obtain ⟨t', rfl⟩ := ry; exact PySem.EqMixed.ne_bool_str (fin_bl I q (by simp))
    | _ => exact absurd (show false = true from hs) Bool.false_ne_true
  | int i =>
    obtain ⟨t, rfl⟩ := rx
    cases y with
    | non => cases ry; exact PySem.EqNone.ne_int_none (fin_bl I q (by simp))
    | int j => obtain ⟨t', rfl⟩ := ry; exact ne_int (fin_bl I q (congrArg not dec_int))
    | str j => obtain ⟨t', rfl⟩ := ry; exact PySem.EqMixed.ne_int_str (fin_bl I q (by simp))
    | _ => exact absurd (show false = true from hs) Bool.false_ne_true
  | str i =>
    obtain ⟨t, rfl⟩ := rx
    cases y with
    | non => cases ry; exact PySem.EqNone.ne_str_none (fin_bl I q (by simp))
    | bl j => cases ry; exact PySem.EqMixed.ne_str_bool (fin_bl I q (by simp))
    | int j => obtain ⟨t', rfl⟩ := ry; exact PySem.EqMixed.ne_str_int (fin_bl I q (by simp))
    | str j => obtain ⟨t', rfl⟩ := ry; exact ne_str (fin_bl I q (congrArg not dec_str))
    | _ => exact absurd (show false = true from hs) Bool.false_ne_true
  | byt i =>
    obtain ⟨t, rfl⟩ := rx
    cases y with
    | byt j => obtain ⟨t', rfl⟩ := ry; exact PySem.W.ne_bytes (fin_bl I q (congrArg not dec_byt))
    | _ => exact absurd (show false = true from hs) Bool.false_ne_true
  | _ => cases y <;> exact absurd (show false = true from hs) Bool.false_ne_true

theorem op_lt : OpR X (compareOp .Lt) (rI0 fun i j => .bl (decide (i < j))) := opB0 fun _ _ _ _ _ _ _ q => lt_int q
theorem op_gt : OpR X (compareOp .Gt) (rI0 fun i j => .bl (decide (j < i))) := opB0 fun _ _ _ _ _ _ _ q => gt_int q
theorem nomark (b : Expr) {op : CmpOp} (h : op ≠ .In := by decide) (h2 : op ≠ .NotIn := by decide) : behindInMarks op b = false := by
  have e1 : (op == CmpOp.In) = false := by cases op <;> first | rfl | exact absurd rfl h
  have e2 : (op == CmpOp.NotIn) = false := by cases op <;> first | rfl | exact absurd rfl h2
  cases b <;> simp [behindInMarks, e1, e2]
/-- a comparison as a value; hm: nomark b, or (for in, not in) by with_unfolding_all rfl -/
theorem pe_cmpR {op : CmpOp} {r : R2} (ho : OpR X (compareOp op) r) (ha : PE X a ta) (hb : PE X b tb) (hm : behindInMarks op b = false) : PE X (.Compare a [op] [b] pos) (tOp r ta tb) := by
  intro pins s σ H Q I h
  exact wpAny_Compare1 (binT ha hb I h fun v u s2 x y H2 I2 rx ry q => ho pins s2 σ H2 x y v u Q I2 rx ry q) hm
/-- a reading of a value as a test -/
def tTest (t : TE) : TT := fun σ H Q => t σ H fun x H' => ∃ k, x = .bl k ∧ Q k H'
theorem pt_cmpR {op : CmpOp} {r : R2} (ho : OpR X (compareOp op) r) (ha : PE X a ta) (hb : PE X b tb) (hm : behindInMarks op b = false) : PT X (.Compare a [op] [b] pos) (tTest (tOp r ta tb)) := by
  intro pins s σ H Q I h
  refine wpAny_isTrue_Compare1 (thn (ha pins s σ H _ I h) fun v s1 ⟨x, H1, I1, r1, q1⟩ => thn (hb pins s1 σ H1 _ I1 q1) fun u s2 ⟨y, H2, I2, r2, q2⟩ =>
    thn (ho pins s2 σ H2 x y v u _ I2 r1 r2 q2) fun c s3 ⟨z, H3, I3, r3, k, e, q3⟩ => ?_) hm
  subst e
  cases r3
  exact wpAny_truthy_bool ⟨H3, I3, q3⟩
/-- a op1 b op2 c -/
def tChain (r r' : R2) (ta tb tc : TE) : TE := fun σ H Q => ta σ H fun x H1 => tb σ H1 fun y H2 => r x y H2 fun z H3 => ∃ k, z = .bl k ∧
  (if k = true then tc σ H3 fun w' H4 => r' y w' H4 Q else Q (.bl false) H3)
theorem line63 : (sizeLine : Nat) < 2 ^ 63 := by rw [sizeLine_eq]; decide
theorem vals1 {x : V} {us : List Value} (r : Vals [x] us) : ∃ u, us = [u] ∧ RelV x u := by
  cases r with
  | cons r1 r2 => cases r2; exact ⟨_, rfl, r1⟩
theorem vals2 {x y : V} {us : List Value} (r : Vals [x, y] us) : ∃ u w', us = [u, w'] ∧ RelV x u ∧ RelV y w' := by
  cases r with
  | cons r1 r2 =>
    cases r2 with
    | cons r3 r4 => cases r4; exact ⟨_, _, rfl, r1, r3⟩
end
end L2

namespace L2
open PySem PySem.Spec PyProof.Rows

structure ObjM (h : Heap) (x dx C : Addr) (mA : Str → Option Value) : Prop where
  obj : h.get? x = some (PySem.W.instObj C dx)
  ns : h.Ns1 dx mA
  ne : dx ≠ x

theorem lookIn_ns {h : Heap} {dx : Addr} {mA : Str → Option Value} (n : h.Ns1 dx mA) : ∃ od, h.get? dx = some od ∧ ∀ name, PySem.W.lookIn name od = some (mA name) := by
  obtain ⟨o, es, ep, ho, hd, hk, _, hm⟩ := n
  refine ⟨o, ho, fun name => ?_⟩
  have e := hm name
  unfold nsFind findBy at e
  rw [← Array.find?_toList] at e
  unfold PySem.W.lookIn
  rw [hd]
  dsimp only
  split
  · rename_i y q
    rw [q] at e
    exact congrArg some e
  · rename_i q
    rw [q] at e
    have a : es.toList.any (·.refKey) = false := by
      rw [List.any_eq_false]
      intro y hy
      obtain ⟨z, t, hkey⟩ := hk y (Array.mem_toList_iff.mp hy)
      simp [DictEntry.refKey, hkey]
    have a' : ¬ es.toList.any (·.refKey) = true := by rw [a]; exact Bool.false_ne_true
    rw [if_neg a']
    exact congrArg some e

theorem ObjM.look {h : Heap} {x dx C : Addr} {mA : Str → Option Value} (I : ObjM h x dx C mA) : ∃ od, PySem.W.InstAt h x (PySem.W.instObj C dx) C (some od) ∧ ∀ name, PySem.W.lookIn name od = some (mA name) :=
  let ⟨od, ho, hl⟩ := lookIn_ns I.ns
  ⟨od, ⟨I.obj, rfl, rfl, ho⟩, hl⟩

section
variable {prog : Program} {w : World} {A : Around} {E : Value → Shared → Prop} {s : Shared} {K : PySem.W.Frag} {x dx C f : Addr} {mA : Str → Option Value} {name : Str} {v : Value}

end

def putF (f : Str) (v : V) : List (Str × V) → List (Str × V)
  | [] => [(f, v)]
  | (g, x) :: r => if g = f then (g, v) :: r else (g, x) :: putF f v r
section
variable {P : Program} {w : World} {H H' : Hp} {h h' : Heap} {a C dx : Addr} {fs fs' : List (Str × V)}
theorem ins_get (hok : HOk P w H h) (e : H a = some (.ins C dx fs)) : ∃ mA, ObjM h a dx C mA ∧ (∀ f, RelO (fs.lookup f) (mA f)) ∧ PySem.Within mA (fs.map (·.1)) ∧ fs.length ≤ 1000 ∧ H dx = some (.own a) := by
  obtain ⟨d, z, ne, ob, mA, n, r, q⟩ := (show ObjOk P w H h a (.ins C dx fs) from hok a _ e)
  exact ⟨mA, ⟨ob, n, ne⟩, r, q, z, d⟩
end

structure Cls (K : PySem.W.Frag) (C : Addr) : Prop where
  pg : PySem.W.plainGet K C Str.empty = true
  hd : PySem.W.hasDictIn K C = true
  po : PySem.W.plainOver K C = true
  sa : PySem.W.findIn K (.ref C) "__setattr__" = some (some (.builtin "object.__setattr__"))
theorem Cls.get {K : PySem.W.Frag} {C : Addr} (c : Cls K C) (f : Str) : PySem.W.plainGet K C f = true := c.pg
/-- no class of it has the name -/
def NoAttr (K : PySem.W.Frag) (C : Addr) (f : Str) : Prop := PySem.W.findIn K (.ref C) f = some none
section
variable {X : Cx} {pins : List (Addr × Obj)} {σ : St} {H : Hp} {s : Shared} {a C dx : Addr} {fs : List (Str × V)} {f : Str} {v : V} {A : Around} {E : Value → Shared → Prop}

end

/-- e.f, an attribute of the instance -/
def tFld (K : PySem.W.Frag) (ta : TE) (f : Str) : TE := fun σ H Q => ta σ H fun x H1 => ∃ a C dx fs v, x = .ref a ∧ H1 a = some (.ins C dx fs) ∧ Cls K C ∧ NoAttr K C f ∧ fs.lookup f = some v ∧ Q v H1
/-- e.f = value -/
def sFld (K : PySem.W.Frag) (ta tv : TE) (f : Str) : TS := fun D σ H => tv σ H fun y H1 => ta σ H1 fun x H2 => ∃ a C dx fs, x = .ref a ∧ H2 a = some (.ins C dx fs) ∧ Cls K C ∧ NoAttr K C f ∧ fs.length < 1000 ∧
  D.nx σ (upd H2 a (.ins C dx (putF f y fs)))
/-- e.f op= value -/
def sFldAug (K : PySem.W.Frag) (ta tv : TE) (rd : V → V → Hp → VK → Prop) (f : Str) : TS := fun D σ H => ta σ H fun x H1 => ∃ a C dx fs v, x = .ref a ∧ H1 a = some (.ins C dx fs) ∧ Cls K C ∧ NoAttr K C f ∧ fs.lookup f = some v ∧
  tv σ H1 fun y H2 => rd v y H2 fun z H3 => ∃ dx' fs', H3 a = some (.ins C dx' fs') ∧ fs'.length < 1000 ∧ D.nx σ (upd H3 a (.ins C dx' (putF f z fs')))

section
variable {X : Cx} {o e value : Expr} {f : Str} {pos pos' tpos : Pos} {ta tv : TE}
end

section
variable {X : Cx} {pins : List (Addr × Obj)} {σ : St} {H : Hp} {s : Shared} {A : Around} {E : Value → Shared → Prop} {Q : Value → Shared → Prop} {c : Value} {b : Bool}
/-- the type of a value, as the fragment's deciders take it; for an instance its class -/
inductive TyOf (K : PySem.W.Frag) (H : Hp) : V → Value → Prop where
  | non : TyOf K H .non (.type "NoneType")
  | bl (x : Bool) : TyOf K H (.bl x) (.type "bool")
  | int (i : Int) : TyOf K H (.int i) (.type "int")
  | str (x : Str) : TyOf K H (.str x) (.type "str")
  | flt (x : UInt64) : TyOf K H (.flt x) (.type "float")
  | lst {a : Addr} {xs : List V} (e : H a = some (.lst xs)) : TyOf K H (.ref a) (.type "list")
  | frz {a : Addr} {o : Obj} {xs : List V} (e : H a = some (.frz o (.lst xs))) : TyOf K H (.ref a) (.type "list")
  | tup {a : Addr} {xs : List V} (e : H a = some (.tup xs)) : TyOf K H (.ref a) (.type "tuple")
  | dK {a : Addr} {kvs : List (Key × V)} (e : H a = some (.dK kvs)) : TyOf K H (.ref a) (.type "dict")
  | dT {a : Addr} {kvs : List (List Key × V)} (e : H a = some (.dT kvs)) : TyOf K H (.ref a) (.type "dict")
  | ins {a C dx : Addr} {fs : List (Str × V)} (e : H a = some (.ins C dx fs)) (cl : Cls K C) (ha : PySem.W.findIn K (.ref C) "__class__" = some (some (.builtin "object.__class__")))
      (hn : PySem.W.specialIn K (.builtin "object.__class__") "__get__" = some (some (.builtin "getset_descriptor.__get__"))) (htk : PySem.W.takesIn K (.builtin "object.__class__") = some true)
      (hm : PySem.W.mroIn K C (.type "object") = some true) : TyOf K H (.ref a) (.ref C)
/-- isinstance(x, c) for one class c, a built-in or an own one: kitOne's answer -/
theorem isinst_ok {x : V} {u t : Value} (I : Inv X pins σ H s) (rx : RelV x u) (ty : TyOf X.K H x t) (e : PySem.W.kitOne X.K t c = some b) (h : ∀ tk, Q (.bool b) { s with toks := tk }) :
    wpAny (model X.prog X.w) A (call (.builtin "isinstance") [u, c]) Q E s := by
  cases ty with
  | non => cases (show u = Value.none from rx); exact PySem.W.kia_one PySem.W.kitx_none I.kIn True.intro e (fun z => nomatch z) h
  | bl y => cases (show u = Value.bool y from rx); exact PySem.W.kia_one PySem.W.kitx_bool I.kIn True.intro e (fun z => nomatch z) h
  | int i => obtain ⟨t, q⟩ := (show ∃ t, u = Value.int i t from rx); cases q; exact PySem.W.kia_one PySem.W.kitx_int I.kIn True.intro e (fun z => nomatch z) h
  | str y => obtain ⟨t, q⟩ := (show ∃ t, u = Value.str y t from rx); cases q; exact PySem.W.kia_one PySem.W.kitx_str I.kIn True.intro e (fun z => nomatch z) h
  | flt y => obtain ⟨t, q⟩ := (show ∃ t, u = Value.float y t from rx); cases q; exact PySem.W.kia_one PySem.W.kitx_float I.kIn True.intro e (fun z => nomatch z) h
  | @lst a xs ea =>
    cases (show u = Value.ref a from rx)
    obtain ⟨_, _, n, _, h1⟩ := (show ObjOk X.prog X.w H s.heap a (.lst xs) from I.hok a _ ea)
    exact PySem.W.kia_one PySem.W.kitx_list I.kIn ⟨_, h1, rfl⟩ e (fun z => nomatch z) h
  | @frz a ob xs ea =>
    cases (show u = Value.ref a from rx)
    obtain ⟨_, _, _, n, _, h1⟩ := (show ObjOk X.prog X.w H s.heap a (.frz ob (.lst xs)) from I.hok a _ ea)
    exact PySem.W.kia_one PySem.W.kitx_list I.kIn ⟨_, h1, rfl⟩ e (fun z => nomatch z) h
  | @tup a xs ea =>
    cases (show u = Value.ref a from rx)
    obtain ⟨_, _, _, p⟩ := (show ObjOk X.prog X.w H s.heap a (.tup xs) from I.hok a _ ea)
    obtain ⟨o, h1, h2, _⟩ := p
    exact PySem.W.kia_one PySem.W.kitx_tuple I.kIn ⟨o, h1, h2⟩ e (fun z => nomatch z) h
  | @dK a kvs ea =>
    cases (show u = Value.ref a from rx)
    obtain ⟨_, _, vs, _, p⟩ := (show ObjOk X.prog X.w H s.heap a (.dK kvs) from I.hok a _ ea)
    obtain ⟨o, es, ep, h1, h2, _⟩ := p
    exact PySem.W.kia_one PySem.W.kitx_dict I.kIn ⟨o, h1, h2.1⟩ e (fun z => nomatch z) h
  | @dT a kvs ea =>
    cases (show u = Value.ref a from rx)
    obtain ⟨_, _, xs, _, o, es, ep, h1, h2, _⟩ := (show ObjOk X.prog X.w H s.heap a (.dT kvs) from I.hok a _ ea)
    exact PySem.W.kia_one PySem.W.kitx_dict I.kIn ⟨o, h1, h2.1⟩ e (fun z => nomatch z) h
  | @ins a C dx fs ea cl ha hn htk hm =>
    cases (show u = Value.ref a from rx)
    obtain ⟨mA, O, _⟩ := ins_get I.hok ea
    obtain ⟨od, J, _⟩ := O.look
    exact PySem.W.kia_one (PySem.W.kitx_own (cl.get _) cl.hd ha hn htk hm) I.kIn J e (fun z => nomatch z) h
end
end L2

namespace L2
open PySem PySem.Spec PyProof.Rows

structure Room (k : Nat) (A : Around) : Prop where
  hd : A.handled = none
  dp : A.depth + 3 * k + 5 < recursionLimit
  un : A.units + 16 * k + 200 < cLine
theorem Room.mono {j k : Nat} {A : Around} (r : Room k A) (h : j ≤ k) : Room j A := ⟨r.hd, by have := r.dp; omega, by have := r.un; omega⟩
theorem Room.deeper {k : Nat} {A : Around} (r : Room (k + 1) A) (env : Env) : Room k (A.deeper env) :=
  ⟨r.hd, by have := r.dp; show A.depth + 1 + 3 * k + 5 < _; omega, by have := r.un; show A.units + 3 + 16 * k + 200 < _; omega⟩
theorem Room.depth {k : Nat} {A : Around} (r : Room k A) : A.depth < recursionLimit := by have := r.dp; omega
theorem Room.units {k : Nat} {A : Around} (r : Room k A) : A.units + 64 < cLine := by have := r.un; omega
def tNil : TA := fun _ H Q => Q [] H
def tCons (ta : TE) (tr : TA) : TA := fun σ H Q => ta σ H fun x H1 => tr σ H1 fun xs H2 => Q (x :: xs) H2
section
variable {X : Cx} {e : Expr} {es : List Expr} {te : TE} {t : TA} {pos : Pos}
theorem pa_nil : PA X [] tNil := fun _ _ _ _ H Q I h => Calls.spliced_nil ⟨[], H, I, .nil, h⟩
theorem pa_cons (ha : PE X e te) (hr : PA X es t) (hs : starEach (e :: es) X.env = (false, eval e X.env) :: starEach es X.env := by rfl) : PA X (e :: es) (tCons te t) := by
  intro pos pins s σ H Q I h
  rw [hs]
  show wpAny _ _ (spliced ((false, eval e X.env) :: backTo pos (starEach es X.env))) _ _ s
  refine Calls.spliced_cons (thn (ha pins s σ H _ I h) fun u s1 ⟨x, H1, I1, r1, q1⟩ => ?_)
  exact thn (hr pos pins s1 σ H1 _ I1 q1) fun us s2 ⟨xs, H2, I2, r2, q2⟩ => ⟨x :: xs, H2, I2, .cons r1 r2, q2⟩

/-- a tuple, a list of written items -/
def tTup (t : TA) : TE := fun σ H Q => t σ H fun xs H1 => xs.length ≤ sizeLine ∧ ∀ p, H1 p = none → Q (.ref p) (upd H1 p (.tup xs))
def tLst (t : TA) : TE := fun σ H Q => t σ H fun xs H1 => xs.length ≤ sizeLine ∧ ∀ p, H1 p = none → Q (.ref p) (upd H1 p (.lst xs))
theorem pe_tup {x1} (h : PA X es t) : PE X (.Tuple es x1 pos) (tTup t) := by
  intro pins s σ H Q I hq
  refine wpAny_Tuple_spliced (thn (h pos pins s σ H _ I hq) fun us s1 ⟨xs, H1, I1, r, z, q⟩ => ⟨by rw [← r.length]; exact z, ?_⟩)
  have hf : H1 s1.heap.objs.size = none := I1.hok.fresh (Nat.le_refl _)
  refine ⟨.ref s1.heap.objs.size, upd H1 s1.heap.objs.size (.tup xs), I1.laid (t' := s1.toks) (fun b u e => Heap.get?_push_of_some _ e) (Nat.le_refl _) ?_, rfl, q _ hf⟩
  exact ⟨z, us, r, ⟨_, Heap.get?_push_size _ rfl, rfl, _, rfl⟩⟩
theorem pe_lst (h : PA X es t) : PE X (.List es pos) (tLst t) := by
  intro pins s σ H Q I hq
  refine wpAny_List_spliced (thn (h pos pins s σ H _ I hq) fun us s1 ⟨xs, H1, I1, r, z, q⟩ => ⟨by rw [← r.length]; exact z, ?_⟩)
  have hf : H1 s1.heap.objs.size = none := I1.hok.fresh (Nat.le_refl _)
  refine ⟨.ref s1.heap.objs.size, upd H1 s1.heap.objs.size (.lst xs), I1.laid (t' := s1.toks) (fun b u e => Heap.get?_push_of_some _ e) (Nat.le_refl _) ?_, rfl, q _ hf⟩
  exact ⟨z, us, 0, r, Heap.get?_push_size _ rfl⟩
end

/-- a def's promise: the bound arguments in the parameters' order, the heap, the wanted end, the wanted exception -/
abbrev Sp := List V → Hp → VK → XK → Prop
/-- how an exception lies behind a call (file 08 gives it): the callers' frames, abstract heap and state ahead of the call, the wish, the exception, the state -/
abbrev CXT := List Env → Hp → Shared → XK → Value → Shared → Prop

/-- the state at a call -/
structure Env0 (P : Program) (w : World) (K : PySem.W.Frag) (mg : Str → Option Value) (base : Heap) (A : Around) (outer : List Env) (s : Shared) (H : Hp) : Prop where
  frames : A.frames = some outer
  mod : Mod K mg base
  bs : ∀ b o, base.get? b = some o → s.heap.get? b = some o ∧ H b = none
  bsz : base.objs.size ≤ s.heap.objs.size
  funs : s.heap.FunFrames base outer
  frf : ∀ b ∈ frs outer, H b = none
  hok : HOk P w H s.heap
  bare : AllBare s.gens
/-- a call's end -/
def CE (outer : List Env) (P : Program) (w : World) (H : Hp) (s : Shared) (Q : VK) (u : Value) (s' : Shared) : Prop :=
  ∃ v H', s'.os = s.os ∧ AllBare s'.gens ∧ Un (frs outer) [] H H' s.heap s'.heap ∧ HOk P w H' s'.heap ∧ RelV v u ∧ Q v H'
def CR (CX : CXT) (outer : List Env) (P : Program) (w : World) (H : Hp) (s : Shared) (Q : VK) (E : XK) (r : Result) (s' : Shared) : Prop :=
  match r with
  | .ok (.ret u) => CE outer P w H s Q u s'
  | .ok _ => False
  | .error e => CX outer H s E e s'
structure FnOk (P : Program) (w : World) (K : PySem.W.Frag) (mg : Str → Option Value) (base : Heap) (CX : CXT) (k : Nat) (f : Addr) (fd : FuncData) (ps : List Str) (sp : Sp) : Prop where
  len : ∀ vs H Q E, sp vs H Q E → vs.length = ps.length
  run : ∀ (A : Around) (outer : List Env) (s : Shared) (H : Hp) (args : Args) (us : List Value) (vs : List V) (Q : VK) (E : XK), Room k A → Env0 P w K mg base A outer s H → BindsTo s fd args (ps.zip us) → Vals vs us → sp vs H Q E →
    codeAny (model P w) A (.call (.ref f) args) (CR CX outer P w H s Q E) s
section
variable {X : Cx} {pins : List (Addr × Obj)} {σ : St} {H : Hp} {s s' : Shared}
/-- from a body: what a callee wants -/
theorem Inv.env0 (I : Inv X pins σ H s) : Env0 X.prog X.w X.K X.mg X.base X.A X.stack s H :=
  ⟨I.ok.frames, I.ok.mod, I.bs, Nat.le_trans I.ok.bsz I.sz, I.stack, I.stkFree, I.hok, I.bare⟩
/-- behind a call -/
theorem Inv.after {Q : VK} {u : Value} (I : Inv X pins σ H s) (h : CE X.stack X.prog X.w H s Q u s') : EP X pins σ Q u s' := by
  obtain ⟨v, H', os, bare, un, hok, r, q⟩ := h
  obtain ⟨hh, g, d, t, os'⟩ := s'
  obtain rfl : os' = s.os := os
  exact ⟨v, H', I.call (h' := hh) (g' := g) (d' := d) (t' := t) (ch := []) un hok bare (fun b z => absurd z (by simp)), r, q⟩
end

/-- f(..): the written arguments, then the defaults dvs; E: what is wanted of an exception -/
def tCall (sp : Sp) (dvs : List V) (E : XK) (t : TA) : TE := fun σ H Q => t σ H fun vs H1 => sp (vs ++ dvs) H1 Q E
/-- o.m(..) of an instance of the class at C -/
def tMeth (C : Addr) (m : Str) (sp : Sp) (dvs : List V) (E : XK) (ta : TE) (t : TA) : TE := fun σ H Q => ta σ H fun x H1 => ∃ a dx fs, x = .ref a ∧ H1 a = some (.ins C dx fs) ∧ fs.lookup m = none ∧
  t σ H1 fun vs H2 => sp (x :: (vs ++ dvs)) H2 Q E
/-- C(..): a new instance and its dict, then __init__ -/
def tMake (C : Addr) (sp : Sp) (dvs : List V) (E : XK) (t : TA) : TE := fun σ H Q => t σ H fun vs H1 => ∀ x dx, H1 x = none → H1 dx = none → dx ≠ x →
  sp (.ref x :: (vs ++ dvs)) (upd (upd H1 dx (.own x)) x (.ins C dx [])) (fun v H2 => v = .non ∧ Q (.ref x) H2) E

/-- how the parameters are bound: us the positional arguments, kw the keywords' values by name, ds the defaults that fill up -/
def Binds (K : PySem.W.Frag) (fd : FuncData) (ps : List Str) (ds : List Value) : Prop :=
  ∀ (s : Shared) (us : List Value), K.In s.heap → (us ++ ds).length = ps.length → BindsTo s fd ⟨us, []⟩ (ps.zip (us ++ ds))
/-- every parameter is given -/
theorem Binds.all {K : PySem.W.Frag} {fd : FuncData} {ps : List Str} (h : ∀ us : List Value, us.length = ps.length → bindArgs fd ⟨us, []⟩ = pure (ps.zip us)) : Binds K fd ps [] := fun s us _ hl => by
  rw [List.append_nil] at hl ⊢
  exact .of_eq (h us hl)

/-- an exception of a callee reaches what this body wants of exceptions -/
def Passes (CX : CXT) (X : Cx) (E : XK) : Prop := ∀ (pins : List (Addr × Obj)) (σ : St) (H : Hp) (s : Shared) (e : Value) (s' : Shared), Inv X pins σ H s → CX X.stack H s E e s' → X.xe e s'

section
variable {X : Cx} {CX : CXT} {k : Nat} {f C : Addr} {fd : FuncData} {ps : List Str} {sp : Sp} {dvs : List V} {ds : List Value} {E : XK} {x m : Str} {p pos apos : Pos} {e o : Expr} {es : List Expr} {ta : TE} {t : TA}

/-- the callee runs -/
theorem run_fn {pins : List (Addr × Obj)} {σ : St} {H : Hp} {s : Shared} {Q : VK} {us : List Value} {vs : List V} (F : FnOk X.prog X.w X.K X.mg X.base CX k f fd ps sp) (hr : Room k X.A) (hb : Binds X.K fd ps ds) (hd : Vals dvs ds) (hx : Passes CX X E)
    (I : Inv X pins σ H s) (r : Vals vs us) (h : sp (vs ++ dvs) H Q E) : wpAny (model X.prog X.w) X.A (call (.ref f) us) (EP X pins σ Q) X.xe s := by
  have r2 : Vals (vs ++ dvs) (us ++ ds) := r.append hd
  have hl : (us ++ ds).length = ps.length := by rw [← r2.length]; exact F.len _ _ _ _ h
  refine wpAny_call (codeAny_mono (F.run X.A X.stack s H ⟨us, []⟩ (us ++ ds) (vs ++ dvs) Q E hr I.env0 (hb s us I.kIn hl) r2 h) fun r s' hq => ?_)
  cases r with
  | error e => exact hx pins σ H s e s' I hq
  | ok fl =>
    cases fl with
    | ret u => exact I.after hq
    | next => exact False.elim hq
    | brk => exact False.elim hq
    | cont => exact False.elim hq

theorem pe_call (F : FnOk X.prog X.w X.K X.mg X.base CX k f fd ps sp) (hr : Room k X.A) (hg : Gl X x) (hm : X.mg x = some (.ref f)) (hk : PySem.W.keepIn X.K (.ref f) = true) (hb : Binds X.K fd ps ds) (hd : Vals dvs ds) (hx : Passes CX X E)
    (ha : PA X (e :: es) t) (hdb : (x == ("__debug__" : Str)) = false := by decide) (he : starEach (e :: es) X.env = (false, eval e X.env) :: starEach es X.env := by rfl) (hpl : (backTo pos (starEach es X.env)).any (·.1) = false := by rfl) :
    PE X (.Call (.Name x p) (e :: es) [] pos) (tCall sp dvs E t) := by
  intro pins s σ H Q I h
  refine wpAny_Call_Name_kw (ld_glob I hg hm ?_ hdb)
  refine PySem.W.callWith_K (h₀ := X.base) I.ok.mod.kin hk (thn (ha pos pins s σ H _ I h) fun us s1 ⟨vs, H1, I1, r, q⟩ => ⟨I1.kIn, ?_⟩) he hpl
  exact run_fn F hr hb hd hx I1 r q
end

section
variable {X : Cx} {CX : CXT} {k : Nat} {f C : Addr} {fd : FuncData} {ps ks : List Str} {sp : Sp} {E : XK} {x m : Str} {p pos apos kpos : Pos} {e o : Expr} {es : List Expr} {kws : List Keyword} {te ta : TE} {t tk : TA} {nm : Option Str}
variable {g : List Value → List Value → List Value} {gV : List V → List V → List V}
end

/-- names: the parameters first -/
structure FnScope (N P : List Str) (sc : Scope) : Prop where
  kind : sc.kind = .function
  co : sc.isCoroutine = false
  gen : sc.isGenerator = false
  nd : N.Nodup
  pre : N.take P.length = P
  par : ∀ x ∈ P, sc.names.lookup x = some .local ∨ sc.names.lookup x = some .cell
  nofree : ∀ y ∈ sc.names, y.2 ≠ .free

theorem bindL_out {kindOf : Str → Option NameKind} {x : Str} : ∀ {binds : List (Str × Value)} {m : Str → Option Value}, (∀ v, (x, v) ∉ binds) → bindL kindOf binds m x = m x
  | [], _, _ => rfl
  | (n, v) :: r, m, h => by
    unfold bindL
    rw [bindL_out fun w hw => h w (List.mem_cons_of_mem _ hw)]
    split
    · have : x ≠ n := by rintro rfl; exact h v List.mem_cons_self
      simp [this]
    · rfl
theorem bindC_out {kindOf : Str → Option NameKind} {x : Str} : ∀ {binds : List (Str × Value)} {m : Str → Option Value}, (∀ v, (x, v) ∉ binds) → bindC kindOf binds m x = m x
  | [], _, _ => rfl
  | (n, v) :: r, m, h => by
    unfold bindC
    rw [bindC_out fun w hw => h w (List.mem_cons_of_mem _ hw)]
    split
    · rfl
    · have : x ≠ n := by rintro rfl; exact h v List.mem_cons_self
      simp [this]
theorem bindL_get {kindOf : Str → Option NameKind} {x : Str} {v : Value} : ∀ {P : List Str} {vs : List Value} {i : Nat} {m : Str → Option Value}, P.Nodup → P[i]? = some x → vs[i]? = some v → kindOf x = some .local →
    bindL kindOf (P.zip vs) m x = some v
  | [], _, _, _, _, h, _, _ => by simp at h
  | _ :: _, [], _, _, _, _, h, _ => by simp at h
  | p :: P, w :: vs, 0, m, nd, h1, h2, hk => by
    simp at h1 h2; subst h1; subst h2
    show bindL kindOf ((p, w) :: P.zip vs) m p = _
    unfold bindL
    rw [bindL_out fun v hv => (List.nodup_cons.mp nd).1 (List.of_mem_zip hv).1, if_pos hk]
    simp
  | p :: P, w :: vs, i + 1, m, nd, h1, h2, hk => by
    show bindL kindOf ((p, w) :: P.zip vs) m x = _
    unfold bindL
    exact bindL_get (i := i) (List.nodup_cons.mp nd).2 (by simpa using h1) (by simpa using h2) hk
theorem bindC_get {kindOf : Str → Option NameKind} {x : Str} {v : Value} : ∀ {P : List Str} {vs : List Value} {i : Nat} {m : Str → Option Value}, P.Nodup → P[i]? = some x → vs[i]? = some v → kindOf x ≠ some .local →
    bindC kindOf (P.zip vs) m x = some v
  | [], _, _, _, _, h, _, _ => by simp at h
  | _ :: _, [], _, _, _, _, h, _ => by simp at h
  | p :: P, w :: vs, 0, m, nd, h1, h2, hk => by
    simp at h1 h2; subst h1; subst h2
    show bindC kindOf ((p, w) :: P.zip vs) m p = _
    unfold bindC
    rw [bindC_out fun v hv => (List.nodup_cons.mp nd).1 (List.of_mem_zip hv).1, if_neg hk]
    simp
  | p :: P, w :: vs, i + 1, m, nd, h1, h2, hk => by
    show bindC kindOf ((p, w) :: P.zip vs) m x = _
    unfold bindC
    exact bindC_get (i := i) (List.nodup_cons.mp nd).2 (by simpa using h1) (by simpa using h2) hk

/-- the names' values at the entry -/
def start (N : List Str) (vs : List V) : St := vs.map some ++ List.replicate (N.length - vs.length) none

/-- the context of a def's body, at its entry; an exception leaves the frame, then lies as CX says -/
def cxOf (CX : CXT) (P : Program) (w : World) (K : PySem.W.Frag) (mg : Str → Option Value) (base : Heap) (N : List Str) (qual : Str) (scope : Scope) (f : Addr) (cd : Value) (A : Around) (outer : List Env) (s : Shared) (H : Hp) (E : XK) : Cx where
  prog := P
  w := w
  K := K
  mg := mg
  base := base
  A := A.deeper (envOfC qual scope s.heap.objs.size f cd)
  N := N
  s₀ := s
  H₀ := H
  env := envOfC qual scope s.heap.objs.size f cd
  outer := outer
  stack := envOfC qual scope s.heap.objs.size f cd :: outer
  ex := []
  calm := true
  fn := fun _ => true
  pn := []
  xe := fun e s' => wpAny (model P w) (A.deeper (envOfC qual scope s.heap.objs.size f cd)) (leaving (envOfC qual scope s.heap.objs.size f cd) e) (fun _ s'' => CX outer H s E e s'') (fun e' s'' => CX outer H s E e' s'') s'

theorem cell_has {sc : Scope} {n : Nat} {x : Str} (h : sc.names.lookup x = some .cell) : ∃ c, (cellsFrom n sc.names []).lookup x = some c := by
  have q := PySem.W.cellsFrom_some sc.names n [] (.inl h)
  exact Option.isSome_iff_exists.mp q

theorem inv_start {CX : CXT} {P : Program} {w : World} {K : PySem.W.Frag} {mg : Str → Option Value} {base : Heap} {N ps : List Str} {qual : Str} {scope : Scope} {f : Addr} {cd : Value} {A : Around} {outer : List Env} {s s1 : Shared} {H : Hp} {E : XK} {us : List Value} {vs : List V}
    (S : FnScope N ps scope) (hd : A.handled = none) (e0 : Env0 P w K mg base A outer s H) (hl : vs.length = ps.length) (r : Vals vs us)
    (x : InCallC s s.heap.objs.size (bindL (envOfC qual scope s.heap.objs.size f cd).kindOf (ps.zip us) fun _ => none) (cellsFrom (s.heap.objs.size + 1) scope.names []) (bindC (envOfC qual scope s.heap.objs.size f cd).kindOf (ps.zip us) fun _ => none) s1) :
    Inv (cxOf CX P w K mg base N qual scope f cd A outer s H E) [] (start N vs) H s1 := by
  have hpl : ps.length ≤ N.length := by have := congrArg List.length S.pre; rw [List.length_take] at this; omega
  obtain ⟨h1, tk, rfl, hk⟩ := x.done
  have noA : ∀ b : Addr, b ∉ (cxOf CX P w K mg base N qual scope f cd A outer s H E).ex := fun b z => absurd (show b ∈ ([] : List Addr) from z) (by simp)
  refine ⟨⟨e0.mod, S.kind, rfl, rfl, Nat.le_refl _, fun y z c h1 h2 => ?_, fun y hy => ?_, fun y c _ h => ?_, fun _ => hd, Around.frames_deeper e0.frames, .inr ⟨rfl, rfl⟩, fun b z => absurd z (noA b), e0.bs, e0.bsz, fun b _ _ => noA b, fun b z => absurd z (noA b), e0.funs, e0.frf⟩,
    rfl, e0.bare, Un.kept hk, ⟨_, x.toInCall.ns, fun i y v h1 h2 h3 => ?_⟩, fun y c h => ⟨_, x.cell y c h⟩, e0.hok.fresh (Nat.le_refl _), fun y c h => ?_, fun p hp => absurd (show p ∈ ([] : List (Addr × Obj)) from hp) (by simp), e0.hok.kept hk, ?_⟩
  · exact name_of_addr x.apart (PySem.mem_of_lookup h1) (PySem.mem_of_lookup h2)
  · have hy : scope.names.lookup y = some .cell ∨ scope.names.lookup y = some .free := hy
    rcases hy with hy | hy
    · exact cell_has hy
    · exact absurd rfl (S.nofree _ (PySem.mem_of_lookup hy))
  · exact Nat.le_of_lt (x.above y c (PySem.mem_of_lookup h))
  · have hi : i < vs.length := by
      unfold start at h2
      by_cases hi : i < vs.length
      · exact hi
      · rw [List.getElem?_append_right (by simpa using hi)] at h2
        rw [List.getElem?_replicate] at h2
        split at h2 <;> cases h2
    have ha : vs[i]? = some v := by
      unfold start at h2
      rw [List.getElem?_append_left (by simpa using hi), List.getElem?_map] at h2
      cases e : vs[i]? with
      | none => rw [e] at h2; cases h2
      | some a => rw [e] at h2; cases h2; rfl
    obtain ⟨u, hu, rv⟩ := r.get ha
    have hp : ps[i]? = some y := by
      rw [← S.pre, List.getElem?_take_of_lt (by omega)]; exact h1
    have ndP : ps.Nodup := by rw [← S.pre]; exact S.nd.sublist (List.take_sublist _ _)
    refine ⟨u, rv, ?_⟩
    rcases S.par y (List.mem_of_getElem? hp) with k | k
    · exact .inl ⟨k, bindL_get ndP hp hu k⟩
    · obtain ⟨c, e⟩ := cell_has (n := s.heap.objs.size + 1) k
      refine .inr ⟨.inl k, c, e, ?_⟩
      have q := x.cell y c e
      rw [bindC_get ndP hp hu (by show scope.names.lookup y ≠ _; rw [k]; decide)] at q
      exact q
  · exact e0.hok.fresh (Nat.le_of_lt (x.above y c (PySem.mem_of_lookup h)))
  · unfold start
    show _ = N.length
    rw [List.length_append, List.length_map, List.length_replicate]
    omega

/-- THE RULE: a def (or a method) of the text, by its body. The body's reading t is chosen for each entry; it is run at the parameters' values -/
theorem fn_of {CX : CXT} {P : Program} {w : World} {K : PySem.W.Frag} {mg : Str → Option Value} {base : Heap} {k : Nat} {f : Addr} {name qual : Str} {params : Arguments} {body : List Stmt} {scope : Scope} {dV kV doc pm cdv ct oc : Value} {an od : Option Addr}
    {osl : Array (Option Value)} {N ps : List Str} {sp : Sp} (lk : K.lookup f = some ⟨oc, od, .func (PySem.W.fnOf name qual params body scope dV kV doc pm an cdv ct), osl⟩) (hcd : PySem.W.codeIn K cdv qual = true) (S : FnScope N ps scope)
    (len : ∀ vs H Q E, sp vs H Q E → vs.length = ps.length)
    (hbody : ∀ (A : Around) (outer : List Env) (s : Shared) (H : Hp) (vs : List V) (Q : VK) (E : XK), Room k (A.deeper (envOfC qual scope s.heap.objs.size f cdv)) → sp vs H Q E →
      ∃ t, PSs (cxOf CX P w K mg base N qual scope f cdv A outer s H E) body t ∧ t { nx := fun _ H' => Q .non H', rt := Q } (start N vs) H) :
    FnOk P w K mg base CX (k + 1) f (PySem.W.fnOf name qual params body scope dV kV doc pm an cdv ct) ps sp := by
  refine ⟨len, fun A outer s H args us vs Q E hr e0 hb r hsp => ?_⟩
  have hl := len _ _ _ _ hsp
  have KX : K.In s.heap := e0.mod.kin.keeps fun b o e => (e0.bs b o e).1
  have lim : s.heap.NoLimit := e0.mod.nolimit.keeps fun b o e => (e0.bs b o e).1
  have hkind : ∀ y ∈ ps.zip us, scope.names.lookup y.1 = some .local ∨ (scope.names.lookup y.1 = some .cell ∧ ((cellsFrom (s.heap.objs.size + 1) scope.names []).lookup y.1).isSome = true) := fun ⟨n, v⟩ hy => by
    rcases S.par n (List.of_mem_zip hy).1 with q | q
    · exact .inl q
    · exact .inr ⟨q, PySem.W.cellsFrom_some _ _ _ (.inl q)⟩
  refine codeAny_call_function hr.depth (KX _ _ lk) rfl S.co S.gen rfl (PySem.W.codeRec_of KX hcd) (hb _ _ _ _ ?_)
  refine wpAny_newFunctionEnv_cells S.kind hkind fun env he s1 x => ?_
  subst he
  refine ⟨lim.keeps x.toInCall.keep, codeAny_func ?_⟩
  obtain ⟨t, ht, hq⟩ := hbody A outer s H vs Q E (hr.deeper _) hsp
  have I : Inv (cxOf CX P w K mg base N qual scope f cdv A outer s H E) [] (start N vs) H s1 := inv_start S hr.hd e0 hl r x
  refine wpAny_mono (ht [] s1 (start N vs) H _ I hq) (fun fl s' hs => ?_) fun e s' hs => hs
  have fin : ∀ {σ' : St} {H' : Hp} {v : V} {u : Value}, Inv (cxOf CX P w K mg base N qual scope f cdv A outer s H E) [] σ' H' s' → RelV v u → Q v H' → CE outer P w H s Q u s' :=
    fun {σ' H' v u} J rv q => ⟨v, H', J.os, J.bare, J.base, J.hok, rv, q⟩
  cases fl with
  | ret u =>
    obtain ⟨v, σ', H', J, rv, q⟩ := hs
    exact fin J rv q
  | next =>
    obtain ⟨σ', H', J, q⟩ := hs
    exact fin (v := V.non) (u := Value.none) J rfl q
  | brk =>
    obtain ⟨_, _, _, q⟩ := hs
    exact False.elim q
  | cont =>
    obtain ⟨_, _, _, q⟩ := hs
    exact False.elim q
end L2

namespace L2
open PySem PySem.Spec PyProof.Rows
section
variable {X : Cx} {x : Str} {p pos : Pos} {e : Expr} {es : List Expr} {t : TA} {id T : String} {r : List V → Hp → VK → Prop}

def tCB (r : List V → Hp → VK → Prop) (t : TA) : TE := fun σ H Q => t σ H fun vs H1 => r vs H1 Q
/-- f(e, ..), f a built-in function -/
theorem pe_callB (hc : CallR X (.builtin id) r) (hg : Gl X x) (hm : X.mg x = none) (hv : bootBuiltins x = some (.builtin id)) (ha : PA X (e :: es) t) (hn : x ≠ "__name__" := by decide) (hdb : (x == ("__debug__" : Str)) = false := by decide)
    (he : starEach (e :: es) X.env = (false, eval e X.env) :: starEach es X.env := by rfl) (hpl : (backTo pos (starEach es X.env)).any (·.1) = false := by rfl) : PE X (.Call (.Name x p) (e :: es) [] pos) (tCB r t) := by
  intro pins s σ H Q I h
  refine wpAny_Call_Name_kw (ld_blt I hg hm hv ?_ hn hdb)
  exact PyProof.Rows.callWith_builtin1 (thn (ha pos pins s σ H _ I h) fun us s1 ⟨vs, H1, I1, r1, q1⟩ => hc pins s1 σ H1 vs us Q I1 r1 q1) he hpl
/-- T(e, ..), T a built-in type -/
theorem pe_callTy (hc : CallR X (.type T) r) (hg : Gl X x) (hm : X.mg x = none) (hv : bootBuiltins x = some (.type T)) (ha : PA X (e :: es) t) (hn : x ≠ "__name__" := by decide) (hdb : (x == ("__debug__" : Str)) = false := by decide)
    (he : starEach (e :: es) X.env = (false, eval e X.env) :: starEach es X.env := by rfl) (hpl : (backTo pos (starEach es X.env)).any (·.1) = false := by rfl) : PE X (.Call (.Name x p) (e :: es) [] pos) (tCB r t) := by
  intro pins s σ H Q I h
  refine wpAny_Call_Name_kw (ld_blt I hg hm hv ?_ hn hdb)
  exact PyProof.Rows.callWith_type1 (thn (ha pos pins s σ H _ I h) fun us s1 ⟨vs, H1, I1, r1, q1⟩ => hc pins s1 σ H1 vs us Q I1 r1 q1) he hpl
end
end L2

namespace HT
open PySem PyProof.Rows

section
open PySem.SeqAt
open PySem.AutoSeq1 (wpAny_loadPart')
open PySem.MeetsSeq PySem.MeetsSeq2 PySem.MeetsSeq3

end

section
variable {prog : Program} {w : World} {A : Around} {E : Value → Shared → Prop} {s : Shared}

/-- a slice's bound as a place among n (d where it is left out) -/
def sIx (n d : Nat) : Option Int → Nat
  | none => d
  | some v => if v < 0 then (v + (n : Int)).toNat else min v.toNat n
theorem sIx_none (n d : Nat) : sIx n d none = d := rfl
theorem sIx_nat (n d k : Nat) : sIx n d (some (k : Int)) = min k n := by
  show (if (k : Int) < 0 then ((k : Int) + (n : Int)).toNat else min (k : Int).toNat n) = min k n
  rw [if_neg (by omega), Int.toNat_natCast]
end
end HT

namespace L2
open PySem PySem.Spec PyProof.Rows

abbrev TO := St → Hp → (Option Int → Hp → Prop) → Prop
/-- a slice's part (left out, or an int) -/
def PO (X : Cx) (e : Option Expr) (t : TO) : Prop :=
  ∀ (pins : List (Addr × Obj)) (s : Shared) (σ : St) (H : Hp) (Q : Option Int → Hp → Prop), Inv X pins σ H s → t σ H Q →
    wpAny (model X.prog X.w) X.A (evalPart e X.env) (fun u s' => ∃ o H', Inv X pins σ H' s' ∧ IsPart u o ∧ Q o H') X.xe s
def tNoPart : TO := fun _ H Q => Q none H
def tPart (t : TE) : TO := fun σ H Q => t σ H fun x H1 => ∃ i, x = .int i ∧ Q (some i) H1

theorem intsAre_of {ns : List Int} : ∀ {us : List Value}, Vals (ns.map V.int) us → IntsAre us ns := by
  induction ns with
  | nil => intro us r; rw [List.map_nil] at r; cases r; exact .nil
  | cons n ns ih =>
    intro us r
    rw [List.map_cons] at r
    cases r with
    | cons r1 r2 =>
      obtain ⟨t, e⟩ := r1
      subst e
      exact .cons n t (ih r2)

section
variable {X : Cx} {e : Expr} {te : TE} {lo hi : Option Expr} {tl th : TO} {pos p2 : Pos}

theorem po_none : PO X none tNoPart := by
  intro pins s σ H Q I h
  rw [evalPart_none]
  exact wpAny_pure ⟨none, H, I, .none, h⟩
theorem po_some (h : PE X e te) : PO X (some e) (tPart te) := by
  intro pins s σ H Q I hw
  rw [evalPart_some]
  refine thn (h pins s σ H _ I hw) fun u s1 ⟨x, H1, I1, r1, q1⟩ => ?_
  obtain ⟨i, rfl, q⟩ := q1
  obtain ⟨t, rfl⟩ := r1
  exact ⟨some i, H1, I1, .int i t, q⟩

/-- what a slice of a value is, by values: the slice object stands at sl -/
def SlR (X : Cx) (r : V → Option Int → Option Int → Hp → VK → Prop) : Prop :=
  ∀ (pins : List (Addr × Obj)) (s : Shared) (σ : St) (H : Hp) (x : V) (v vl vu : Value) (lo hi : Option Int) (sl : Addr) (Q : VK), Inv X pins σ H s → RelV x v → s.heap.IsSliceOf sl vl vu .none → IsPart vl lo → IsPart vu hi → r x lo hi H Q →
    ∃ T id, typeLookup (.type T) "__getitem__" = pure (some (.builtin id)) ∧ s.TypeIs v T ∧ wpAny (model X.prog X.w) X.A (getItem v (.ref sl)) (EP X pins σ Q) X.xe s
def tSl (r : V → Option Int → Option Int → Hp → VK → Prop) (te : TE) (tl th : TO) : TE := fun σ H Q => te σ H fun x H1 => tl σ H1 fun l H2 => th σ H2 fun u H3 => r x l u H3 Q
/-- a[lo:hi], any a -/
theorem pe_slice {r : V → Option Int → Option Int → Hp → VK → Prop} (hr : SlR X r) (he : PE X e te) (hl : PO X lo tl) (hu : PO X hi th) : PE X (.Subscript e (.Slice lo hi none p2) pos) (tSl r te tl th) := by
  intro pins s σ H Q I h
  refine Subscript_ (thn (he pins s σ H _ I h) fun v s1 ⟨x, H1, I1, r1, q1⟩ => ?_)
  refine wpAny_Slice (thn (hl pins s1 σ H1 _ I1 q1) fun vl s2 ⟨l, H2, I2, pl, q2⟩ => thn (hu pins s2 σ H2 _ I2 q2) fun vu s3 ⟨u, H3, I3, pu, q3⟩ => ?_)
  rw [evalPart_none]
  refine wpAny_pure ?_
  have I4 : Inv X pins σ H3 { s3 with heap := s3.heap.push { cls := .type "slice", data := .fields #[vl, vu, .none] } } := I3.kept (t' := s3.toks) fun b ob q => Heap.get?_push_of_some _ q
  obtain ⟨T, id, hT, ht, hg⟩ := hr pins { s3 with heap := s3.heap.push { cls := .type "slice", data := .fields #[vl, vu, .none] } } σ H3 x v vl vu l u s3.heap.objs.size Q I4 r1 (Heap.IsSliceOf.new ..) pl pu q3
  show wpAny (model X.prog X.w) X.A (subscriptTail e (.Slice lo hi none p2) v (.ref s3.heap.objs.size)) (EP X pins σ Q) X.xe { s3 with heap := s3.heap.push { cls := .type "slice", data := .fields #[vl, vu, .none] } }
  exact tail_any (ops := [.ref s3.heap.objs.size, v]) ht hT hg (by with_unfolding_all rfl)

/-- the items of xs[lo:hi] -/
def cutV (xs : List V) (lo hi : Option Int) : List V := (xs.drop (HT.sIx xs.length 0 lo)).take (HT.sIx xs.length xs.length hi - HT.sIx xs.length 0 lo)
theorem cutV_length (xs : List V) (lo hi : Option Int) : (cutV xs lo hi).length ≤ xs.length := by
  unfold cutV
  rw [List.length_take, List.length_drop]
  omega
end
end L2

namespace L2
open PySem PySem.Spec PyProof.Rows

/-- the place that an index of any sign means -/
def ixN (n : Nat) (i : Int) : Option Nat := if 0 ≤ i then (if i < n then some i.toNat else none) else if -(n : Int) ≤ i then some (i + n).toNat else none
def atI {α : Type} (xs : List α) (i : Int) : Option α := (ixN xs.length i).bind fun j => xs[j]?
theorem ixN_seq {n : Nat} {i : Int} {j : Nat} (h : ixN n i = some j) : seqIndex? i n = some j ∧ j < n ∧ -(n : Int) ≤ i ∧ i < n := by
  unfold ixN at h
  by_cases h0 : 0 ≤ i
  · rw [if_pos h0] at h
    by_cases h1 : i < n
    · rw [if_pos h1] at h
      have e : i.toNat = j := Option.some.inj h
      exact ⟨by rw [seqIndex_of h0 h1, e], by omega, by omega, h1⟩
    · rw [if_neg h1] at h; cases h
  · rw [if_neg h0] at h
    by_cases h1 : -(n : Int) ≤ i
    · rw [if_pos h1] at h
      have e : (i + n).toNat = j := Option.some.inj h
      exact ⟨by rw [seqIndex_neg (by omega) h1, e], by omega, h1, by omega⟩
    · rw [if_neg h1] at h; cases h
theorem atI_get {α : Type} {xs : List α} {i : Int} {v : α} (h : atI xs i = some v) : ∃ j, seqIndex? i xs.length = some j ∧ xs[j]? = some v ∧ j < xs.length ∧ -(xs.length : Int) ≤ i ∧ i < xs.length := by
  unfold atI at h
  cases e : ixN xs.length i with
  | none => rw [e] at h; cases h
  | some j =>
    rw [e] at h
    obtain ⟨h1, h2, h3, h4⟩ := ixN_seq e
    exact ⟨j, h1, h, h2, h3, h4⟩
theorem atI_nat {α : Type} {xs : List α} {j : Nat} {v : α} (h : xs[j]? = some v) : atI xs (j : Int) = some v := by
  have hj : j < xs.length := (List.getElem?_eq_some_iff.mp h).1
  have e : ixN xs.length (j : Int) = some j := by
    unfold ixN
    rw [if_pos (by omega), if_pos (by omega)]; simp
  unfold atI; rw [e]; exact h
/-- what stands as an index of a plain subscript -/
def PlainIx (b : Expr) : Prop := ∀ o i, subscripted b false o i = operate [o, i] (getItem o i)
/-- a subscript by values -/
def IxR (X : Cx) (r : R2) : Prop :=
  ∀ (value slice : Expr) (pins : List (Addr × Obj)) (s : Shared) (σ : St) (H : Hp) (x y : V) (v u : Value) (Q : VK), Inv X pins σ H s → RelV x v → RelV y u → r x y H Q →
    subscripted slice false v u = operate [v, u] (getItem v u) → wpAny (model X.prog X.w) X.A (subscriptTail value slice v u) (EP X pins σ Q) X.xe s
/-- a call of a builtin's method by values: the receiver, the arguments -/
def MtR (X : Cx) (id : String) (r : V → List V → Hp → VK → Prop) : Prop :=
  ∀ (pins : List (Addr × Obj)) (s : Shared) (σ : St) (H : Hp) (x : V) (xs : List V) (v : Value) (us : List Value) (Q : VK), Inv X pins σ H s → RelV x v → Vals xs us → r x xs H Q →
    wpAny (model X.prog X.w) X.A (call (.builtin id) (v :: us)) (EP X pins σ Q) X.xe s
section
variable {X : Cx} {a b : Expr} {ta tb : TE} {pos : Pos}
/-- a[b] -/
theorem pe_ix {r : R2} (hr : IxR X r) (ha : PE X a ta) (hb : PE X b tb) (hs : PlainIx b) : PE X (.Subscript a b pos) (tOp r ta tb) := by
  intro pins s σ H Q I h
  exact Subscript_ (binT ha hb I h fun v u s2 x y H2 I2 rx ry q => hr a b pins s2 σ H2 x y v u Q I2 rx ry q (hs _ _))

def rIxL (K : PySem.W.Frag) : R2 := fun x y H Q => ∃ p xs i v, x = .ref p ∧ y = .int i ∧ SqL K H p xs ∧ atI xs i = some v ∧ Q v H
theorem ix_list : IxR X (rIxL X.K) := by
  intro value slice pins s σ H x y v u Q I rx ry h hs
  obtain ⟨p, xs, i, z, rfl, rfl, hq, he, q⟩ := h
  cases rx
  obtain ⟨t, rfl⟩ := ry
  obtain ⟨its, r, pl, hz⟩ := I.list hq
  obtain ⟨j, h1, h2, h3, h4, h5⟩ := atI_get he
  obtain ⟨w, ew, rw'⟩ := r.get h2
  have hl := r.length
  have hn := line63
  have fin : EP X pins σ Q w s := ⟨z, H, I, rw', q⟩
  by_cases h0 : 0 ≤ i
  · have hj : i.toNat = j := by
      rw [seqIndex_of h0 h5] at h1
      exact Option.some.inj h1
    exact item_listR pl.isList h0 (by omega) (by rw [hj]; simpa using ew) fin hs
  · have hj : (i + (its.toArray.size : Int)).toNat = j := by
      rw [seqIndex_neg (by omega) h4] at h1
      rw [List.size_toArray, ← hl]
      exact Option.some.inj h1
    exact subscriptTail_builtinR (x := w) pl.isList.typeIs slot_list_getitem.lookup
      (wpAny_getItem_list_neg (Q := fun r s' => r = w ∧ EP X pins σ Q r s') pl.isList (by omega) (by rw [List.size_toArray] <;> omega) (by omega) (by rw [hj]; simpa using ew) ⟨rfl, fin⟩) hs
/-- the list's object behind a store -/
theorem mapSeq_set (its : List Value) (n j : Nat) (u : Value) : Obj.mapSeq (·.setIfInBounds j u) { cls := .type "list", data := .seq its.toArray n } = { cls := .type "list", data := .seq (its.set j u).toArray n } := by
  simp [Obj.mapSeq]
theorem Inv.lst {pins : List (Addr × Obj)} {σ : St} {H : Hp} {s : Shared} {p : Addr} {xs : List V} (I : Inv X pins σ H s) (h : H p = some (.lst xs)) :
    ∃ (its : List Value) (n : Nat), Vals xs its ∧ s.heap.get? p = some { cls := .type "list", data := .seq its.toArray n } ∧ xs.length ≤ sizeLine := by
  obtain ⟨z, its, n, r, e⟩ := I.hok p _ h
  exact ⟨its, n, r, e, z⟩
/-- the list at p is written by an update of its object -/
theorem Inv.lstUpd {pins : List (Addr × Obj)} {σ : St} {H : Hp} {s : Shared} {p : Addr} {xs ys : List V} {its its' : List Value} {n n' : Nat} {f : Obj → Obj} (I : Inv X pins σ H s) (h : H p = some (.lst xs))
    (ho : s.heap.get? p = some { cls := .type "list", data := .seq its.toArray n }) (hf : f { cls := .type "list", data := .seq its.toArray n } = { cls := .type "list", data := .seq its'.toArray n' }) (r : Vals ys its') (hz : ys.length ≤ sizeLine) (t : Nat) :
    Inv X pins σ (upd H p (.lst ys)) { s with heap := s.heap.update p f, toks := t } := by
  have e : (s.heap.update p f).get? p = some { cls := .type "list", data := .seq its'.toArray n' } := by
    rw [Heap.get?_update_self f ho (by rw [hf] <;> rfl), hf]
  refine I.write (x := p) (e := p) (by rw [h]; trivial) (.inl rfl) (fun b u hb q => (Heap.get?_update_other _ _ (Ne.symm hb)).trans q) ⟨_, e⟩ ?_
  exact ⟨hz, its', n', r, e⟩
def rSetL : V → V → V → Hp → (Hp → Prop) → Prop := fun o i v H Q => ∃ p xs k j, o = .ref p ∧ i = .int k ∧ H p = some (.lst xs) ∧ ixN xs.length k = some j ∧ Q (upd H p (.lst (xs.set j v)))
theorem set_list : PSet X rSetL := by
  intro pins s σ H o i v ov iv u Q I ro ri rv h
  obtain ⟨p, xs, k, j, rfl, rfl, hp, hj, q⟩ := h
  cases ro
  obtain ⟨t, rfl⟩ := ri
  obtain ⟨its, n, r, ho, hz⟩ := I.lst hp
  obtain ⟨h1, h2, h3, h4⟩ := ixN_seq hj
  have hl := r.length
  have hn := line63
  have I' : Inv X pins σ (upd H p (.lst (xs.set j v))) { s with heap := s.heap.update p (Obj.mapSeq (·.setIfInBounds j u)) } :=
    I.lstUpd hp ho (mapSeq_set its n j u) (r.set rv j) (by rw [List.length_set]; exact hz) s.toks
  by_cases h0 : 0 ≤ k
  · have hk : k.toNat = j := by
      rw [seqIndex_of h0 h4] at h1
      exact Option.some.inj h1
    exact PySem.W.ki_setAt ho h0 (by omega) (by rw [List.size_toArray, ← hl]; exact h4) (by rw [hk]; exact ⟨_, I', q⟩)
  · have hk : (k + (its.toArray.size : Int)).toNat = j := by
      rw [seqIndex_neg (by omega) h3] at h1
      rw [List.size_toArray, ← hl]
      exact Option.some.inj h1
    exact PySem.W.ki_setBack ho (by omega) (by rw [List.size_toArray, ← hl]; exact h3) (by omega) (by rw [hk]; exact ⟨_, I', q⟩)

theorem slice_bounds (lo hi : Option Int) (n : Nat) : (sliceBounds lo hi none n).1 = ((HT.sIx n 0 lo : Nat) : Int) ∧ (sliceBounds lo hi none n).2.1 = ((HT.sIx n n hi : Nat) : Int) ∧ (sliceBounds lo hi none n).2.2 = 1 := by
  refine ⟨?_, ?_, rfl⟩
  · cases lo with
    | none => simp [sliceBounds, HT.sIx]
    | some i =>
      simp only [sliceBounds, HT.sIx, Option.getD_none, show (1 : Int) > 0 by decide, if_true]
      by_cases h : i < 0
      · simp only [h, if_true] <;> omega
      · simp only [h, if_false] <;> omega
  · cases hi with
    | none => simp [sliceBounds, HT.sIx]
    | some i =>
      simp only [sliceBounds, HT.sIx, Option.getD_none, show (1 : Int) > 0 by decide, if_true]
      by_cases h : i < 0
      · simp only [h, if_true] <;> omega
      · simp only [h, if_false] <;> omega
theorem slicePick_cut (its : List Value) (lo hi : Option Int) : slicePick its.toArray lo hi none = ((its.drop (HT.sIx its.length 0 lo)).take (HT.sIx its.length its.length hi - HT.sIx its.length 0 lo)).toArray := by
  obtain ⟨h1, h2, h3⟩ := slice_bounds lo hi its.toArray.size
  unfold slicePick
  rw [h1, h2, h3]
  simp only [sliceRange_one, pick_run, List.size_toArray] <;> rfl
/-- xs[lo:hi] of a list: a new list -/
def rSlL (K : PySem.W.Frag) : V → Option Int → Option Int → Hp → VK → Prop := fun x lo hi H Q => ∃ a xs, x = .ref a ∧ SqL K H a xs ∧ ∀ p, H p = none → Q (.ref p) (upd H p (.lst (cutV xs lo hi)))
theorem sl_list : SlR X (rSlL X.K) := by
  intro pins s σ H x v vl vu lo hi sl Q I rx hs pl pu h
  obtain ⟨a, xs, rfl, hx, q⟩ := h
  cases rx
  obtain ⟨its, r, ht, hz⟩ := I.list hx
  have hlen := r.length
  refine ⟨"list", _, slot_list_getitem.lookup, ht.isList.typeIs, ?_⟩
  refine wpAny_getItem_list_slice ht.isList hs pl pu .none (by simp) ?_ (by rw [List.size_toArray] <;> omega)
  rw [slicePick_cut, ← hlen]
  refine ⟨.ref s.heap.objs.size, _, I.laid (t' := s.toks) (o := .lst (cutV xs lo hi)) (fun b ob q => Heap.get?_push_of_some _ q) (Nat.le_refl _) ?_, rfl, q _ (I.hok.fresh (Nat.le_refl _))⟩
  exact ⟨Nat.le_trans (cutV_length xs lo hi) hz, _, 0, (r.drop (HT.sIx xs.length 0 lo)).take (HT.sIx xs.length xs.length hi - HT.sIx xs.length 0 lo), Heap.get?_push_size _ rfl⟩

theorem call_len_seq : CallR X (.builtin "len") (fun xs H Q => ∃ p ys, xs = [.ref p] ∧ (SqL X.K H p ys ∨ SqT X.K H p ys) ∧ Q (.int ys.length) H) := by
  intro pins s σ H xs us Q I r h
  obtain ⟨p, ys, rfl, hq, q⟩ := h
  obtain ⟨u, rfl, rx⟩ := vals1 r
  cases rx
  have hn := line63
  rcases hq with hq | hq
  · obtain ⟨its, r', pl, hz⟩ := I.list hq
    have hlen := r'.length
    exact Calls.call_len_list pl.isList (by simp only [List.size_toArray] <;> omega) ⟨.int ys.length, H, I.tok _, ⟨s.toks + 1, by rw [List.size_toArray, hlen]⟩, q⟩
  · obtain ⟨its, r', pl, hz⟩ := I.tuple hq
    have hlen := r'.length
    exact len_tuple pl (by simp only [List.size_toArray] <;> omega) ⟨.int ys.length, H, I.tok _, ⟨s.toks + 1, by rw [List.size_toArray, hlen]⟩, q⟩
theorem call_list_of : CallR X (.type "list") (fun xs H Q => ∃ p ys, xs = [.ref p] ∧ (SqL X.K H p ys ∨ SqT X.K H p ys) ∧ ∀ l, H l = none → Q (.ref l) (upd H l (.lst ys))) := by
  intro pins s σ H xs us Q I r h
  obtain ⟨p, ys, rfl, hq, q⟩ := h
  obtain ⟨u, rfl, rx⟩ := vals1 r
  cases rx
  have fin : ∀ (its : List Value), Vals ys its → ys.length ≤ sizeLine → ∀ (h' : Heap) (c' : Nat), (∀ b o', s.heap.get? b = some o' → h'.get? b = some o') →
      h'.get? s.heap.objs.size = some { cls := .type "list", dict := none, data := .seq its.toArray c', slots := #[] } → EP X pins σ Q (.ref s.heap.objs.size) { s with heap := h' } := fun its r' hz h' c' kp e =>
    ⟨.ref s.heap.objs.size, _, I.laid (t' := s.toks) kp (Nat.le_refl _) (show ObjOk X.prog X.w _ h' _ (.lst ys) from ⟨hz, its, c', r', e⟩), rfl, q _ (I.hok.fresh (Nat.le_refl _))⟩
  rcases hq with hq | hq
  · obtain ⟨its, r', pl, hz⟩ := I.list hq
    have hlen := r'.length
    obtain ⟨o, ho, hc, n, hd⟩ := pl.isList
    exact call_list_seq p (.inl rfl) ho hc hd (fun h' c' kp e => fin its r' hz h' c' kp e) (by simp only [List.size_toArray] <;> omega)
  · obtain ⟨its, r', pl, hz⟩ := I.tuple hq
    have hlen := r'.length
    obtain ⟨o, ho, hc, n, hd⟩ := pl
    exact call_list_seq p (.inr rfl) ho hc hd (fun h' c' kp e => fin its r' hz h' c' kp e) (by simp only [List.size_toArray] <;> omega)
/-- the value is of that builtin type -/
def tyV (K : PySem.W.Frag) (T : String) (x : V) (H : Hp) : Prop := match x with
  | .str _ => T = "str"
  | .int _ => T = "int"
  | .ref p => (T = "list" ∧ ∃ xs, SqL K H p xs) ∨ (T = "tuple" ∧ ∃ o, K.lookup p = some o ∧ o.cls = .type "tuple" ∧ o.dict = none) ∨
      (T = "dict" ∧ ((∃ kvs, H p = some (.dK kvs)) ∨ ∃ kvs, H p = some (.dT kvs))) ∨ (T = "set" ∧ ∃ S n, H p = some (.set S n))
  | _ => False
theorem tyV_is {pins : List (Addr × Obj)} {σ : St} {H : Hp} {s : Shared} {T : String} {x : V} {v : Value} (I : Inv X pins σ H s) (r : RelV x v) (ty : tyV X.K T x H) :
    s.TypeIs v T ∧ ∀ a, v = .ref a → ∃ ob, s.heap.get? a = some ob ∧ ob.dict = none := by
  cases x with
  | str z =>
    obtain ⟨t, rfl⟩ := r
    cases (show T = "str" from ty)
    exact ⟨typeIs_str s z t, fun _ e => nomatch e⟩
  | int i =>
    obtain ⟨t, rfl⟩ := r
    cases (show T = "int" from ty)
    exact ⟨typeIs_int s i t, fun _ e => nomatch e⟩
  | ref p =>
    cases r
    rcases ty with ⟨rfl, xs, hq⟩ | ⟨rfl, o, hk, hc, hd⟩ | ⟨rfl, hk⟩ | ⟨rfl, S, n, hk⟩
    · obtain ⟨its, _, pl, _⟩ := I.list hq
      refine ⟨pl.isList.typeIs, fun a e => ?_⟩
      cases e
      obtain ⟨o, n, e, c, hd, _⟩ := pl
      exact ⟨o, e, hd⟩
    · refine ⟨⟨o, I.kIn p o hk, hc⟩, fun a e => ?_⟩
      cases e
      exact ⟨o, I.kIn _ o hk, hd⟩
    · have z : ∃ o, s.heap.get? p = some o ∧ o.ExactDict := by
        rcases hk with ⟨kvs, hk⟩ | ⟨kvs, hk⟩
        · obtain ⟨_, _, _, _, o, _, _, e, ex, _⟩ := I.hok p _ hk
          exact ⟨o, e, ex⟩
        · obtain ⟨_, _, _, _, o, _, _, e, ex, _⟩ := I.hok p _ hk
          exact ⟨o, e, ex⟩
      obtain ⟨o, e, ex⟩ := z
      refine ⟨⟨o, e, ex.1⟩, fun a e2 => ?_⟩
      cases e2
      exact ⟨o, e, ex.2.1⟩
    · obtain ⟨o, _, _, _, e, ex, _⟩ := I.hok p _ hk
      refine ⟨⟨o, e, ex.1⟩, fun a e2 => ?_⟩
      cases e2
      exact ⟨o, e, ex.2.1⟩
  | _ => exact False.elim ty
def tBM0 (K : PySem.W.Frag) (T : String) (r : V → List V → Hp → VK → Prop) (to : TE) : TE := fun σ H Q => to σ H fun x H1 => tyV K T x H1 ∧ r x [] H1 Q
def tBM (K : PySem.W.Frag) (T : String) (r : V → List V → Hp → VK → Prop) (to : TE) (t : TA) : TE := fun σ H Q => to σ H fun x H1 => tyV K T x H1 ∧ t σ H1 fun xs H2 => r x xs H2 Q
variable {o e : Expr} {es : List Expr} {to : TE} {t : TA} {name : Str} {apos cpos : Pos} {T id : String} {r : V → List V → Hp → VK → Prop}
theorem pe_bm (pa : PlainAttrs T) (slot : Slot T name id) (hty : typeOf (.builtin id) = pure (.type "method_descriptor")) (hm : MtR X id r) (ho : PE X o to) (ha : PA X (e :: es) t)
    (hbase : attributeBase o name X.env (eval o X.env) = eval o X.env := by rfl)
    (hfew : ((backTo cpos (starEach (e :: es) X.env)).all (fun x => !x.1) && (backToKw cpos (keywordEach [] X.env)).all (fun x => x.1.isSome)
      && decide ((e :: es).length + ([] : List Keyword).length + (if ([] : List Keyword).isEmpty then 0 else 1) < 30)) = true := by rfl)
    (hline : (apos.endLine == cpos.line) = true := by rfl) (hs : starEach (e :: es) X.env = (false, eval e X.env) :: starEach es X.env := by rfl) (hplain : (backTo cpos (starEach es X.env)).any (·.1) = false := by rfl) :
    PE X (.Call (.Attribute o name apos) (e :: es) [] cpos) (tBM X.K T r to t) := by
  intro pins s σ H Q I h
  refine wpAny_Call_method_late hbase hfew hline rfl (thn (ho pins s σ H _ I h) fun v s1 ⟨x, H1, I1, r1, ty, q1⟩ => ?_)
  obtain ⟨h1, h2⟩ := tyV_is I1 r1 ty
  refine ⟨T, id, pa, slot, hty, h1, h2, ?_⟩
  have hA := ha cpos pins s1 σ H1 _ I1 q1
  rw [hs] at hA ⊢
  refine Calls.callWith_builtin (by show (false || (backTo cpos (starEach es X.env)).any (·.1)) = false; rw [hplain] <;> rfl) (Calls.evalArgs_plain ?_)
  exact thn hA fun us s2 ⟨vs, H2, I2, r2, q2⟩ => hm pins s2 σ H2 x vs v us Q I2 r1 r2 q2
/- xs.append(e), list.index on a module's tuple .. are MtR facts of 06m -/
end
end L2

namespace L2
open PySem PySem.Spec PyProof.Rows

def MtM (X : Cx) (id : String) (r : V → List V → Hp → VK → Prop) : Prop :=
  ∀ (pins : List (Addr × Obj)) (s : Shared) (σ : St) (H : Hp) (x : V) (xs : List V) (v : Value) (us : List Value) (Q : VK), Inv X pins σ H s → RelV x v → Vals xs us → r x xs H Q →
    wpAny (model X.prog X.w) X.A (call (.builtin id) (v :: us)) (EP X pins σ Q) X.xe s

theorem Vals.two : ∀ {x y : V} {us : List Value}, Vals [x, y] us → ∃ u v, us = [u, v] ∧ RelV x u ∧ RelV y v
  | _, _, _, .cons r (.cons q .nil) => ⟨_, _, rfl, r, q⟩
section
variable {X : Cx} {pins : List (Addr × Obj)} {σ : St} {H : Hp} {s : Shared} {l b : Addr} {xs ys zs : List V}

theorem Inv.lset {its its' : List Value} {n : Nat} {f : Array Value → Array Value} {t' : Nat} (I : Inv X pins σ H s) (hH : H l = some (.lst xs))
    (e : s.heap.get? l = some { cls := .type "list", data := .seq its.toArray n }) (hf : f its.toArray = its'.toArray) (hv : Vals ys its') (hz : ys.length ≤ sizeLine) :
    Inv X pins σ (upd H l (.lst ys)) { s with heap := s.heap.update l (Obj.mapSeq f), toks := t' } := by
  have q := PySem.IsL.update e f
  rw [hf] at q
  refine I.write (x := l) (e := l) (by rw [hH]; exact trivial) (.inl rfl) (fun b' u hb hu => (Heap.get?_update_other s.heap (Obj.mapSeq f) (Ne.symm hb)).trans hu) ⟨_, q⟩ ?_
  exact ⟨hz, its', _, hv, q⟩
theorem Inv.lnew {its : List Value} {t' : Nat} (I : Inv X pins σ H s) (hv : Vals ys its) (hz : ys.length ≤ sizeLine) :
    Inv X pins σ (upd H s.heap.objs.size (.lst ys)) { s with heap := s.heap.push { cls := .type "list", data := .seq its.toArray }, toks := t' } :=
  I.laid (fun _ _ q => Heap.get?_push_of_some _ q) (Nat.le_refl _) ⟨hz, its, 0, hv, Heap.get?_push_size _ rfl⟩
theorem Inv.fresh (I : Inv X pins σ H s) : H s.heap.objs.size = none := I.hok.fresh (Nat.le_refl _)
theorem Inv.lstM (I : Inv X pins σ H s) (hH : H l = some (.lst xs)) : xs.length ≤ sizeLine ∧ ∃ (its : List Value) (n : Nat), Vals xs its ∧ xs.length = its.length ∧ s.heap.get? l = some { cls := .type "list", data := .seq its.toArray n } := by
  obtain ⟨z, its, n, r, e⟩ := I.hok l _ hH
  exact ⟨z, its, n, r, r.length, e⟩

end

section
variable {X : Cx}

def rCat : R2 := fun x y H Q => ∃ l b xs zs, x = .ref l ∧ y = .ref b ∧ H l = some (.lst xs) ∧ H b = some (.lst zs) ∧ xs.length + zs.length ≤ sizeLine ∧ ∀ p, H p = none → Q (.ref p) (upd H p (.lst (xs ++ zs)))
theorem op_cat : OpR X (binaryOp .Add) rCat := by
  intro pins s σ H x y v u Q I rx ry h
  obtain ⟨l, b, xs, zs, rfl, rfl, hH, hB, hz, q⟩ := h
  cases rx
  cases ry
  obtain ⟨z, its, n, r, hl, e⟩ := I.lstM hH
  obtain ⟨z2, its2, n2, r2, hl2, e2⟩ := I.lstM hB
  refine PySem.P.add_list e e2 ?_ (by rw [List.size_toArray, List.size_toArray]; omega)
  have ea : its.toArray ++ its2.toArray = (its ++ its2).toArray := by simp
  rw [ea]
  exact ⟨.ref _, _, I.lnew (t' := s.toks) (r.append r2) (by rw [List.length_append]; omega), rfl, q _ I.fresh⟩
end

section
variable {prog : Program} {w : World} {A : Around} {E : Value → Shared → Prop} {s : Shared}
set_option maxRecDepth 100000 in
end

section
variable {X : Cx}
end
end L2

namespace Att
open PySem PySem.W PySem.Calls PyProof.Rows

theorem ints_of_wellAll {P : Params} {h : Heap} : ∀ (ns : List Int) (vs : List Value), WellAll P h vs (ns.map WData.int) → IntsAre vs ns := by
  intro ns
  induction ns with
  | nil =>
    intro vs w
    rw [List.map_nil] at w
    cases w
    exact .nil
  | cons n ns ih =>
    intro vs w
    rw [List.map_cons] at w
    cases w with
    | cons a b =>
      cases a
      exact .cons _ _ (ih _ b)

theorem script_of {l : OpenLaw} {n : Nat} (hn : l.most = some n) {P : Params} {h : Heap} {args : List WData} {vals : List Value}
    (hpre : l.row.toRowW.claim.pre args = true) (hwl : WellAll P h vals args) :
    ∃ a vs ns, vals = [Value.ref a] ∧ args = [WData.list (ns.map WData.int)] ∧ h.get? a = some { cls := .type "list", data := .seq vs.toArray } ∧ IntsAre vs ns ∧ ns.length ≤ n := by
  have hsh : WShape.hasAll [] args [.list .int] = true := (pre_splitW hpre).1
  have hc : l.pre.holds [] { args := args } = true := (pre_splitW hpre).2
  obtain ⟨d, r, rfl, h1, h2⟩ := hasAllW_cons hsh
  obtain rfl := hasAllW_nil h2
  obtain ⟨xs, rfl, h3⟩ := hasW_list h1
  obtain ⟨ns, rfl⟩ := items_int h3
  have hlen : ns.length ≤ n := by
    unfold OpenLaw.pre at hc
    have h4 : (WTm.not (.lt (.lit (.int (n : Int))) (.len (.arg 0)))).holds [] { args := [.list (ns.map .int)] } = true := by
      have h4 := (holds_andW hc).1
      rw [hn] at h4
      exact h4
    have h5 := condW_of h4 (w_not (w_lt w_lit (w_len_list (w_arg rfl))))
    rw [List.length_map] at h5
    refine Nat.le_of_not_lt fun q => ?_
    have q' : (n : Int) < ((ns.length : Nat) : Int) := by omega
    first
      | (rw [decide_eq_true q'] at h5; exact absurd h5 (by decide))
      | (simp at h5; omega)
  cases hwl with
  | cons w1 w2 =>
    cases w2
    cases w1 with
    | list ho hall => exact ⟨_, _, ns, rfl, rfl, ho, ints_of_wellAll ns _ hall, hlen⟩

theorem post_true (l : OpenLaw) (args : List WData) : l.row.toRowW.claim.post args (.bool true) args = true :=
  postW_of (r := l.row.toRowW) (X := (true == true))
    (show WShape.has [] (.bool true) .bool = true by first | rfl | decide | simp [WShape.has, WShape.arms, WShape.armsAll])
    (show (WTm.eq .res (.lit (.bool true))).value [] { args := args, res := some (.bool true), after := args } = some (.bool (true == true)) from w_eq_bool (w_res rfl) w_lit) rfl

/-- the same from a codeAny of the CALL (for a layer whose function contracts speak of calls) -/
theorem attach_call {l : OpenLaw} {n : Nat} {q : Program} {loose : List Str} {XP : (Str → Option Value) → Heap → Prop} {YP : World → Heap → Prop} {d : DefRec}
    (hn : l.most = some n) (hdf : d.params.defaults = [])
    (call : ∀ (w : World) (s₀ s₁ : Shared) (mg mb : Str → Option Value) (fa : Addr) (o : Obj) (pm cd doc : Value) (a : Addr) (vs : List Value) (ns : List Int),
      Ground q loose [] XP w s₀ mg mb s₁.heap → YP w s₁.heap →
      s₁.heap.get? fa = some o → o.data = .func (docDef d.name d.params d.body d.scope pm cd doc) → s₁.heap.CodeRec cd d.name → mg d.name = some (.ref fa) →
      s₁.heap.get? a = some { cls := .type "list", data := .seq vs.toArray } → IntsAre vs ns → ns.length ≤ n → s₁.gens = #[] →
      codeAny (model l.prog w) callerA (.call (.ref fa) ⟨[.ref a], []⟩) (fun r s' => r = .ok (.ret (.bool true)) ∧ OldK s₁.heap s'.heap ∧ s'.os = s₁.os ∧ AllBare s'.gens) s₁) :
    WalkO q loose XP YP l.row.toRowW d [] (fun f vs => PySem.call f vs) := by
  intro w s₀ s₁ mg mb G Y fa o pm cd doc dV kV ho hd hcd hD hmg hg args vals as hpre hlay hrd hwl hlo
  obtain rfl : dV = .none := Dflts.none hD hdf
  obtain rfl : kV = .none := Dflts.noKw hD
  obtain ⟨a, vs, ns, rfl, rfl, hobj, hints, hlen⟩ := script_of hn hpre hwl
  refine enter_call (codeAny_mono (call w s₀ s₁ mg mb fa o pm cd doc a vs ns G Y ho (fd_plain hd) hcd hmg hobj hints hlen hg) fun r s' hq => ?_)
  obtain ⟨rfl, h2, h3, h4⟩ := hq
  exact ⟨.inl ⟨.bool true, .bool true, [], rfl, fun _ => rfl, .bool true, post_true l _, fun _ => ⟨List.Pairwise.nil, fun _ hm => (nomatch hm)⟩⟩, h2, h3, h4⟩

section
variable {prog : Program} {w : World} {A : Around} {E : Value → Shared → Prop} {s : Shared} {K : Frag}

end
end Att

namespace L2
open PySem PySem.Spec PyProof.Rows

theorem vals_ints : ∀ {vs : List Value} {ns : List Int}, IntsAre vs ns → Vals (ns.map V.int) vs
  | _, _, .nil => .nil
  | _, _, .cons n t h => .cons ⟨t, rfl⟩ (vals_ints h)

/-- nothing is tracked but the script, known to the object (or it is an object of the module) -/
def Only (H : Hp) : Prop := ∀ b, H b = none ∨ ∃ o xs, H b = some (.frz o (.lst xs))

/-- THE HEAD: the law's promise, at the heap behind the top. F, the promise of the law's def, may use that base is part of the heap (so K.In base, base.Ns mainGlobals mg stand in Mod) -/
theorem law_call {P : Program} {w : World} {K : PySem.W.Frag} {mg mb : Str → Option Value} {CX : CXT} {k : Nat} {fa a : Addr} {fd : FuncData} {x : Str} {sp : Sp} {s₁ : Shared} {vs : List Value} {ns : List Int}
    (KX : K.In s₁.heap) (hns : s₁.heap.Ns mainGlobals mg) (hb : s₁.heap.Ns builtinsNs mb) (hbb : ∀ x : Str, x ≠ "__name__" → mb x = bootBuiltins x) (hlim : s₁.heap.NoLimit) (hg : s₁.gens = #[])
    (ha : s₁.heap.get? a = some { cls := .type "list", data := .seq vs.toArray }) (hi : IntsAre vs ns) (hl : ns.length ≤ sizeLine) (hr : Room k callerA)
    (F : ∀ base : Heap, K.In base → base.Ns mainGlobals mg → FnOk P w K mg base CX k fa fd [x] sp) (hbind : ∀ (s : Shared) (u : Value), BindsTo s fd ⟨[u], []⟩ [(x, u)])
    (hsp : ∀ H : Hp, Only H → SqL K H a (ns.map V.int) → sp [.ref a] H (fun v _ => v = .bl true) fun _ _ _ => False)
    (hCX : ∀ H e s', CX [] H s₁ (fun _ _ _ => False) e s' → False) :
    codeAny (model P w) callerA (.call (.ref fa) ⟨[.ref a], []⟩) (fun r s' => r = .ok (.ret (.bool true)) ∧ OldK s₁.heap s'.heap ∧ s'.os = s₁.os ∧ AllBare s'.gens) s₁ := by
  have rv := vals_ints hi
  have lenV := hi.length
  -- from an abstract heap in which nothing but the script may be tracked
  have core : ∀ H : Hp, Only H → SqL K H a (ns.map V.int) → HOk P w H s₁.heap → (∀ b, H b ≠ none → b = a) → (H a ≠ none → K.lookup a = none) →
      codeAny (model P w) callerA (.call (.ref fa) ⟨[.ref a], []⟩) (fun r s' => r = .ok (.ret (.bool true)) ∧ OldK s₁.heap s'.heap ∧ s'.os = s₁.os ∧ AllBare s'.gens) s₁ := by
    intro H hO hS hok hA hK
    have base_of : ∀ {b : Addr} {o : Obj}, s₁.heap.get? b = some o → H b = none → (hidT s₁.heap H).get? b = some o := fun e n => hidT_get e n
    have noA : ∀ {b : Addr} {o : Obj} {es : Array DictEntry} {ep : Nat}, s₁.heap.get? b = some o → o.data = .dict es ep → H b = none := fun {b o es ep} e d => by
      cases q : H b with
      | none => rfl
      | some u =>
        have e' : b = a := hA b (by rw [q]; simp)
        subst e'
        rw [ha] at e; cases e
        have d' : Data.seq vs.toArray _ = Data.dict es ep := d
        cases d'
    have nsK : ∀ {b : Addr} {m : Str → Option Value}, s₁.heap.Ns b m → (hidT s₁.heap H).Ns b m := fun {b m} ⟨o, es, ep, e, d, r⟩ => ⟨o, es, ep, base_of e (noA e d), d, r⟩
    have hKb : K.In (hidT s₁.heap H) := fun b o e => base_of (KX b o e) (by
      cases q : H b with
      | none => rfl
      | some u =>
        have e' : b = a := hA b (by rw [q]; simp)
        subst e'
        rw [hK (by rw [q]; simp)] at e; cases e)
    have hM : Mod K mg (hidT s₁.heap H) := ⟨hKb, nsK hns, ⟨mb, nsK hb, hbb⟩, let ⟨mc, h1, h2⟩ := hlim; ⟨mc, nsK h1, h2⟩⟩
    have e0 : Env0 P w K mg (hidT s₁.heap H) callerA [] s₁ H := ⟨rfl, hM, fun b o e => of_hidT e, Nat.le_of_eq (hidT_size _ _), trivial, fun b hb => absurd (show b ∈ ([] : List Addr) from hb) (by simp), hok, .of_eq hg⟩
    refine codeAny_mono ((F _ hKb (nsK hns)).run callerA [] s₁ H ⟨[.ref a], []⟩ [.ref a] [.ref a] _ _ hr e0 (hbind s₁ (.ref a)) (.cons rfl .nil) (hsp H hO hS)) fun r s' h => ?_
    cases r with
    | error e => exact (hCX H e s' h).elim
    | ok fl =>
      cases fl with
      | next => exact False.elim h
      | brk => exact False.elim h
      | cont => exact False.elim h
      | ret u =>
        obtain ⟨v, H', os, bare, un, hok', r', q⟩ := h
        have q' : v = .bl true := q
        subst q'
        obtain rfl : u = Value.bool true := r'
        refine ⟨rfl, OldK.of_keep fun b o e => ?_, os, bare⟩
        cases q : H b with
        | none => exact un.keep b o e q (by intro z; exact absurd (show b ∈ ([] : List Addr) from z) (by simp)) (by simp)
        | some u =>
          rcases hO b with z | ⟨ob, xs, z⟩
          · rw [q] at z; cases z
          · have z2 := un.frzs b ob _ z
            obtain ⟨e1, _⟩ := hok b _ z
            obtain ⟨e2, _⟩ := hok' b _ z2
            rw [e] at e1; cases e1
            exact e2
  cases hk : K.lookup a with
  | some o =>
    -- the script is one of the module's own objects
    have e := KX a o hk
    rw [ha] at e
    cases e
    refine core (fun _ => none) (fun _ => .inl rfl) (.inr ⟨_, vs.toArray, _, hk, rfl, rfl, rfl, by rw [List.size_toArray, lenV]; exact hl, by simpa using rv⟩) (fun b u z => by have z' : (none : Option HO) = some u := z; cases z') (fun b z => absurd rfl z) fun z => absurd rfl z
  | none =>
    refine core (fun b => if b = a then some (.frz { cls := .type "list", data := .seq vs.toArray } (.lst (ns.map V.int))) else none) (fun b => ?_) (.inl (.inr ⟨{ cls := .type "list", data := .seq vs.toArray }, if_pos rfl⟩)) (fun b u z => ?_) (fun b z => ?_) fun _ => hk
    · by_cases hb : b = a
      · exact .inr ⟨_, _, if_pos hb⟩
      · exact .inl (if_neg hb)
    · by_cases hb : b = a
      · have z' := (if_pos hb).symm.trans z
        cases z'
        subst hb
        exact ⟨ha, by rw [List.length_map]; exact hl, vs, _, rv, ha⟩
      · have z' := (if_neg hb).symm.trans z
        cases z'
    · by_cases hb : b = a
      · exact hb
      · exact absurd (if_neg hb) z
end L2

namespace L2
open PySem PySem.Spec PyProof.Rows

/-- the goal that k_head leaves (case hc), from the law's promise. F gives the function object fd (K's own) once, then the promise over every base -/
theorem walk_of {l : PySem.W.OpenLaw} {n k : Nat} {q : Program} {loose : List Str} {XP : (Str → Option Value) → Heap → Prop} {YP : World → Heap → Prop} {d : DefRec} {K : Params → PySem.W.Frag} {CX : World → CXT} {sp : World → Sp} {x : Str}
    (hn : l.most = some n) (hn2 : n ≤ sizeLine) (hdf : d.params.defaults = []) (hr : Room k callerA)
    (hY : ∀ (w : World) (h : Heap), YP w h → (K w.params).In h)
    (F : ∀ (w : World) (mg : Str → Option Value) (fa : Addr) (h : Heap), (K w.params).In h → h.Ns mainGlobals mg → mg d.name = some (.ref fa) →
      ∃ fd : FuncData, (∀ (s : Shared) (u : Value), BindsTo s fd ⟨[u], []⟩ [(x, u)]) ∧
        ∀ base : Heap, (K w.params).In base → base.Ns mainGlobals mg → FnOk l.prog w (K w.params) mg base (CX w) k fa fd [x] (sp w))
    (hsp : ∀ (w : World) (H : Hp) (a : Addr) (ns : List Int), ns.length ≤ n → Only H → SqL (K w.params) H a (ns.map V.int) → sp w [.ref a] H (fun v _ => v = .bl true) fun _ _ _ => False)
    (hCX : ∀ (w : World) (H : Hp) (s : Shared) (e : Value) (s' : Shared), CX w [] H s (fun _ _ _ => False) e s' → False) :
    PySem.W.WalkO q loose XP YP l.row.toRowW d [] (fun f vs => PySem.call f vs) := by
  refine Att.attach_call hn hdf fun w s₀ s₁ mg mb fa o pm cd doc a vs ns G Y ho hd hcd hmg hobj hints hlen hg => ?_
  have KX := hY w _ Y
  obtain ⟨fd, hb, hF⟩ := F w mg fa _ KX G.T.g hmg
  exact law_call KX G.T.g G.T.b G.T.builtins G.T.nolimit hg hobj hints (Nat.le_trans hlen hn2) hr hF hb (fun H hO hS => hsp w H a ns hlen hO hS) fun H e s' => hCX w H s₁ e s'
end L2

/- THE LAST THEOREM (shape; LID, My.* are yours):
   My.Adr: a structure of the addresses that your layer names (classes, functions); My.Txt K t: a structure (Prop) of the equations over K;
   My.txt_mk : {K} {implicit addresses ..} (e1 : nsIn K mainGlobals "law" = some (some (.ref f))) (e2 : K.lookup f = some ⟨oc, od, .func (fnOf "law" "law" params body scope dV kV doc pm an cdv ct), sl⟩) (e3 : codeIn K cdv "law" = true) .. : ∃ t, My.Txt K t

set_option maxRecDepth 100000 in
set_option maxHeartbeats 0 in
theorem PySem.Challenge.cw_LID_holds : PySem.Challenge.rw_LID.Holds := by
  w_on; o_law; k_head; (case hw => w_witness2)
  k_fill
  refine L2.walk_of (l := PySem.Challenge.rw_LID) (n := 63) (k := 40) (x := "script") (CX := fun w => ..) (sp := fun _ => My.sp_law) rfl (by decide) rfl ⟨rfl, by decide, by decide⟩ (fun w h Y => PySem.W.kIn_of Y) ?F ?S ?C
  case F =>
    intro w mg fa h KX G hmg
    have T : ∃ t, My.Txt (L2.KOf KX) t := by
      dsimp only [L2.KOf]                          -- K must stand as «<heap const> w.params» for k_is
      refine' My.txt_mk ?e1 ?e2 ?e3 ..
      (case e1 => PySem.W.k_is)                    -- in the order: a name -> its address -> its object -> its parts
      (case e2 => PySem.W.k_is)
      ..
    obtain ⟨t, T⟩ := T
    have e0 := hmg.symm.trans (PySem.W.mg_of KX G T.law)
    cases e0                                       -- fa is the law's own address
    exact ⟨_, fun s u => .of_eq rfl, fun base kb nb => My.law_fn T kb nb⟩     -- if «.of_eq rfl» comes too early: refine' ⟨_, ?b, fun base kb nb => My.law_fn T kb nb⟩; exact fun s u => .of_eq rfl
  case S => exact fun w H a ns hl hO hS => ..
  case C => exact ..
(the tactic k_is has no namespace: write k_is) -/

namespace L2
open PySem PySem.Spec PyProof.Rows

def defArgs (s : Stmt) : Arguments := match s with
  | .FunctionDef _ a _ _ _ _ _ _ _ _ => a
  | _ => { posonlyargs := [], args := [], vararg := none, kwonlyargs := [], kw_defaults := [], kwarg := none, defaults := [] }
def defBody (s : Stmt) : List Stmt := match s with
  | .FunctionDef _ _ b _ _ _ _ _ _ _ => b
  | _ => []
def defScope (s : Stmt) : Scope := match s with
  | .FunctionDef _ _ _ _ _ _ sc _ _ _ => sc
  | _ => { kind := .function, names := [], isGenerator := false, isCoroutine := false }

abbrev CX0 : CXT := fun _ _ _ _ _ _ => False
abbrev E0 : XK := fun _ _ _ => False
theorem pass0 {X : Cx} : Passes CX0 X E0 := fun _ _ _ _ _ _ _ h => h.elim

structure Fun (K : PySem.W.Frag) (x qual : Str) (st : Stmt) (f : Addr) (fd : FuncData) : Prop where
  ex : ∃ (oc : Value) (od : Option Addr) (kV doc pm : Value) (an : Option Addr) (cdv ct : Value) (osl : Array (Option Value)),
    fd = PySem.W.fnOf x qual (defArgs st) (defBody st) (defScope st) .none kV doc pm an cdv ct ∧ K.lookup f = some ⟨oc, od, .func fd, osl⟩ ∧ PySem.W.codeIn K cdv qual = true
  kp : PySem.W.keepIn K (.ref f) = true
section
variable {P : Program} {w : World} {K : PySem.W.Frag} {mg : Str → Option Value} {base : Heap}
/-- THE RULE for a def: its body as a term of rules, and the reading of that term -/
theorem Fun.ok {x qual : Str} {st : Stmt} {f : Addr} {fd : FuncData} {N ps : List Str} {k : Nat} {sp : Sp} (F : Fun K x qual st f fd) (S : FnScope N ps (defScope st)) (len : ∀ vs H Q E, sp vs H Q E → vs.length = ps.length)
    (hbody : ∀ (cdv : Value) (A : Around) (outer : List Env) (s : Shared) (H : Hp) (vs : List V) (Q : VK) (E : XK), Room k (A.deeper (envOfC qual (defScope st) s.heap.objs.size f cdv)) → sp vs H Q E →
      ∃ t, PSs (cxOf CX0 P w K mg base N qual (defScope st) f cdv A outer s H E).nox (defBody st) t ∧ t { nx := fun _ H' => Q .non H', rt := Q } (start N vs) H) : FnOk P w K mg base CX0 (k + 1) f fd ps sp := by
  obtain ⟨oc, od, kV, doc, pm, an, cdv, ct, osl, rfl, lk, hcd⟩ := F.ex
  refine fn_of lk hcd S len fun A outer s H vs Q E hr hsp => ?_
  obtain ⟨t, h, q⟩ := hbody cdv A outer s H vs Q E hr hsp
  exact ⟨t, h.nox, q⟩
/-- how its arguments bind (no defaults): h is «fun _ _ _ _ _ _ us hl => match us, hl with | [_, _], _ => rfl», one _ a parameter -/
theorem Fun.binds {x qual : Str} {st : Stmt} {f : Addr} {fd : FuncData} {ps : List Str} (F : Fun K x qual st f fd)
    (h : ∀ (kV doc pm : Value) (an : Option Addr) (cdv ct : Value) (us : List Value), us.length = ps.length → bindArgs (PySem.W.fnOf x qual (defArgs st) (defBody st) (defScope st) .none kV doc pm an cdv ct) ⟨us, []⟩ = pure (ps.zip us)) : Binds K fd ps [] := by
  obtain ⟨oc, od, kV, doc, pm, an, cdv, ct, osl, rfl, lk, hcd⟩ := F.ex
  exact .all (h kV doc pm an cdv ct)
theorem fun_mk {x qual : Str} {st : Stmt} {f : Addr} {oc : Value} {od an : Option Addr} {osl : Array (Option Value)} {kV doc pm cdv ct : Value} (l : K.lookup f = some ⟨oc, od, .func (PySem.W.fnOf x qual (defArgs st) (defBody st) (defScope st) .none kV doc pm an cdv ct), osl⟩)
    (c : PySem.W.codeIn K cdv qual = true) (k : PySem.W.keepIn K (.ref f) = true) : Fun K x qual st f (PySem.W.fnOf x qual (defArgs st) (defBody st) (defScope st) .none kV doc pm an cdv ct) := ⟨⟨oc, od, kV, doc, pm, an, cdv, ct, osl, rfl, l, c⟩, k⟩
end
theorem small1000 {n : Nat} (h : n ≤ 1000) : n < sizeLine := Nat.lt_of_le_of_lt h (by decide)

section
variable {X : Cx}
theorem pv (i : Nat) {x : Str} {pos : Pos} (hN : X.N[i]? = some x := by rfl) (hv : Vis X.env.scope x := by first | exact Or.inl rfl | exact Or.inr (Or.inl rfl) | exact Or.inr (Or.inr rfl)) (hd : (x == ("__debug__" : Str)) = false := by decide)
    (hcd : (x == ("__classdict__" : Str)) = false := by decide) : PE X (.Name x pos) (tVar i) := pe_var hN hv hd hcd
end

/-- all that was tracked is as it was -/
def Same (H H' : Hp) : Prop := ∀ b o, H b = some o → H' b = some o
theorem Same.refl (H : Hp) : Same H H := fun _ _ h => h
theorem Same.trans {H H1 H2 : Hp} (a : Same H H1) (b : Same H1 H2) : Same H H2 := fun c o h => b c o (a c o h)
theorem Same.free {H H' : Hp} (e : Same H H') {l : Addr} (h : H' l = Option.none) : H l = Option.none := by
  cases q : H l with
  | none => rfl
  | some o =>
    rw [e l o q] at h
    cases h
theorem Same.seq {K : PySem.W.Frag} {H H' : Hp} {a : Addr} {xs : List V} (e : Same H H') (h : SqL K H a xs) : SqL K H' a xs := by
  rcases h with (h | ⟨o, h⟩) | h
  · exact .inl (.inl (e _ _ h))
  · exact .inl (.inr ⟨o, e _ _ h⟩)
  · exact .inr h

end L2

set_option Elab.async false
set_option linter.all false
set_option maxRecDepth 100000
set_option maxHeartbeats 4000000

namespace L2
open PySem PySem.Spec PyProof.Rows

theorem natlt {a b : Addr} (h : a < b) : @LT.lt Nat _ a b := h
theorem ne_lt {a b : Addr} {n : Nat} (h : a < n) (k : n ≤ b) : a ≠ b := Nat.ne_of_lt (Nat.lt_of_lt_of_le h k)
theorem cellsFrom_app : ∀ (names : List (Str × NameKind)) (n : Nat) (acc : List (Str × Addr)), cellsFrom n names acc = cellsFrom n names [] ++ acc
  | [], _, _ => rfl
  | (x, k) :: r, n, acc => by
    unfold cellsFrom
    split
    · rw [cellsFrom_app r (n + 1) ((x, n) :: acc), cellsFrom_app r (n + 1) [(x, n)], List.append_assoc]; rfl
    · exact cellsFrom_app r n acc
theorem cellsFrom_mem : ∀ (names : List (Str × NameKind)) (n : Nat) (acc : List (Str × Addr)) (y : Str) (c : Addr), (y, c) ∈ cellsFrom n names acc → (y, c) ∈ acc ∨ ((y, NameKind.cell) ∈ names ∧ n ≤ c)
  | [], _, _, _, _, h => .inl h
  | (x, k) :: r, n, acc, y, c, h => by
    unfold cellsFrom at h
    split at h
    · rename_i hk
      have hk' : k = .cell := by simpa using hk
      rcases cellsFrom_mem r (n + 1) _ y c h with h | ⟨h, l⟩
      · rcases List.mem_cons.mp h with e | h
        · cases e; subst hk'; exact .inr ⟨List.mem_cons_self, Nat.le_refl _⟩
        · exact .inl h
      · exact .inr ⟨List.mem_cons_of_mem _ h, Nat.le_of_succ_le l⟩
    · rcases cellsFrom_mem r n _ y c h with h | ⟨h, l⟩
      · exact .inl h
      · exact .inr ⟨List.mem_cons_of_mem _ h, l⟩
def closFrom (cells : List (Str × Addr)) : List (Str × NameKind) → List (Str × Addr) → List (Str × Addr)
  | [], acc => acc
  | (x, k) :: r, acc => if k == .free then closFrom cells r ((x, (cells.lookup x).getD 0) :: acc) else closFrom cells r acc
theorem closFrom_mem {cells : List (Str × Addr)} : ∀ (names : List (Str × NameKind)) (acc : List (Str × Addr)) (y : Str) (c : Addr), (y, c) ∈ closFrom cells names acc → (y, c) ∈ acc ∨ ((y, NameKind.free) ∈ names ∧ c = (cells.lookup y).getD 0)
  | [], _, _, _, h => .inl h
  | (x, k) :: r, acc, y, c, h => by
    unfold closFrom at h
    split at h
    · rename_i hk
      have hk' : k = .free := by simpa using hk
      rcases closFrom_mem r _ y c h with h | ⟨h, l⟩
      · rcases List.mem_cons.mp h with e | h
        · cases e; subst hk'; exact .inr ⟨List.mem_cons_self, rfl⟩
        · exact .inl h
      · exact .inr ⟨List.mem_cons_of_mem _ h, l⟩
    · rcases closFrom_mem r _ y c h with h | ⟨h, l⟩
      · exact .inl h
      · exact .inr ⟨List.mem_cons_of_mem _ h, l⟩
theorem closFrom_acc {cells : List (Str × Addr)} : ∀ (names : List (Str × NameKind)) (acc : List (Str × Addr)) (p : Str × Addr), p ∈ acc → p ∈ closFrom cells names acc
  | [], _, _, h => h
  | (x, k) :: r, acc, p, h => by
    unfold closFrom
    split
    · exact closFrom_acc r _ p (List.mem_cons_of_mem _ h)
    · exact closFrom_acc r _ p h
theorem closFrom_has {cells : List (Str × Addr)} : ∀ (names : List (Str × NameKind)) (acc : List (Str × Addr)) (y : Str), (y, NameKind.free) ∈ names → (y, (cells.lookup y).getD 0) ∈ closFrom cells names acc
  | [], _, _, h => nomatch h
  | (x, k) :: r, acc, y, h => by
    unfold closFrom
    rcases List.mem_cons.mp h with e | h
    · cases e
      rw [if_pos (by rfl)]
      exact closFrom_acc r _ _ List.mem_cons_self
    · split
      · exact closFrom_has r _ y h
      · exact closFrom_has r _ y h
theorem lookup_of_mem {α : Type} : ∀ {l : List (Str × α)} {y : Str} {c : α}, (y, c) ∈ l → ∃ c', l.lookup y = some c'
  | (k, v) :: r, y, c, h => by
    rw [List.lookup_cons]
    cases hb : y == k with
    | true => exact ⟨v, rfl⟩
    | false =>
      rcases List.mem_cons.mp h with e | h
      · cases e; rw [beq_self_eq_true] at hb; cases hb
      · exact lookup_of_mem h
theorem closureFor_go {env : Env} (f : Str × NameKind → List (Str × Addr) → Sem (ForInStep (List (Str × Addr))))
    (hf : ∀ name kind cs, f (name, kind) cs = if kind == .free then (do let a ← cellOf env name; pure (.yield ((name, a) :: cs))) else pure (.yield cs)) :
    ∀ (names : List (Str × NameKind)) (acc : List (Str × Addr)), (∀ x, (x, NameKind.free) ∈ names → ∃ c, env.cells.lookup x = some c) → forIn names acc f = (pure (closFrom env.cells names acc) : Sem (List (Str × Addr)))
  | [], acc, _ => by rw [List.forIn_nil]; rfl
  | (x, k) :: r, acc, h => by
    have hr : ∀ x, (x, NameKind.free) ∈ r → ∃ c, env.cells.lookup x = some c := fun y hy => h y (List.mem_cons_of_mem _ hy)
    rw [List.forIn_cons, hf]
    unfold closFrom
    split
    · rename_i hk
      have hk' : k = .free := by simpa using hk
      subst hk'
      obtain ⟨c, hc⟩ := h x List.mem_cons_self
      have e : cellOf env x = (pure c : Sem Addr) := by unfold cellOf; rw [hc]
      rw [e, hc]
      exact closureFor_go f hf r ((x, c) :: acc) hr
    · exact closureFor_go f hf r acc hr
theorem closureFor_eq {scope : Scope} {env : Env} (h : ∀ x, (x, NameKind.free) ∈ scope.names → ∃ c, env.cells.lookup x = some c) : closureFor scope env = pure (closFrom env.cells scope.names []) := by
  simp only [closureFor]
  rw [closureFor_go _ (fun name kind cs => by cases hk : kind == NameKind.free <;> simp [hk]) scope.names [] h]
  rfl
section
variable {M : Model} {A : Around} {E : Value → Shared → Prop} {s : Shared}
/-- the block's own frame and cells, over a closure -/
theorem newEnv_comp {scope : Scope} {globals : Addr} {cl : List (Str × Addr)} {qual : Str} {env : Env} {Q : Env → Shared → Prop}
    (hQ : Q { scope := scope, locals := s.heap.objs.size, globals := globals, cells := cellsFrom (s.heap.objs.size + 1) scope.names cl, qual := qual, func := none, code := env.code, frame := env.frame, builtins := env.builtins }
      { s with heap := pushCells (s.heap.push { cls := .type "dict", data := .dict #[] }) scope.names }) :
    wpAny M A (newFunctionEnv scope globals cl [] qual none .none (some env)) Q E s := by
  simp only [newFunctionEnv, Option.isSome_some, if_true]
  refine wpAny_bind (wpAny_alloc ?_)
  refine wpAny_bind (wpAny_layCells _ (fun name kind cells => by cases hkc : kind == NameKind.cell <;> simp [hkc]) _ _ _ _ ?_)
  rw [show ({ s with heap := s.heap.push { cls := .type "dict", data := .dict #[] } } : Shared).heap.objs.size = s.heap.objs.size + 1 from Heap.size_push ..]
  rw [List.forIn_nil]
  exact wpAny_bind (wpAny_pure (wpAny_pure hQ))
end
theorem relabel_lookup {scope : Scope} {env : Env} (x : Str) : (relabel scope env).names.lookup x = (scope.names.lookup x).map fun k => if (k == .free && env.scope.kind == .function && env.kindOf x == some .cell) = true then NameKind.cell else k := by
  unfold relabel
  dsimp only
  generalize scope.names = names
  induction names with
  | nil => rfl
  | cons p r ih =>
    obtain ⟨n, k⟩ := p
    rw [List.map_cons, List.lookup_cons (as := r)]
    cases hx : x == n with
    | true =>
      have e : x = n := beq_iff_eq.mp hx
      subst e
      by_cases hc : (k == NameKind.free && env.scope.kind == .function && env.kindOf x == some .cell) = true
      · simp only [hc, if_true, List.lookup_cons, hx, Option.map_some]
      · simp only [hc, Bool.false_eq_true, if_false, List.lookup_cons, hx, Option.map_some]
    | false =>
      by_cases hc : (k == NameKind.free && env.scope.kind == .function && env.kindOf n == some .cell) = true
      · simp only [hc, if_true, List.lookup_cons, hx]; exact ih
      · simp only [hc, Bool.false_eq_true, if_false, List.lookup_cons, hx]; exact ih

/-- the block's names: its own k first, then those that it takes from the outer slots js -/
def cmpCheck (N : List Str) (osc : Scope) (k : Nat) (js : List Nat) (N' : List Str) (sc : Scope) : Bool :=
  decide (sc.kind = .function) && decide (N'.length = k + js.length) && decide N'.Nodup &&
  sc.names.all (fun p => decide (sc.names.lookup p.1 = some p.2) && (decide (p.2 ≠ .free) || decide (osc.names.lookup p.1 = some .cell) || decide (osc.names.lookup p.1 = some .free))) &&
  (List.range js.length).all (fun i => decide (js[i]?.bind (fun j => N[j]?) = N'[k + i]?) && decide ((N'[k + i]?).bind (fun y => sc.names.lookup y) = some .free))
structure CmpOk (N : List Str) (osc : Scope) (k : Nat) (js : List Nat) (N' : List Str) (sc : Scope) : Prop where
  kind : sc.kind = .function
  len : N'.length = k + js.length
  nd : N'.Nodup
  look : ∀ p ∈ sc.names, sc.names.lookup p.1 = some p.2
  fr : ∀ y, (y, NameKind.free) ∈ sc.names → osc.names.lookup y = some .cell ∨ osc.names.lookup y = some .free
  js : ∀ i j, js[i]? = some j → ∃ y, N'[k + i]? = some y ∧ N[j]? = some y ∧ sc.names.lookup y = some .free
theorem cmpOk {N : List Str} {osc : Scope} {k : Nat} {js : List Nat} {N' : List Str} {sc : Scope} (h : cmpCheck N osc k js N' sc = true) : CmpOk N osc k js N' sc := by
  unfold cmpCheck at h
  simp only [Bool.and_eq_true, decide_eq_true_eq, List.all_eq_true, Bool.or_eq_true, List.mem_range] at h
  obtain ⟨⟨⟨⟨h1, h2⟩, h3⟩, h4⟩, h5⟩ := h
  refine ⟨h1, h2, h3, fun p hp => (h4 p hp).1, fun y hy => ?_, fun i j hj => ?_⟩
  · rcases (h4 _ hy).2 with (z | z) | z
    · exact absurd rfl z
    · exact .inl z
    · exact .inr z
  · have hi : i < js.length := (List.getElem?_eq_some_iff.mp hj).1
    obtain ⟨a, b⟩ := h5 i hi
    rw [hj] at a
    cases e : N'[k + i]? with
    | none => rw [e] at b; cases b
    | some y =>
      rw [e] at a b
      exact ⟨y, rfl, a, b⟩

def compEnv (scope : Scope) (cl : List (Str × Addr)) (C : Addr) (env : Env) : Env :=
  { scope := relabel scope env, locals := C, globals := env.globals, cells := cellsFrom (C + 1) scope.names cl, qual := env.qual, func := none, code := env.code, frame := env.frame, builtins := env.builtins }
/-- the block's context -/
def cxComp (X : Cx) (N' : List Str) (scope : Scope) (C : Addr) (fp : List Addr) (s2 : Shared) (H2 : Hp) : Cx where
  prog := X.prog
  w := X.w
  K := X.K
  mg := X.mg
  base := X.base
  A := X.A
  N := N'
  s₀ := s2
  H₀ := H2
  env := compEnv scope (closFrom X.env.cells scope.names []) C X.env
  outer := X.stack
  stack := X.stack
  ex := fp
  fn := fun x => decide (scope.names.lookup x = some .cell)
  calm := X.calm
  pn := []
  xe := fun _ _ => False
/-- the block's slots at its start -/
def up (k : Nat) (js : List Nat) (σ : St) : St := List.replicate k none ++ js.map fun j => (σ[j]?).getD none

section
variable {X : Cx} {pins : List (Addr × Obj)} {σ : St} {H : Hp} {s2 : Shared} {k : Nat} {js : List Nat} {N' : List Str} {scope : Scope} {fp : List Addr}
theorem comp_inv (hc : CmpOk X.N X.env.scope k js N' scope) (I : Inv X pins σ H s2) (hfp : ∀ b ∈ fp, FpOk X pins H b) (hlt : ∀ b ∈ fp, b < s2.heap.objs.size) {h3 : Heap} (hz : h3.objs.size = s2.heap.objs.size + 1) (hk3 : ∀ b o, s2.heap.get? b = some o → h3.get? b = some o) :
    Inv (cxComp X N' scope (s2.heap.objs.size + 1) fp s2 H) [] (up k js σ) H { s2 with heap := pushCells (h3.push { cls := .type "dict", data := .dict #[] }) scope.names } := by
  have frLook : ∀ y, (y, NameKind.free) ∈ scope.names → ∃ c, X.env.cells.lookup y = some c := fun y hy => I.ok.has y (hc.fr y hy)
  have ok0 := cellsFrom_ok scope.names (h3.push { cls := .type "dict", data := .dict #[] }) (s2.heap.objs.size + 2) [] ⟨fun _ _ hm => (nomatch hm), List.Pairwise.nil⟩ (by rw [Heap.size_push, hz]; exact Nat.le_refl _)
  rw [Heap.size_push, hz] at ok0
  -- the cells of the block
  have parts : ∀ y c, (compEnv scope (closFrom X.env.cells scope.names []) (s2.heap.objs.size + 1) X.env).cells.lookup y = some c →
      ((y, c) ∈ cellsFrom (s2.heap.objs.size + 2) scope.names [] ∧ (y, NameKind.cell) ∈ scope.names ∧ s2.heap.objs.size + 2 ≤ c) ∨ ((y, NameKind.free) ∈ scope.names ∧ X.env.cells.lookup y = some c) := fun y c e => by
    have m := PySem.mem_of_lookup e
    change (y, c) ∈ cellsFrom (s2.heap.objs.size + 1 + 1) scope.names _ at m
    rw [cellsFrom_app] at m
    rcases List.mem_append.mp m with m | m
    · rcases cellsFrom_mem _ _ _ _ _ m with z | ⟨z, l⟩
      · cases z
      · exact .inl ⟨m, z, l⟩
    · rcases closFrom_mem _ _ _ _ m with z | ⟨z, l⟩
      · cases z
      · obtain ⟨c', e'⟩ := frLook y z
        rw [e'] at l
        exact .inr ⟨z, by rw [e']; exact congrArg some l.symm⟩
  have old : ∀ y c, X.env.cells.lookup y = some c → c < s2.heap.objs.size := fun y c e => by
    obtain ⟨v, q⟩ := I.cell y c e
    exact q.lt
  have freeAt : ∀ y, (y, NameKind.free) ∈ scope.names → ∀ c, X.env.cells.lookup y = some c → (compEnv scope (closFrom X.env.cells scope.names []) (s2.heap.objs.size + 1) X.env).cells.lookup y = some c := fun y hy c e => by
    have m : (y, c) ∈ cellsFrom (s2.heap.objs.size + 1 + 1) scope.names (closFrom X.env.cells scope.names []) := by
      rw [cellsFrom_app]
      have q := closFrom_has (cells := X.env.cells) scope.names [] y hy
      rw [e] at q
      exact List.mem_append_right _ q
    obtain ⟨c', q⟩ := lookup_of_mem m
    rcases parts y c' q with ⟨_, z, _⟩ | ⟨_, z⟩
    · have z1 := hc.look _ z
      have z2 := hc.look _ hy
      rw [z1] at z2
      cases z2
    · rw [e] at z
      cases z
      exact q
  have keepAll : ∀ b o, s2.heap.get? b = some o → (pushCells (h3.push { cls := .type "dict", data := .dict #[] }) scope.names).get? b = some o := fun b o e => pushCells_keeps _ _ b o (Heap.get?_push_of_some _ (hk3 b o e))
  refine ⟨⟨I.ok.mod, hc.kind, I.ok.glob, I.ok.blt, Nat.le_succ _, fun y z c h1 h2 => ?_, fun y hy => ?_, fun y c h1 h2 => ?_, I.ok.hd, I.ok.frames, .inl rfl, fun b hb => ⟨?_, fun y c e => ?_⟩, I.bs, Nat.le_trans I.ok.bsz I.sz, fun b o e hb => ?_, fun b hb hs => ?_, I.stack, I.stkFree⟩,
    rfl, I.bare, Un.kept keepAll, ⟨fun _ => none, ?_, fun i y v e1 e2 e3 => ?_⟩, fun y c e => ?_, I.hok.fresh (Nat.le_succ _), fun y c e => ?_, fun p hp => absurd (show p ∈ ([] : List (Addr × Obj)) from hp) (by simp), I.hok.kept keepAll, ?_⟩
  · -- inj
    rcases parts y c h1 with ⟨a, _, l⟩ | ⟨_, a⟩ <;> rcases parts z c h2 with ⟨b, _, l'⟩ | ⟨_, b⟩
    · exact name_of_addr ok0.apart a b
    · have := natlt (old z c b); omega
    · have := natlt (old y c a); omega
    · exact I.ok.inj y z c a b
  · -- has
    have hy' : (relabel scope X.env).names.lookup y = some .cell ∨ (relabel scope X.env).names.lookup y = some .free := hy
    rw [relabel_lookup] at hy'
    have q : scope.names.lookup y = some .cell ∨ scope.names.lookup y = some .free := by
      cases e : scope.names.lookup y with
      | none => rw [e] at hy'; rcases hy' with z | z <;> cases z
      | some kk =>
        rw [e] at hy'
        cases kk <;> first | exact .inl rfl | exact .inr rfl | (rcases hy' with z | z <;> simp at z)
    rcases q with q | q
    · obtain ⟨c, e⟩ := cell_has (n := s2.heap.objs.size + 1 + 1) q
      have m : (y, c) ∈ cellsFrom (s2.heap.objs.size + 1 + 1) scope.names (closFrom X.env.cells scope.names []) := by
        rw [cellsFrom_app]
        exact List.mem_append_left _ (PySem.mem_of_lookup e)
      exact lookup_of_mem m
    · have m := PySem.mem_of_lookup q
      obtain ⟨c, e⟩ := frLook y m
      exact ⟨c, freeAt y m c e⟩
  · -- cab
    have h1' : scope.names.lookup y = some .cell := of_decide_eq_true h1
    rcases parts y c h2 with ⟨_, _, l⟩ | ⟨z, _⟩
    · show s2.heap.objs.size ≤ c
      omega
    · have := hc.look _ z
      rw [h1'] at this
      cases this
  · -- an iterator is not the frame
    exact ne_lt (hlt b hb) (Nat.le_succ _)
  · rcases parts y c e with ⟨_, _, l⟩ | ⟨_, z⟩
    · exact (ne_lt (hlt b hb) (Nat.le_trans (Nat.le_add_right _ 2) l)).symm
    · exact (hfp b hb).2.2.2.2.1 y c z
  · -- noex
    rcases (hfp b hb).2.2.2.1 with z | z
    · exact I.ok.noex b o e z
    · exact absurd (Nat.lt_of_lt_of_le (Heap.lt_size e) (Nat.le_trans I.ok.bsz z)) (Nat.lt_irrefl _)
  · -- exfs
    rcases List.mem_cons.mp (I.stkSub b hs) with z | z
    · exact (hfp b hb).2.1 z
    · exact (hfp b hb).2.2.1 z
  · -- the frame's map
    have q := (Heap.Ns.new h3 (.type "dict")).keeps (pushCells_keeps scope.names _)
    rw [hz] at q
    exact q
  · -- what is captured
    unfold up at e2
    have hik : k ≤ i := by
      by_cases hi : i < k
      · rw [List.getElem?_append_left (by simpa using hi), List.getElem?_replicate] at e2
        rw [if_pos hi] at e2
        cases e2
      · omega
    rw [List.getElem?_append_right (by simpa using hik), List.length_replicate, List.getElem?_map] at e2
    cases ej : js[i - k]? with
    | none => rw [ej] at e2; cases e2
    | some j =>
      rw [ej] at e2
      have e2' : (σ[j]?).getD none = some v := Option.some.inj e2
      have e4 : σ[j]? = some (some v) := by
        cases q : σ[j]? with
        | none => rw [q] at e2'; cases e2'
        | some z => rw [q] at e2'; exact congrArg some e2'
      obtain ⟨y', n1, n2, n3⟩ := hc.js _ _ ej
      rw [Nat.add_sub_cancel' hik] at n1
      have n0 : N'[i]? = some y := e1
      rw [n1] at n0
      cases n0
      have hm := PySem.mem_of_lookup n3
      have hvis : Vis X.env.scope y := .inr (hc.fr y hm)
      obtain ⟨m, hn, hl⟩ := I.loc
      obtain ⟨u, r, l⟩ := hl j y v n2 e4 hvis
      refine ⟨u, r, ?_⟩
      rcases l with ⟨kk, _⟩ | ⟨kk, c, ec, ic⟩
      · have kk' : X.env.scope.names.lookup y = some .local := kk
        rcases hc.fr y hm with z | z <;> (rw [kk'] at z; cases z)
      · refine .inr ⟨?_, c, freeAt y hm c ec, ic.keeps keepAll⟩
        show (relabel scope X.env).names.lookup y = some .cell ∨ (relabel scope X.env).names.lookup y = some .free
        rw [relabel_lookup, n3]
        simp only [Option.map_some]
        split
        · exact .inl rfl
        · exact .inr rfl
  · -- cells are there
    rcases parts y c e with ⟨a, _, _⟩ | ⟨_, a⟩
    · exact ⟨none, (ok0.empty y c a).1⟩
    · obtain ⟨v, q⟩ := I.cell y c a
      exact ⟨v, q.keeps keepAll⟩
  · rcases parts y c e with ⟨_, _, l⟩ | ⟨_, a⟩
    · exact I.hok.fresh (by omega)
    · exact I.freeC y c a
  · unfold up
    show _ = N'.length
    rw [List.length_append, List.length_replicate, List.length_map, hc.len]

/-- the block is left: the list D stands in the outer heap -/
theorem comp_end {σ' : St} {H' : Hp} {s' : Shared} {C D : Addr} {its : List Value} {n : Nat} {ys : List V} (I : Inv X pins σ H s2) (hfp : ∀ b ∈ fp, FpOk X pins H b) (hC : s2.heap.objs.size ≤ C) (hD : s2.heap.objs.size ≤ D) (hDC : D ≠ C)
    (I' : Inv (cxComp X N' scope C fp s2 H) [(D, { cls := .type "list", data := .seq its.toArray n })] σ' H' s') (hv : Vals ys its) (hz : ys.length ≤ sizeLine) :
    H' D = none ∧ ∀ h', Heap.SameBut C s'.heap h' → Inv X pins σ (upd H' D (.lst ys)) { s' with heap := h' } := by
  obtain ⟨eD, nD, _, _, _⟩ := I'.pin (D, { cls := .type "list", data := .seq its.toArray n }) (List.mem_append_right _ List.mem_cons_self)
  dsimp only at eD nD
  have nC : H' C = none := I'.free
  refine ⟨nD, fun h' hs => ?_⟩
  have neC : ∀ b o, s2.heap.get? b = some o → b ≠ C := fun b o e => ne_lt (Heap.lt_size e) hC
  have neD : ∀ b o, s2.heap.get? b = some o → b ≠ D := fun b o e => ne_lt (Heap.lt_size e) hD
  have tr : ∀ b u, H' b = some u → b ≠ D := fun b u e z => by rw [z, nD] at e; cases e
  have trC : ∀ b u, H' b = some u → b ≠ C := fun b u e z => by rw [z, nC] at e; cases e
  have B := I'.base
  refine I.call' (s' := { s' with heap := h' }) (ch := fp) I'.os ⟨fun b o e nn hb hx => ?_, fun b o e nn hb hx => ?_, fun b o e nn hx => ?_, fun b o e hx => ?_, fun b xs e => ?_, fun b o u e => ?_, fun b ps e => ?_⟩ (fun b u e => ?_) I'.bare fun b hb => ?_
  · exact (hs.2 b (neC b o e)).trans (B.keep b o e nn hb hx)
  · obtain ⟨sl, q⟩ := B.slot b o e nn hb hx
    exact ⟨sl, (hs.2 b (neC b o e)).trans q⟩
  · rw [upd_ne (neD b o e)]
    exact B.free b o e nn hx
  · obtain ⟨o', q⟩ := B.there b o e hx
    exact ⟨o', (hs.2 b (neC b o e)).trans q⟩
  · have q := B.tups b xs e
    rw [upd_ne (tr b _ q)]
    exact q
  · have q := B.frzs b o u e
    rw [upd_ne (tr b _ q)]
    exact q
  · obtain ⟨more, q⟩ := B.tbls b ps e
    exact ⟨more, by rw [upd_ne (tr b _ q)]; exact q⟩
  · by_cases hb : b = D
    · subst hb
      rw [upd_same] at e
      cases e
      exact ⟨hz, its, n, hv, (hs.2 b hDC).trans eD⟩
    · rw [upd_ne hb] at e
      refine (I'.hok b u e).stay (fun c v hcc q => (hs.2 c ?_).trans q) (fun c q => by rw [upd_ne (tr c _ q)]; exact q) fun c xs q => by rw [upd_ne (tr c _ q)]; exact q
      rcases hcc with rfl | hcc
      · exact trC c _ e
      · exact trC c _ hcc
  · obtain ⟨_, f1, _, f3, f4, f5⟩ := hfp b hb
    exact ⟨f3, f1, f4, f5⟩
end

section
variable {prog : Program} {w : World} {A : Around} {R : Result → Shared → Prop} {s : Shared}
theorem codeAny_compLoop_any {elt target iter : Expr} {ifs : List Expr} {scope : Scope} {pos : Pos} {it acc : Value} {env : Env} (I : Nat → Shared → Prop)
    (turn : ∀ n s, I n s → wpAny (model prog w) A (pyNext it) (fun r s₁ => match r with
      | none => R (.ok .next) s₁
      | some v => wpAny (model prog w) A (letOwnedTupleGo target it v) (fun _ s₁' => wpAny (model prog w) A (assign target env v) (fun _ s₂ =>
          wpAny (model prog w) A (forIn ifs true fun c r => if r = true then do let ok ← isTrue c env (eval c env); pure (ForInStep.yield ok) else pure (ForInStep.yield r)) (fun ok s₃ =>
            if ok = true then wpAny (model prog w) A (eval elt env) (fun x s₄ =>
              wpAny (model prog w) A (call (.builtin "list.append") [acc, x]) (fun _ s₅ => ∃ m, m < n ∧ I m s₅) (notedBy (model prog w) A env fun e s' => R (.error e) s') s₄) (notedBy (model prog w) A env fun e s' => R (.error e) s') s₃
            else ∃ m, m < n ∧ I m s₃) (notedBy (model prog w) A env fun e s' => R (.error e) s') s₂) (notedBy (model prog w) A env fun e s' => R (.error e) s') s₁') (notedBy (model prog w) A env fun e s' => R (.error e) s') s₁) (notedBy (model prog w) A env fun e s' => R (.error e) s') s)
    (n : Nat) (h : I n s) :
    codeAny (model prog w) A (.compLoop (.ListComp elt [⟨target, iter, ifs, 0⟩] scope pos) 0 it acc env) R s := by
  refine codeAny_loop rfl I (fun n s hI => ?_) n h
  show wpAny _ A ((compTurn (.ListComp elt [⟨target, iter, ifs, 0⟩] scope pos) 0 it acc env).onRaise (fun x => do noteFrame x env; theTreesLotGoes x)) _ _ s
  refine wpAny_noted ?_
  rw [compTurn_list]
  refine wpAny_bind (wpAny_standAt (wpAny_bind (wpAny_mono (turn n s hI) (fun r s₁ h₁ => ?_) fun _ _ h' => h')))
  cases r with
  | none => exact wpAny_pure h₁
  | some v =>
    refine wpAny_bind (wpAny_mono h₁ (fun _ s₁' h₁' => ?_) fun _ _ h' => h')
    refine wpAny_bind (wpAny_mono h₁' (fun _ s₂ h₂ => wpAny_bind (wpAny_mono h₂ (fun ok s₃ h₃ => ?_) fun _ _ h' => h')) fun _ _ h' => h')
    cases ok with
    | false => exact wpAny_pure ⟨rfl, h₃⟩
    | true => exact wpAny_bind (wpAny_bind (wpAny_mono h₃ (fun x s₄ h₄ => wpAny_bind (wpAny_mono h₄ (fun _ s₅ h₅ => wpAny_pure (wpAny_pure ⟨rfl, h₅⟩)) fun _ _ h' => h')) fun _ _ h' => h'))
end

/-- a test that a comprehension makes (ifs) -/
def PIfs (X : Cx) (ifs : List Expr) (t : TT) : Prop :=
  ∀ (pins : List (Addr × Obj)) (s : Shared) (σ : St) (H : Hp) (Q : Bool → Hp → Prop), Inv X pins σ H s → t σ H Q →
    wpAny (model X.prog X.w) X.A (forIn ifs true fun c r => if r = true then do let ok ← isTrue c X.env (eval c X.env); pure (ForInStep.yield ok) else pure (ForInStep.yield r)) (TP X pins σ Q) X.xe s
def tYes : TT := fun _ H Q => Q true H
theorem pifs_nil {X : Cx} : PIfs X [] tYes := fun _ _ _ H _ I h => wpAny_tests_nil ⟨H, I, h⟩
/-- [e for .. in ..]: W says what holds between two turns: the turn, a measure, the items so far, the block's slots, the heap -/
def tComp (k : Nat) (js : List Nat) (wi : TI) (g : TG) (tt : TT) (te : TE) : TE := fun σ H Q => wi σ H fun J H1 => ∃ W : Nat → Nat → List V → St → Hp → Prop, (∃ m, W 0 m [] (up k js σ) H1) ∧ ∀ i m ys σ H, W i m ys σ H →
  (J.stop i H ∧ ys.length ≤ sizeLine ∧ ∀ p, H p = none → Q (.ref p) (upd H p (.lst ys))) ∨
  (J.go i H ∧ ys.length < sizeLine ∧ ∀ x H', J.yld i H x H' → g x σ H' fun σ2 H2 => tt σ2 H2 fun b H3 => if b = true then te σ2 H3 fun y H4 => ∃ m', m' < m ∧ W (i + 1) m' (ys ++ [y]) σ2 H4 else ∃ m', m' < m ∧ W (i + 1) m' ys σ2 H3)

section
variable {X : Cx} {k : Nat} {js : List Nat} {N' : List Str} {scope : Scope} {tg iter elt : Expr} {ifs : List Expr} {wi : TI} {g : TG} {tt : TT} {te : TE} {pos : Pos}
theorem comp_core {use : Option (Value → Sem Unit)} {Q' : Value → Shared → Prop} (hcalm : X.calm = true) (hc : CmpOk X.N X.env.scope k js N' scope) (hi : PI X tg iter wi)
    (hg : ∀ C fp s2 H2, PG (cxComp X N' scope C fp s2 H2) tg g) (ht : ∀ C fp s2 H2, PIfs (cxComp X N' scope C fp s2 H2) ifs tt) (he : ∀ C fp s2 H2, PE (cxComp X N' scope C fp s2 H2) elt te)
    {pins : List (Addr × Obj)} {s : Shared} {σ : St} {H : Hp} {Q : VK} (I : Inv X pins σ H s) (h : tComp k js wi g tt te σ H Q)
    (fin : ∀ (C D : Addr) (s' : Shared) (m : Str → Option Value) (H' : Hp) (ys : List V), s'.heap.Ns C m → C ≠ X.env.locals → C ∉ X.fs → D ≠ C → H' C = none → X.s₀.heap.objs.size ≤ C → (∀ x c, X.env.cells.lookup x = some c → c ≠ C) → (∀ p ∈ X.pn ++ pins, p.1 ≠ C) → (∀ h', Heap.SameBut C s'.heap h' → Inv X pins σ (upd H' D (.lst ys)) { s' with heap := h' }) → Q (.ref D) (upd H' D (.lst ys)) →
      compPost (model X.prog X.w) X.A X.xe use Q' (.ref D) C (.ok .next) s')
    (hs : ∀ x, foldedSetIterable iter X.env x = pure x) (p' : Pos) :
    wpAny (model X.prog X.w) X.A (comprehension (.ListComp elt [⟨tg, iter, ifs, 0⟩] scope pos) scope X.env p' (newList []) false (eval iter X.env) use) Q' X.xe s := by
  have hclos : closureFor scope X.env = pure (closFrom X.env.cells scope.names []) := closureFor_eq fun y hy => I.ok.has y (hc.fr y hy)
  refine wpAny_comprehension_free (g := ⟨tg, iter, ifs, 0⟩) (gs := []) rfl hs hclos hc.kind (fun x hx hl => by rw [hc.look x hx, hl]) ?_
  refine thn (hi pins s σ H _ I h) fun v s1 h1 => thn h1 fun itv s2 h2 => ?_
  obtain ⟨it, fp, tn, J, H2, e, I2, T, st2, f2, W, ⟨m0, w0⟩, turn⟩ := h2
  subst e
  have hlt : ∀ b ∈ fp, b < s2.heap.objs.size := fun b hb => by
    obtain ⟨o, e, _⟩ := T.obj _ _ st2 b hb
    exact Heap.lt_size e
  refine wpAny_newObj_type (newEnv_comp ?_)
  have hz3 : (s2.heap.push { cls := .type "list", dict := none, data := .seq ([] : List Value).toArray }).objs.size = s2.heap.objs.size + 1 := Heap.size_push ..
  have I3 := comp_inv (h3 := s2.heap.push { cls := .type "list", dict := none, data := .seq ([] : List Value).toArray }) hc I2 f2 hlt hz3 (fun b o e => Heap.get?_push_of_some _ e)
  dsimp only
  rw [hz3]
  generalize hS4 : ({ s2 with heap := pushCells ((s2.heap.push { cls := .type "list", dict := none, data := .seq ([] : List Value).toArray }).push { cls := .type "dict", data := .dict #[] }) scope.names } : Shared) = s4 at I3 ⊢
  have keep4 : ∀ b o, s2.heap.get? b = some o → s4.heap.get? b = some o := fun b o e => by
    rw [← hS4]
    exact pushCells_keeps _ _ b o (Heap.get?_push_of_some _ (Heap.get?_push_of_some _ e))
  have eD4 : s4.heap.get? s2.heap.objs.size = some { cls := .type "list", data := .seq ([] : List Value).toArray 0 } := by
    rw [← hS4]
    exact pushCells_keeps _ _ _ _ (Heap.get?_push_of_some _ (Heap.get?_push_size _ rfl))
  generalize hX' : cxComp X N' scope (s2.heap.objs.size + 1) fp s2 H2 = X' at I3
  have hC' : X'.env.locals = s2.heap.objs.size + 1 := by rw [← hX']; rfl
  have hfs' : X'.fs = frs X.stack := by rw [← hX']; rfl
  -- D is nobody's
  have nofsD : ∀ a, s2.heap.objs.size ≤ a → a ∉ frs X.stack := fun a ha hb => by
    rcases List.mem_cons.mp (I2.stkSub a hb) with z | z
    · exact absurd z.symm (ne_lt I2.lt ha)
    · exact I2.nofs ha z
  have cellD : ∀ x c, X'.env.cells.lookup x = some c → c ≠ s2.heap.objs.size := fun x c e z => by
    obtain ⟨v, o, ho, hd⟩ := I3.cell x c e
    rw [z, eD4] at ho
    cases ho
    cases hd
  have pinD : ∀ {σ' : St} {H' : Hp} {s' : Shared} {its : List Value} {n : Nat}, Inv X' [] σ' H' s' → s'.heap.get? s2.heap.objs.size = some { cls := .type "list", data := .seq its.toArray n } → H' s2.heap.objs.size = none →
      Inv X' [(s2.heap.objs.size, { cls := .type "list", data := .seq its.toArray n })] σ' H' s' := fun {σ' H' s' its n} J e nn => J.pins_of fun p hp => by
    have e' : p = (s2.heap.objs.size, { cls := .type "list", data := .seq its.toArray n }) := by simpa using hp
    subst e'
    refine ⟨e, nn, ?_, ?_, fun v z => nomatch z⟩
    · rw [hC']; exact Nat.ne_of_lt (Nat.lt_succ_self _)
    · rw [hfs']; exact nofsD _ (Nat.le_refl _)
  have I4 := pinD I3 eD4 (I2.hok.fresh (Nat.le_refl _))
  -- what stays true of the iterator's objects
  have stat : ∀ {H' : Hp} {o : Obj}, (∀ b ∈ fp, H' b = none) → ∀ b ∈ fp, FpOk X' [(s2.heap.objs.size, o)] H' b := fun {H' o} hn b hb => by
    have hb' := hlt b hb
    refine ⟨hn b hb, ?_, ?_, .inl (by rw [← hX']; exact hb), fun x c e z => ?_, fun p hp z => ?_⟩
    · rw [hC']; exact ne_lt hb' (Nat.le_succ _)
    · rw [hfs']
      intro z
      rcases List.mem_cons.mp (I2.stkSub b z) with q | q
      · exact (f2 b hb).2.1 q
      · exact (f2 b hb).2.2.1 q
    · have q := I3.ok.exf b (by rw [← hX']; exact hb)
      exact q.2 x c e z
    · rw [show X'.pn = [] by rw [← hX']; rfl] at hp
      have e' : p = (s2.heap.objs.size, o) := by simpa using hp
      subst e'
      exact absurd hb' (by rw [← z]; exact Nat.lt_irrefl _)
  have hfin : ∀ {σ' : St} {H' : Hp} {s' : Shared} {its : List Value} {n : Nat} {ys : List V}, Inv X' [(s2.heap.objs.size, { cls := .type "list", data := .seq its.toArray n })] σ' H' s' → Vals ys its → ys.length ≤ sizeLine → (∀ p, H' p = none → Q (.ref p) (upd H' p (.lst ys))) →
      compPost (model X.prog X.w) X.A X.xe use Q' (.ref s2.heap.objs.size) (s2.heap.objs.size + 1) (.ok .next) s' := fun {σ' H' s' its n ys} J hv hz hq => by
    obtain ⟨m, hn, _⟩ := id J.loc
    rw [hC'] at hn
    have nC : H' (s2.heap.objs.size + 1) = none := by rw [← hC']; exact J.free
    have J' : Inv (cxComp X N' scope (s2.heap.objs.size + 1) fp s2 H2) [(s2.heap.objs.size, { cls := .type "list", data := .seq its.toArray n })] σ' H' s' := by rw [hX']; exact J
    obtain ⟨nD, E⟩ := comp_end I2 f2 (Nat.le_succ _) (Nat.le_refl _) (Nat.ne_of_lt (Nat.lt_succ_self _)) J' hv hz
    refine fin _ _ s' m H' ys hn ?_ (I2.nofs (Nat.le_succ _)) (Nat.ne_of_lt (Nat.lt_succ_self _)) nC (Nat.le_trans I2.sz (Nat.le_succ _)) (fun x c e z => ?_) (fun p hp z => ?_) E (hq _ nD)
    · exact (ne_lt I2.lt (Nat.le_succ _)).symm
    · obtain ⟨v, q⟩ := I2.cell x c e
      exact absurd z (ne_lt q.lt (Nat.le_succ _))
    · exact absurd z (ne_lt (Heap.lt_size (I2.pin p hp).1) (Nat.le_succ _))
  have hprog : X'.prog = X.prog := by rw [← hX']; rfl
  have hw : X'.w = X.w := by rw [← hX']; rfl
  have hK : X'.K = X.K := by rw [← hX']; rfl
  have hcalm' : X'.calm = true := by rw [← hX']; exact hcalm
  have hA : X'.A = X.A := by rw [← hX']; rfl
  have henv : compEnv scope (closFrom X.env.cells scope.names []) (s2.heap.objs.size + 1) X.env = X'.env := by rw [← hX']; rfl
  have hgX := hg (s2.heap.objs.size + 1) fp s2 H2
  have htX := ht (s2.heap.objs.size + 1) fp s2 H2
  have heX := he (s2.heap.objs.size + 1) fp s2 H2
  rw [hX'] at hgX htX heX
  have hxe : ∀ e s', X'.xe e s' → False := fun e s' z => by rw [← hX'] at z; exact z
  have hXA : X'.pn = [] := by rw [← hX']; rfl
  have hs0 : X'.s₀.heap.objs.size = s2.heap.objs.size := by rw [← hX']; rfl
  have loop : codeAny (model X.prog X.w) X.A (.compLoop (.ListComp elt [⟨tg, iter, ifs, 0⟩] scope pos) 0 (.ref it) (.ref s2.heap.objs.size) X'.env) (compPost (model X.prog X.w) X.A X.xe use Q' (.ref s2.heap.objs.size) (s2.heap.objs.size + 1)) s4 := by
    refine codeAny_compLoop_any (fun n s' => ∃ i σ' H' its nn ys, Inv X' [(s2.heap.objs.size, { cls := .type "list", data := .seq its.toArray nn })] σ' H' s' ∧ tn i s'.heap ∧ (∀ b ∈ fp, H' b = none) ∧ Vals ys its ∧ W i n ys σ' H') ?_ m0
      ⟨0, _, H2, [], 0, [], I4, T.keep _ _ _ st2 (fun b _ o e => keep4 b o e), fun b hb => (f2 b hb).1, .nil, w0⟩
    rintro n s5 ⟨i, σ5, H5, its, nn, ys, I5, st5, fr5, hv, w5⟩
    rcases turn i n ys σ5 H5 w5 with ⟨stop, hz, hq⟩ | ⟨go, hz, step⟩
    · have d := T.done X' hprog hw hK hcalm' i _ s5 σ5 H5 (fun _ _ => False) I5 (stat fr5) st5 stop
      rw [hA] at d
      refine wpAny_mono d (fun r s6 ⟨hr, I6⟩ => ?_) fun _ _ z => z.elim
      subst hr
      exact hfin I6 hv hz hq
    · have d := T.item X' hprog hw hK hcalm' i _ s5 σ5 H5 (fun _ _ => False) I5 (stat fr5) st5 go
      rw [hA] at d
      refine wpAny_mono d (fun r s6 ⟨u, hr, h6⟩ => ?_) fun _ _ z => z.elim
      subst hr
      refine wpAny_mono h6 (fun _ s7 ⟨x, H7, I7, r7, y7, st7, fr7⟩ => ?_) fun _ _ z => z.elim
      have I7' := I7.pinned (stat fr7) (T.obj _ _ st7)
      have a1 := hgX _ s7 σ5 H7 x u _ I7' r7 (step x H7 y7)
      rw [hprog, hw, hA] at a1
      refine wpAny_mono a1 (fun _ s8 ⟨σ8, H8, I8, q8⟩ => ?_) fun _ _ z => (hxe _ _ z).elim
      have a2 := htX _ s8 σ8 H8 _ I8 q8
      rw [hprog, hw, hA] at a2
      refine wpAny_mono a2 (fun ok s9 ⟨H9, I9, q9⟩ => ?_) fun _ _ z => (hxe _ _ z).elim
      have back : ∀ {σ' : St} {H' : Hp} {s' : Shared}, Inv X' ([(s2.heap.objs.size, ({ cls := .type "list", data := .seq its.toArray nn } : Obj))] ++ pinsAt fp s7.heap) σ' H' s' → tn (i + 1) s'.heap ∧ (∀ b ∈ fp, H' b = none) := fun {σ' H' s'} J => by
        refine ⟨T.keep _ _ _ st7 fun b hb o e => (J.pin (b, o) (List.mem_append_right _ (List.mem_append_right _ (mem_pinsAt hb e)))).1, fun b hb => ?_⟩
        obtain ⟨o, e, d⟩ := T.obj _ _ st7 b hb
        exact (J.pin (b, o) (List.mem_append_right _ (List.mem_append_right _ (mem_pinsAt hb e)))).2.1
      cases ok with
      | false =>
        rw [if_neg Bool.false_ne_true] at q9 ⊢
        obtain ⟨m', hm, w9⟩ := q9
        obtain ⟨t9, f9⟩ := back I9
        exact ⟨m', hm, i + 1, σ8, H9, its, nn, ys, I9.unpinned, t9, f9, hv, w9⟩
      | true =>
        rw [if_pos rfl] at q9 ⊢
        have a3 := heX _ s9 σ8 H9 _ I9 q9
        rw [hprog, hw, hA] at a3
        refine wpAny_mono a3 (fun uy s10 ⟨y, H10, I10, r10, m', hm, w10⟩ => ?_) fun _ _ z => (hxe _ _ z).elim
        obtain ⟨t10, f10⟩ := back I10
        have I11 := I10.unpinned
        obtain ⟨eD, nD, _, _, _⟩ := I11.pin (s2.heap.objs.size, { cls := .type "list", data := .seq its.toArray nn }) (List.mem_append_right _ List.mem_cons_self)
        dsimp only at eD nD
        have hsz : its.length < sizeLine := by rw [← hv.length]; exact hz
        refine wpAny_list_append_plain ⟨nn, eD⟩ (fun h' hpl hsb => ?_) (by rw [List.size_toArray]; omega)
        obtain ⟨n', e'⟩ := hpl
        have e'' : h'.get? s2.heap.objs.size = some { cls := .type "list", data := .seq (its ++ [uy]).toArray n' } := by rw [e']; simp
        have I12 : Inv X' [] σ8 H10 s10 := I11.pins_of fun p hp => absurd hp (by simp)
        have I13 := I12.turned (h' := h') (t' := s10.toks) (it := s2.heap.objs.size) (fun b o hb e => (hsb.2 b hb).trans e) nD (by rw [hC']; exact Nat.ne_of_lt (Nat.lt_succ_self _)) (.inr (by rw [hs0]; exact Nat.le_refl _)) cellD (fun p hp => absurd hp (by rw [hXA]; simp))
        refine ⟨m', hm, i + 1, σ8, H10, its ++ [uy], n', ys ++ [y], pinD I13 e'' nD, T.keep _ _ _ t10 fun b hb o e => ?_, f10, hv.append (.cons r10 .nil), w10⟩
        exact (hsb.2 b (ne_lt (hlt b hb) (Nat.le_refl _))).trans e
  have hst : codeAny (model X.prog X.w) X.A (.compStart (.ListComp elt [⟨tg, iter, ifs, 0⟩] scope pos) 0 (.ref it) (.ref s2.heap.objs.size) X'.env) (compPost (model X.prog X.w) X.A X.xe use Q' (.ref s2.heap.objs.size) (s2.heap.objs.size + 1)) s4 :=
    codeAny_compStart_list loop (T.self X.A 0 s4 _ _ (T.keep _ _ _ st2 (fun b _ o e => keep4 b o e)) loop)
  rw [← henv] at hst
  exact hst

/-- [e for .. in ..] as an expression -/
theorem pe_comp (hcalm : X.calm = true) (hc : cmpCheck X.N X.env.scope k js N' scope = true) (hi : PI X tg iter wi)
    (hg : ∀ C fp s2 H2, PG (cxComp X N' scope C fp s2 H2) tg g) (ht : ∀ C fp s2 H2, PIfs (cxComp X N' scope C fp s2 H2) ifs tt) (he : ∀ C fp s2 H2, PE (cxComp X N' scope C fp s2 H2) elt te)
    (hs : ∀ x, foldedSetIterable iter X.env x = pure x := by intro _; rfl) : PE X (.ListComp elt [⟨tg, iter, ifs, 0⟩] scope pos) (tComp k js wi g tt te) := by
  intro pins s σ H Q I h
  rw [eval_ListComp]
  refine comp_core (use := none) hcalm (cmpOk hc) hi hg ht he I h (fun C D s' m H' ys hn _ _ _ _ _ _ _ E q => ?_) hs _
  exact ⟨m, hn, fun h' hsb => ⟨.ref D, _, E h' hsb, rfl, q⟩⟩
/-- x = [e for .. in ..], x a plain local name on the same row -/
theorem ps_setComp {i : Nat} {x : Str} {px spos : Pos} (hN : X.N.Nodup) (hix : X.N[i]? = some x) (hx : Loc X.env.scope x) (hcalm : X.calm = true) (hc : cmpCheck X.N X.env.scope k js N' scope = true) (hi : PI X tg iter wi)
    (hg : ∀ C fp s2 H2, PG (cxComp X N' scope C fp s2 H2) tg g) (ht : ∀ C fp s2 H2, PIfs (cxComp X N' scope C fp s2 H2) ifs tt) (he : ∀ C fp s2 H2, PE (cxComp X N' scope C fp s2 H2) elt te)
    (hs : ∀ x, foldedSetIterable iter X.env x = pure x := by intro _; rfl) (hsw : swapsWith (.ListComp elt [⟨tg, iter, ifs, 0⟩] scope pos) (some (.Name x px)) spos.line X.env = pure true := by rfl)
    (hf : X.fn x = true ∨ X.env.scope.names.lookup x = some .local := by first | exact .inl rfl | exact .inr rfl | assumption) :
    PS X (.Assign [.Name x px] (.ListComp elt [⟨tg, iter, ifs, 0⟩] scope pos) spos) (tAsg (tComp k js wi g tt te) (gName i)) := by
  intro pins s σ H D I h
  rw [exec_Assign_Name_used _ _ _ _ hsw]
  refine wpAny_bind (wpAny_standAt (wpAny_bind ?_))
  show wpAny _ X.A (do let _ ← comprehension (.ListComp elt [⟨tg, iter, ifs, 0⟩] scope pos) scope X.env _ (newList []) false (eval iter X.env) (some (assign (.Name x px) X.env))) _ _ s
  refine wpAny_bind (wpAny_mono (comp_core (use := some (assign (.Name x px) X.env)) (Q' := fun _ s' => SP X pins D .next s') hcalm (cmpOk hc) hi hg ht he I h (fun C Dd s' m H' ys hn c1 c2 c3 c4 c5 c6 c7 E q => ?_) hs _) (fun _ s' hq => wpAny_pure (wpAny_pure hq)) fun _ _ e => e)
  have J := E s'.heap (.refl ..)
  obtain ⟨oC, es, ep, eC, dC, rC⟩ := id hn
  have J' : Inv X (pins ++ [(C, oC)]) σ (upd H' Dd (.lst ys)) s' := J.pins_of fun p hp => by
    rcases List.mem_append.mp hp with z | z
    · exact J.pin p (List.mem_append_right _ z)
    · have e' : p = (C, oC) := by simpa using z
      subst e'
      refine ⟨eC, ?_, c1, c2, fun v z => ?_⟩
      · show upd H' Dd _ C = none
        rw [upd_ne (Ne.symm c3)]
        exact c4
      · have z' : oC.data = .cell v := z
        rw [dC] at z'
        cases z'
  show wpAny _ X.A (assign (.Name x px) X.env (.ref Dd)) _ _ _
  refine wpAny_assign_Name (store_ok (Q := fun _ s'' => ∃ m, s''.heap.Ns C m ∧ ∀ h', Heap.SameBut C s''.heap h' → SP X pins D .next { s'' with heap := h' }) J' hN hix hx (v := .ref Dd) (u := .ref Dd) rfl (fun s'' K' => ?_) hf)
  obtain ⟨e2, n2, _, _, _⟩ := K'.pin (C, oC) (List.mem_append_right _ (List.mem_append_right _ List.mem_cons_self))
  dsimp only at e2 n2
  refine ⟨m, ⟨oC, es, ep, e2, dC, rC⟩, fun h' hsb => ⟨_, _, K'.unpinned.turned (it := C) (t' := s''.toks) (fun b o hb e => (hsb.2 b hb).trans e) n2 c1 (.inr c5) c6 c7, q⟩⟩
end
end L2

set_option Elab.async false
set_option linter.all false
set_option maxRecDepth 100000
set_option maxHeartbeats 4000000

namespace L2
open PySem PySem.Spec PyProof.Rows

mutual
def Dp (K : PySem.W.Frag) (H : Hp) : PyData → V → Prop
  | .none, v => v = .non
  | .bool b, v => v = .bl b
  | .int i, v => v = .int i
  | .str x, v => v = .str x
  | .list ds, v => ∃ a xs, v = .ref a ∧ SqL K H a xs ∧ DpAll K H ds xs
  | .tuple ds, v => ∃ a xs, v = .ref a ∧ SqT K H a xs ∧ DpAll K H ds xs
  | .dict _, _ => False
def DpAll (K : PySem.W.Frag) (H : Hp) : List PyData → List V → Prop
  | [], vs => vs = []
  | d :: ds, vs => ∃ v r, vs = v :: r ∧ Dp K H d v ∧ DpAll K H ds r
end
theorem DpAll.nil {K : PySem.W.Frag} {H : Hp} : DpAll K H [] [] := by unfold DpAll; rfl
theorem DpAll.cons {K : PySem.W.Frag} {H : Hp} {d : PyData} {ds : List PyData} {v : V} {vs : List V} (a : Dp K H d v) (t : DpAll K H ds vs) : DpAll K H (d :: ds) (v :: vs) := by unfold DpAll; exact ⟨v, vs, rfl, a, t⟩
theorem DpAll.two {K : PySem.W.Frag} {H : Hp} {d e : PyData} {v u : V} (a : Dp K H d v) (b : Dp K H e u) : DpAll K H [d, e] [v, u] := .cons a (.cons b .nil)
theorem DpAll.ints {K : PySem.W.Frag} {H : Hp} : ∀ (ns : List Int), DpAll K H (ns.map PyData.int) (ns.map V.int)
  | [] => .nil
  | n :: r => .cons (by unfold Dp; rfl) (DpAll.ints r)
theorem dp_int {K : PySem.W.Frag} {H : Hp} (i : Int) : Dp K H (.int i) (.int i) := by unfold Dp; rfl
theorem dp_str {K : PySem.W.Frag} {H : Hp} (i : Str) : Dp K H (.str i) (.str i) := by unfold Dp; rfl
theorem dp_bl {K : PySem.W.Frag} {H : Hp} (i : Bool) : Dp K H (.bool i) (.bl i) := by unfold Dp; rfl
theorem dp_lst {K : PySem.W.Frag} {H : Hp} {a : Addr} {xs : List V} {ds : List PyData} (h : SqL K H a xs) (t : DpAll K H ds xs) : Dp K H (.list ds) (.ref a) := by unfold Dp; exact ⟨a, xs, rfl, h, t⟩
theorem dp_tup {K : PySem.W.Frag} {H : Hp} {a : Addr} {xs : List V} {ds : List PyData} (h : SqT K H a xs) (t : DpAll K H ds xs) : Dp K H (.tuple ds) (.ref a) := by unfold Dp; exact ⟨a, xs, rfl, h, t⟩
section
variable {X : Cx} {pins : List (Addr × Obj)} {σ : St} {H : Hp} {s : Shared}
mutual
theorem Inv.reads (I : Inv X pins σ H s) : ∀ {d : PyData} {v : V} {u : Value}, Dp X.K H d v → RelV v u → ∃ as, Reads s.heap u d as
  | .none, _, _, h, r => by unfold Dp at h; subst h; cases (show _ = Value.none from r); exact ⟨_, .none⟩
  | .bool b, _, _, h, r => by unfold Dp at h; subst h; cases (show _ = Value.bool b from r); exact ⟨_, .bool b⟩
  | .int i, _, _, h, r => by unfold Dp at h; subst h; obtain ⟨t, q⟩ := (show ∃ t, _ = Value.int i t from r); subst q; exact ⟨_, .int i t⟩
  | .str x, _, _, h, r => by unfold Dp at h; subst h; obtain ⟨t, q⟩ := (show ∃ t, _ = Value.str x t from r); subst q; exact ⟨_, .str x t⟩
  | .list ds, _, _, h, r => by
    unfold Dp at h
    obtain ⟨a, xs, q, sq, t⟩ := h
    subst q
    cases (show _ = Value.ref a from r)
    obtain ⟨its, rv, pl, _⟩ := I.list sq
    obtain ⟨as, ra⟩ := Inv.readsAll I t rv
    obtain ⟨o, n, e1, e2, _, e3⟩ := pl
    exact ⟨_, .list e1 e2 e3 (by simpa using ra)⟩
  | .tuple ds, _, _, h, r => by
    unfold Dp at h
    obtain ⟨a, xs, q, sq, t⟩ := h
    subst q
    cases (show _ = Value.ref a from r)
    obtain ⟨its, rv, pl, _⟩ := I.tuple sq
    obtain ⟨as, ra⟩ := Inv.readsAll I t rv
    obtain ⟨o, e1, e2, n, e3⟩ := pl
    exact ⟨_, .tuple e1 e2 e3 (by simpa using ra)⟩
  | .dict _, _, _, h, _ => by unfold Dp at h; exact h.elim
theorem Inv.readsAll (I : Inv X pins σ H s) : ∀ {ds : List PyData} {vs : List V} {us : List Value}, DpAll X.K H ds vs → Vals vs us → ∃ as, ReadsAll s.heap us ds as
  | [], _, _, h, r => by unfold DpAll at h; subst h; cases r; exact ⟨_, .nil⟩
  | _ :: _, _, _, h, r => by
    unfold DpAll at h
    obtain ⟨v, q, e, a, t⟩ := h
    subst e
    cases r with
    | cons r1 r2 =>
      obtain ⟨as, h1⟩ := Inv.reads I a r1
      obtain ⟨bs, h2⟩ := Inv.readsAll I t r2
      exact ⟨_, .cons h1 h2⟩
end
/-- == and != of data -/
def rEqD (K : PySem.W.Frag) : R2 := fun x y H Q => ∃ d e, Dp K H d x ∧ Dp K H e y ∧ d.canLay0 = true ∧ e.canLay0 = true ∧ d.depth ≤ 64 ∧ Q (.bl (PyData.eqv d e)) H
def rNeD (K : PySem.W.Frag) : R2 := fun x y H Q => ∃ d e, Dp K H d x ∧ Dp K H e y ∧ d.canLay0 = true ∧ e.canLay0 = true ∧ d.depth ≤ 64 ∧ Q (.bl (!PyData.eqv d e)) H
theorem op_eqD (hu : X.A.units + 64 < cLine) : OpR X (compareOp .Eq) (rEqD X.K) := by
  intro pins s σ H x y v u Q I rx ry h
  obtain ⟨d, e, h1, h2, c1, c2, dp, q⟩ := h
  obtain ⟨as, ra⟩ := I.reads h1 rx
  obtain ⟨bs, rb⟩ := I.reads h2 ry
  exact SeqAt.compareEq_reads ra rb c1 c2 (by omega) ⟨.bl _, H, I, rfl, q⟩
theorem op_neD (hu : X.A.units + 64 < cLine) : OpR X (compareOp .NotEq) (rNeD X.K) := by
  intro pins s σ H x y v u Q I rx ry h
  obtain ⟨d, e, h1, h2, c1, c2, dp, q⟩ := h
  obtain ⟨as, ra⟩ := I.reads h1 rx
  obtain ⟨bs, rb⟩ := I.reads h2 ry
  exact SeqAt.compareNe_reads ra rb c1 c2 (by omega) ⟨.bl _, H, I, rfl, q⟩
end
end L2

set_option Elab.async false
set_option linter.all false
set_option maxRecDepth 100000
set_option maxHeartbeats 4000000

namespace L2
open PySem PySem.Spec PyProof.Rows

section
variable {X : Cx} {x : Str} {pos : Pos}
theorem pe_gcls {C : Addr} (hg : Gl X x) (h : X.mg x = some (.ref C)) (hd : (x == ("__debug__" : Str)) = false := by decide) : PE X (.Name x pos) (tC (.ref C)) := pe_glob hg h rfl hd
theorem pe_bty {n : String} (hg : Gl X x) (hm : X.mg x = none) (hv : bootBuiltins x = some (.type n)) (hn : x ≠ "__name__" := by decide) (hd : (x == ("__debug__" : Str)) = false := by decide) : PE X (.Name x pos) (tC (.ty n)) := pe_bltn hg hm hv rfl hn hd
end

structure Fn (P : Program) (w : World) (K : PySem.W.Frag) (mg : Str → Option Value) (base : Heap) (CX : CXT) (x : Str) (k : Nat) (ps : List Str) (sp : Sp) : Prop where
  ex : ∃ f fd, FnOk P w K mg base CX k f fd ps sp ∧ Binds K fd ps [] ∧ PySem.W.keepIn K (.ref f) = true ∧ mg x = some (.ref f)
section
variable {X : Cx} {CX : CXT} {k : Nat} {ps : List Str} {sp : Sp} {E : XK} {x m : Str} {C : Addr} {p pos apos : Pos} {e o : Expr} {es : List Expr} {ta : TE} {t : TA}
theorem pe_fn (F : Fn X.prog X.w X.K X.mg X.base CX x k ps sp) (hr : Room k X.A) (hg : Gl X x) (hx : Passes CX X E) (ha : PA X (e :: es) t) (hdb : (x == ("__debug__" : Str)) = false := by decide) (he : starEach (e :: es) X.env = (false, eval e X.env) :: starEach es X.env := by rfl) (hpl : (backTo pos (starEach es X.env)).any (·.1) = false := by rfl) :
    PE X (.Call (.Name x p) (e :: es) [] pos) (tCall sp [] E t) := by
  obtain ⟨f, fd, h1, h2, h3, h4⟩ := F.ex
  exact pe_call h1 hr hg h4 h3 h2 .nil hx ha hdb he hpl
end

def isCls : V → Bool
  | .ty _ => true
  | .ref _ => true
  | _ => false
def cval : V → Value
  | .ty n => .type n
  | .ref a => .ref a
  | _ => .none
section
variable {X : Cx}
theorem call_isinst : CallR X (.builtin "isinstance") (fun xs H Q => ∃ x c ty b, xs = [x, c] ∧ isCls c = true ∧ TyOf X.K H x ty ∧ PySem.W.kitOne X.K ty (cval c) = some b ∧ Q (.bl b) H) := by
  intro pins s σ H xs us Q I r h
  obtain ⟨x, c, ty, b, rfl, hc, hty, e, q⟩ := h
  obtain ⟨u, w', rfl, r1, r2⟩ := vals2 r
  have e2 : w' = cval c := by
    cases c <;> first | (cases hc; done) | exact r2
  subst e2
  exact isinst_ok I r1 hty e fun tk => ⟨.bl b, H, I.tok tk, rfl, q⟩
end

theorem tVar_0 {v : V} {σ : St} {H : Hp} {Q : VK} : tVar 0 (some v :: σ) H Q = Q v H := by
  apply propext; unfold tVar; simp
theorem tVar_s {i : Nat} {a : Option V} {σ : St} {H : Hp} {Q : VK} : tVar (i + 1) (a :: σ) H Q = tVar i σ H Q := by
  apply propext; unfold tVar; simp
theorem rI0_int {g : Int → Int → V} {i j : Int} {H : Hp} {Q : VK} : rI0 g (.int i) (.int j) H Q = Q (g i j) H := by
  apply propext; unfold rI0; simp
theorem rI_int {C : Int → Int → Prop} {g : Int → Int → V} {i j : Int} {H : Hp} {Q : VK} : rI C g (.int i) (.int j) H Q = (C i j ∧ Q (g i j) H) := by
  apply propext; unfold rI; simp
theorem rU_int {g : Int → V} {i : Int} {H : Hp} {Q : VK} : rU g (.int i) H Q = Q (g i) H := by
  apply propext; unfold rU; simp
theorem rEq_int {i j : Int} {H : Hp} {Q : VK} : rEq (.int i) (.int j) H Q = Q (.bl (decide (i = j))) H := by
  apply propext; unfold rEq; simp [scal]
theorem rNe_int {i j : Int} {H : Hp} {Q : VK} : rNe (.int i) (.int j) H Q = Q (.bl (!decide (i = j))) H := by
  apply propext; unfold rNe; simp [scal]
theorem rEq_bl {i j : Bool} {H : Hp} {Q : VK} : rEq (.bl i) (.bl j) H Q = Q (.bl (decide (i = j))) H := by
  apply propext; unfold rEq; simp [scal]
theorem rNe_bl {i j : Bool} {H : Hp} {Q : VK} : rNe (.bl i) (.bl j) H Q = Q (.bl (!decide (i = j))) H := by
  apply propext; unfold rNe; simp [scal]
theorem rEq_str {i j : Str} {H : Hp} {Q : VK} : rEq (.str i) (.str j) H Q = Q (.bl (decide (i = j))) H := by
  apply propext; unfold rEq; simp [scal]
theorem rNe_str {i j : Str} {H : Hp} {Q : VK} : rNe (.str i) (.str j) H Q = Q (.bl (!decide (i = j))) H := by
  apply propext; unfold rNe; simp [scal]
theorem ex_bl {c : Bool} {Q : Bool → Prop} : (∃ k, V.bl c = V.bl k ∧ Q k) = Q c := by
  apply propext; simp
theorem ex_int {c : Int} {Q : Int → Prop} : (∃ k, V.int c = V.int k ∧ Q k) = Q c := by
  apply propext; simp
theorem le_line {n : Nat} (h : n ≤ 1000) : n ≤ sizeLine := Nat.le_of_lt (small1000 h)
theorem same_new {H : Hp} {p : Addr} (h : H p = none) (o : HO) : Same H (upd H p o) := fun b u q => by rw [upd_ne (ne_of_none q h)]; exact q
end L2

namespace L2
open PySem PySem.Spec PyProof.Rows
def getF (K : PySem.W.Frag) (f : Str) (x : V) (H : Hp) (Q : VK) : Prop := ∃ a C dx fs v, x = .ref a ∧ H a = some (.ins C dx fs) ∧ Cls K C ∧ NoAttr K C f ∧ fs.lookup f = some v ∧ Q v H
theorem tFld_eq {K : PySem.W.Frag} {ta : TE} {f : Str} {σ : St} {H : Hp} {Q : VK} : tFld K ta f σ H Q = ta σ H (fun x H1 => getF K f x H1 Q) := rfl
def setF (K : PySem.W.Frag) (f : Str) (x y : V) (H : Hp) (Q : Hp → Prop) : Prop := ∃ a C dx fs, x = .ref a ∧ H a = some (.ins C dx fs) ∧ Cls K C ∧ NoAttr K C f ∧ fs.length < 1000 ∧ Q (upd H a (.ins C dx (putF f y fs)))
theorem sFld_eq {K : PySem.W.Frag} {ta tv : TE} {f : Str} {D : Ends} {σ : St} {H : Hp} : sFld K ta tv f D σ H = tv σ H (fun y H1 => ta σ H1 fun x H2 => setF K f x y H2 (D.nx σ)) := rfl
theorem ixL_of {K : PySem.W.Frag} {p : Addr} {xs : List V} {i : Int} {v : V} {H : Hp} {Q : VK} (h : SqL K H p xs) (e : atI xs i = some v) (q : Q v H) : rIxL K (.ref p) (.int i) H Q := ⟨p, xs, i, v, rfl, rfl, h, e, q⟩
theorem atI_of {α : Type} {xs : List α} {i : Int} {v : α} (h0 : 0 ≤ i) (h : xs[i.toNat]? = some v) : atI xs i = some v := by
  have q := atI_nat h
  rwa [Int.toNat_of_nonneg h0] at q
theorem atI_ints {xs : List Int} {i : Int} {v : Int} (h0 : 0 ≤ i) (h : xs[i.toNat]? = some v) : atI (xs.map V.int) i = some (.int v) := atI_of h0 (by rw [List.getElem?_map, h]; rfl)
def Nxt (P : Nat → List V → St → Hp → Prop) (n i : Nat) (ys : List V) (σ : St) (H : Hp) : Prop := ∃ m', m' < n - i ∧ m' = n - (i + 1) ∧ i + 1 ≤ n ∧ P (i + 1) ys σ H
theorem Nxt.of {P : Nat → List V → St → Hp → Prop} {n i : Nat} {ys : List V} {σ : St} {H : Hp} (h : i < n) (p : P (i + 1) ys σ H) : Nxt P n i ys σ H := ⟨n - (i + 1), by omega, rfl, h, p⟩
/-- over a list: P i ys σ H says what holds when i items are taken -/
theorem comp_list {K : PySem.W.Frag} {a : Addr} {xs : List V} {g : TG} {tt : TT} {te : TE} {Q : VK} {σ0 : St} {H : Hp} (P : Nat → List V → St → Hp → Prop) (h0 : P 0 [] σ0 H) (hl : ∀ i ys σ H, i ≤ xs.length → P i ys σ H → SqL K H a xs ∧ ys.length ≤ i) (hz : xs.length ≤ sizeLine)
    (hs : ∀ i ys x σ H, i < xs.length → xs[i]? = some x → P i ys σ H → g x σ H fun σ2 H2 => tt σ2 H2 fun b H3 => if b = true then te σ2 H3 fun y H4 => Nxt P xs.length i (ys ++ [y]) σ2 H4 else Nxt P xs.length i ys σ2 H3)
    (hd : ∀ ys σ H, P xs.length ys σ H → ∀ p, H p = none → Q (.ref p) (upd H p (.lst ys))) :
    ∃ W : Nat → Nat → List V → St → Hp → Prop, (∃ m, W 0 m [] σ0 H) ∧ ∀ i m ys σ H, W i m ys σ H →
      ((Itl K a).stop i H ∧ ys.length ≤ sizeLine ∧ ∀ p, H p = none → Q (.ref p) (upd H p (.lst ys))) ∨
      ((Itl K a).go i H ∧ ys.length < sizeLine ∧ ∀ x H', (Itl K a).yld i H x H' → g x σ H' fun σ2 H2 => tt σ2 H2 fun b H3 => if b = true then te σ2 H3 fun y H4 => ∃ m', m' < m ∧ W (i + 1) m' (ys ++ [y]) σ2 H4 else ∃ m', m' < m ∧ W (i + 1) m' ys σ2 H3) := by
  refine ⟨fun i m ys σ H => m = xs.length - i ∧ i ≤ xs.length ∧ P i ys σ H, ⟨xs.length, by simp, Nat.zero_le _, h0⟩, ?_⟩
  rintro i m ys σ H ⟨rfl, hi, p⟩
  obtain ⟨q, ly⟩ := hl i ys σ H hi p
  by_cases hlt : i < xs.length
  · refine .inr ⟨⟨xs, xs[i], q, by simp [hlt]⟩, by omega, fun x H' y => ?_⟩
    obtain ⟨e, y⟩ := y
    subst e
    exact hs i ys x σ _ hlt (y xs q) p
  · have e : i = xs.length := by omega
    subst e
    exact .inl ⟨⟨xs, q, Nat.le_refl _⟩, by omega, hd ys σ H p⟩
/-- over a range -/
theorem comp_range {lo : Int} {n : Nat} {g : TG} {tt : TT} {te : TE} {Q : VK} {σ0 : St} {H : Hp} (P : Nat → List V → St → Hp → Prop) (h0 : P 0 [] σ0 H) (hl : ∀ i ys σ H, P i ys σ H → ys.length ≤ i) (hz : n ≤ sizeLine)
    (hs : ∀ i ys σ H, i < n → P i ys σ H → g (.int (lo + i)) σ H fun σ2 H2 => tt σ2 H2 fun b H3 => if b = true then te σ2 H3 fun y H4 => Nxt P n i (ys ++ [y]) σ2 H4 else Nxt P n i ys σ2 H3)
    (hd : ∀ ys σ H, P n ys σ H → ∀ p, H p = none → Q (.ref p) (upd H p (.lst ys))) :
    ∃ W : Nat → Nat → List V → St → Hp → Prop, (∃ m, W 0 m [] σ0 H) ∧ ∀ i m ys σ H, W i m ys σ H →
      ((Itr lo n).stop i H ∧ ys.length ≤ sizeLine ∧ ∀ p, H p = none → Q (.ref p) (upd H p (.lst ys))) ∨
      ((Itr lo n).go i H ∧ ys.length < sizeLine ∧ ∀ x H', (Itr lo n).yld i H x H' → g x σ H' fun σ2 H2 => tt σ2 H2 fun b H3 => if b = true then te σ2 H3 fun y H4 => ∃ m', m' < m ∧ W (i + 1) m' (ys ++ [y]) σ2 H4 else ∃ m', m' < m ∧ W (i + 1) m' ys σ2 H3) := by
  refine ⟨fun i m ys σ H => m = n - i ∧ i ≤ n ∧ P i ys σ H, ⟨n, by simp, Nat.zero_le _, h0⟩, ?_⟩
  rintro i m ys σ H ⟨rfl, hi, p⟩
  have ly := hl i ys σ H p
  by_cases hlt : i < n
  · refine .inr ⟨hlt, by omega, fun x H' y => ?_⟩
    obtain ⟨e, y⟩ := y
    subst e y
    exact hs i ys σ _ hlt p
  · have e : i = n := by omega
    subst e
    exact .inl ⟨Nat.le_refl _, by omega, hd ys σ H p⟩
theorem Same.upd {H H' : Hp} {p : Addr} {o : HO} (e : Same H H') (h : H p = none) : Same H (upd H' p o) := fun b u q => by rw [upd_ne (ne_of_none q h)]; exact e b u q
theorem Same.new {H H' : Hp} {p : Addr} {o : HO} (e : Same H H') (h : H' p = none) : Same H (L2.upd H' p o) := e.upd (e.free h)
theorem kit_same {K : PySem.W.Frag} {t : Value} (h : (t == t) = true) : PySem.W.kitOne K t t = some true := by unfold PySem.W.kitOne; rw [if_pos h]
theorem cutV_ints (ns : List Int) (lo hi : Option Int) : cutV (ns.map V.int) lo hi = (((ns.drop (HT.sIx ns.length 0 lo)).take (HT.sIx ns.length ns.length hi - HT.sIx ns.length 0 lo)).map V.int) := by
  unfold cutV
  rw [List.length_map, List.map_take, List.map_drop]
theorem get_ints {ns : List Int} {i : Nat} {x : V} (h : (ns.map V.int)[i]? = some x) : ∃ n, ns[i]? = some n ∧ x = .int n := by
  rw [List.getElem?_map] at h
  cases e : ns[i]? with
  | none => rw [e] at h; cases h
  | some n => rw [e] at h; exact ⟨n, rfl, (Option.some.inj h).symm⟩
theorem ixN_of {n : Nat} {i : Int} (h0 : 0 ≤ i) (h : i < n) : ixN n i = some i.toNat := by unfold ixN; rw [if_pos h0, if_pos h]
theorem slL_of {K : PySem.W.Frag} {a : Addr} {xs : List V} {lo hi : Option Int} {H : Hp} {Q : VK} (h : SqL K H a xs) (q : ∀ p, H p = none → Q (.ref p) (upd H p (.lst (cutV xs lo hi)))) : rSlL K (.ref a) lo hi H Q := ⟨a, xs, rfl, h, q⟩
def forL (K : PySem.W.Frag) (g : TG) (tb : TS) (D : Ends) (σ : St) (x : V) (H1 : Hp) : Prop := ∃ a, x = .ref a ∧ (∃ xs, SqL K H1 a xs) ∧ ∃ W : Nat → Nat → St → Hp → Prop, (∃ m, W 0 m σ H1) ∧ ∀ i m σ H, W i m σ H →
  ((Itl K a).stop i H ∧ D.nx σ H) ∨ ((Itl K a).go i H ∧ ∃ N : St → Hp → Prop, (∀ σ' H', N σ' H' → ∃ m', m' < m ∧ W (i + 1) m' σ' H') ∧ ∀ x H', (Itl K a).yld i H x H' → g x σ H' fun σ2 H2 => tb { D with nx := N, ct := N, bk := D.nx } σ2 H2)
theorem tForL_eq {K : PySem.W.Frag} {tl : TE} {g : TG} {tb : TS} {D : Ends} {σ : St} {H : Hp} : tFor (iList K tl) g tb D σ H = tl σ H (fun x H1 => forL K g tb D σ x H1) := rfl
def forR (lo : Int) (g : TG) (tb : TS) (D : Ends) (σ : St) (n : Nat) (H1 : Hp) : Prop := ∃ W : Nat → Nat → St → Hp → Prop, (∃ m, W 0 m σ H1) ∧ ∀ i m σ H, W i m σ H →
  ((Itr lo n).stop i H ∧ D.nx σ H) ∨ ((Itr lo n).go i H ∧ ∃ N : St → Hp → Prop, (∀ σ' H', N σ' H' → ∃ m', m' < m ∧ W (i + 1) m' σ' H') ∧ ∀ x H', (Itr lo n).yld i H x H' → g x σ H' fun σ2 H2 => tb { D with nx := N, ct := N, bk := D.nx } σ2 H2)
def forR1 (g : TG) (tb : TS) (D : Ends) (σ : St) (x : V) (H1 : Hp) : Prop := ∃ j : Int, [x] = [.int j] ∧ -(2 ^ 62) ≤ j ∧ j < 2 ^ 62 ∧ forR 0 g tb D σ j.toNat H1
def forR2 (g : TG) (tb : TS) (D : Ends) (σ : St) (x y : V) (H1 : Hp) : Prop := ∃ i j : Int, [x, y] = [.int i, .int j] ∧ (-(2 ^ 62) ≤ i ∧ i < 2 ^ 62 ∧ -(2 ^ 62) ≤ j ∧ j < 2 ^ 62) ∧ forR i g tb D σ (j - i).toNat H1
theorem tForR1_eq {t : TE} {g : TG} {tb : TS} {D : Ends} {σ : St} {H : Hp} : tFor (iRng1 (tCons t tNil)) g tb D σ H = t σ H (fun x H1 => forR1 g tb D σ x H1) := rfl
theorem tForR2_eq {t u : TE} {g : TG} {tb : TS} {D : Ends} {σ : St} {H : Hp} : tFor (iRng2 (tCons t (tCons u tNil))) g tb D σ H = t σ H (fun x H1 => u σ H1 fun y H2 => forR2 g tb D σ x y H2) := rfl
theorem forR_of {lo : Int} {n : Nat} {g : TG} {tb : TS} {D : Ends} {σ : St} {H : Hp} (Pv : Nat → St → Hp → Prop) (h0 : Pv 0 σ H)
    (hs : ∀ i σ H, i < n → Pv i σ H → g (.int (lo + i)) σ H fun σ2 H2 => tb { D with nx := Pv (i + 1), ct := Pv (i + 1), bk := D.nx } σ2 H2) (hd : ∀ σ H, Pv n σ H → D.nx σ H) : forR lo g tb D σ n H := for_range Pv h0 hs hd
theorem forR1_of {j : Int} {g : TG} {tb : TS} {D : Ends} {σ : St} {H : Hp} (h : -1000 ≤ j ∧ j ≤ 1000) (q : forR 0 g tb D σ j.toNat H) : forR1 g tb D σ (.int j) H := ⟨j, rfl, by omega, by omega, q⟩
def compL (K : PySem.W.Frag) (g : TG) (tt : TT) (te : TE) (σ0 : St) (Q : VK) (x : V) (H1 : Hp) : Prop := ∃ a, x = .ref a ∧ (∃ xs, SqL K H1 a xs) ∧ ∃ W : Nat → Nat → List V → St → Hp → Prop, (∃ m, W 0 m [] σ0 H1) ∧ ∀ i m ys σ H, W i m ys σ H →
  ((Itl K a).stop i H ∧ ys.length ≤ sizeLine ∧ ∀ p, H p = none → Q (.ref p) (upd H p (.lst ys))) ∨
  ((Itl K a).go i H ∧ ys.length < sizeLine ∧ ∀ x H', (Itl K a).yld i H x H' → g x σ H' fun σ2 H2 => tt σ2 H2 fun b H3 => if b = true then te σ2 H3 fun y H4 => ∃ m', m' < m ∧ W (i + 1) m' (ys ++ [y]) σ2 H4 else ∃ m', m' < m ∧ W (i + 1) m' ys σ2 H3)
theorem tCompL_eq {k : Nat} {js : List Nat} {K : PySem.W.Frag} {tl : TE} {g : TG} {tt : TT} {te : TE} {σ : St} {H : Hp} {Q : VK} : tComp k js (iList K tl) g tt te σ H Q = tl σ H (fun x H1 => compL K g tt te (up k js σ) Q x H1) := rfl
theorem compL_of {K : PySem.W.Frag} {a : Addr} {xs : List V} {g : TG} {tt : TT} {te : TE} {Q : VK} {σ0 : St} {H : Hp} (h : SqL K H a xs) (hz : xs.length ≤ 1000) (P : Nat → List V → St → Hp → Prop) (h0 : P 0 [] σ0 H) (hl : ∀ i ys σ H, i ≤ xs.length → P i ys σ H → SqL K H a xs ∧ ys.length ≤ i)
    (hs : ∀ i ys x σ H, i < xs.length → xs[i]? = some x → P i ys σ H → g x σ H fun σ2 H2 => tt σ2 H2 fun b H3 => if b = true then te σ2 H3 fun y H4 => Nxt P xs.length i (ys ++ [y]) σ2 H4 else Nxt P xs.length i ys σ2 H3)
    (hd : ∀ ys σ H, P xs.length ys σ H → ∀ p, H p = none → Q (.ref p) (upd H p (.lst ys))) : compL K g tt te σ0 Q (.ref a) H := ⟨a, rfl, ⟨xs, h⟩, comp_list P h0 hl (le_line hz) hs hd⟩
def compR (lo : Int) (g : TG) (tt : TT) (te : TE) (σ0 : St) (Q : VK) (n : Nat) (H1 : Hp) : Prop := ∃ W : Nat → Nat → List V → St → Hp → Prop, (∃ m, W 0 m [] σ0 H1) ∧ ∀ i m ys σ H, W i m ys σ H →
  ((Itr lo n).stop i H ∧ ys.length ≤ sizeLine ∧ ∀ p, H p = none → Q (.ref p) (upd H p (.lst ys))) ∨
  ((Itr lo n).go i H ∧ ys.length < sizeLine ∧ ∀ x H', (Itr lo n).yld i H x H' → g x σ H' fun σ2 H2 => tt σ2 H2 fun b H3 => if b = true then te σ2 H3 fun y H4 => ∃ m', m' < m ∧ W (i + 1) m' (ys ++ [y]) σ2 H4 else ∃ m', m' < m ∧ W (i + 1) m' ys σ2 H3)
def compR1 (g : TG) (tt : TT) (te : TE) (σ0 : St) (Q : VK) (x : V) (H1 : Hp) : Prop := ∃ j : Int, [x] = [.int j] ∧ -(2 ^ 62) ≤ j ∧ j < 2 ^ 62 ∧ compR 0 g tt te σ0 Q j.toNat H1
theorem tCompR1_eq {k : Nat} {js : List Nat} {t : TE} {g : TG} {tt : TT} {te : TE} {σ : St} {H : Hp} {Q : VK} : tComp k js (iRng1 (tCons t tNil)) g tt te σ H Q = t σ H (fun x H1 => compR1 g tt te (up k js σ) Q x H1) := rfl
theorem compR1_of {j : Int} {g : TG} {tt : TT} {te : TE} {Q : VK} {σ0 : St} {H : Hp} (h : -1000 ≤ j ∧ j ≤ 1000) (P : Nat → List V → St → Hp → Prop) (h0 : P 0 [] σ0 H) (hl : ∀ i ys σ H, P i ys σ H → ys.length ≤ i)
    (hs : ∀ i ys σ H, i < j.toNat → P i ys σ H → g (.int (0 + i)) σ H fun σ2 H2 => tt σ2 H2 fun b H3 => if b = true then te σ2 H3 fun y H4 => Nxt P j.toNat i (ys ++ [y]) σ2 H4 else Nxt P j.toNat i ys σ2 H3)
    (hd : ∀ ys σ H, P j.toNat ys σ H → ∀ p, H p = none → Q (.ref p) (upd H p (.lst ys))) : compR1 g tt te σ0 Q (.int j) H := ⟨j, rfl, by omega, by omega, comp_range P h0 hl (le_line (by omega)) hs hd⟩
section
variable {X : Cx}
end
theorem gCons_eq {t : TG} {u : TGs} {v : V} {r : List V} {σ : St} {H : Hp} {Q : St → Hp → Prop} : gCons t u (v :: r) σ H Q = t v σ H (fun σ' H' => u r σ' H' Q) := by
  apply propext; unfold gCons; constructor
  · rintro ⟨v', r', e, q⟩; cases e; exact q
  · exact fun q => ⟨v, r, rfl, q⟩
theorem gNil_eq {σ : St} {H : Hp} {Q : St → Hp → Prop} : gNil [] σ H Q = Q σ H := by
  apply propext; unfold gNil; simp
theorem gTup_of {K : PySem.W.Frag} {n : Nat} {t : TGs} {a : Addr} {xs : List V} {σ : St} {H : Hp} {Q : St → Hp → Prop} (h : SqT K H a xs) (l : xs.length = n) (q : t xs σ H Q) : gTup K n t (.ref a) σ H Q := ⟨a, xs, rfl, h, l, q⟩
section
variable {X : Cx} {tg l e o : Expr} {es : List Expr} {tl te to : TE} {t : TA} {pos apos cpos : Pos} {f : Str}
theorem ix_listK (K : PySem.W.Frag) (h : X.K = K := by rfl) : IxR X (rIxL K) := h ▸ ix_list
end
end L2

set_option linter.all false
set_option maxRecDepth 100000
set_option maxHeartbeats 4000000
namespace L2
open PySem PySem.Spec PyProof.Rows
section
variable {X : Cx}
theorem tAug_eq {i : Nat} {te : TE} {ti : TIp} {D : Ends} {σ : St} {H : Hp} : tAug i te ti D σ H = tVar i σ H (fun x H0 => te σ H0 fun y H1 => ti x y H1 fun z H2 => D.nx (σ.set i (some z)) H2) := rfl
theorem ipI_int {f : Int → Int → Int} {i j : Int} {H : Hp} {Q : VK} : ipI f (.int i) (.int j) H Q = Q (.int (f i j)) H := by
  refine propext ⟨?_, fun q => ⟨i, j, rfl, rfl, q⟩⟩
  rintro ⟨a, b, e1, e2, q⟩
  cases e1; cases e2; exact q
theorem cx_K {CX : CXT} {P : Program} {w : World} {K : PySem.W.Frag} {mg : Str → Option Value} {base : Heap} {N : List Str} {qual : Str} {scope : Scope} {f : Addr} {cd : Value} {A : Around} {outer : List Env} {s : Shared} {H : Hp} {E : XK} : (cxOf CX P w K mg base N qual scope f cd A outer s H E).K = K := rfl
def insV (xs : List V) (i : Int) (y : V) : List V := let k := if i < 0 then (i + (xs.length : Int)).toNat else min i.toNat xs.length; xs.take k ++ y :: xs.drop k
def rInsert : V → List V → Hp → VK → Prop := fun x vs H Q => ∃ l xs i y, x = .ref l ∧ vs = [.int i, y] ∧ H l = some (.lst xs) ∧ xs.length < sizeLine ∧ (-(2 ^ 62) ≤ i ∧ i < 2 ^ 62) ∧ Q .non (upd H l (.lst (insV xs i y)))
theorem ins_arr (its : List Value) (k : Nat) (u : Value) (hk : k ≤ its.length) : (its.toArray.extract 0 k).push u ++ its.toArray.extract k = (its.take k ++ u :: its.drop k).toArray := by
  apply Array.ext'
  simp
  exact List.take_of_length_le (by rw [List.length_drop]; exact Nat.le_refl _)
theorem insV_length (xs : List V) (i : Int) (y : V) : (insV xs i y).length = xs.length + 1 := by
  unfold insV
  dsimp only
  rw [List.length_append, List.length_cons, List.length_take, List.length_drop]
  omega
theorem Vals.ins {xs : List V} {us : List Value} {y : V} {u : Value} (r : Vals xs us) (q : RelV y u) (k : Nat) : Vals (xs.take k ++ y :: xs.drop k) (us.take k ++ u :: us.drop k) := (r.take k).append (.cons q (r.drop k))
theorem mt_insert : MtM X "list.insert" rInsert := by
  intro pins s σ H x vs v us Q I rx rv h
  obtain ⟨l, xs, i, y, rfl, rfl, hH, hz, hi, q⟩ := h
  cases rx
  obtain ⟨u, u2, rfl, ru, ru2⟩ := rv.two
  obtain ⟨t, rfl⟩ := ru
  obtain ⟨z, its, n, r, hl, e⟩ := I.lstM hH
  have hc0 : ¬(!Builtin.List.listFitsIndex i) = true := by
    unfold Builtin.List.listFitsIndex
    have : (decide (-(2 ^ 63 : Int) ≤ i) && decide (i < 2 ^ 63)) = true := by
      rw [Bool.and_eq_true]; exact ⟨decide_eq_true (by omega), decide_eq_true (by omega)⟩
    simpa using this
  refine call_meets F.slot_list_insert ⟨_, e, rfl⟩ F.entry_list_insert (F.args_list_insert_3 _ _ _) (PySem.AutoListH.list_insert_list_int_val_1 l its.toArray n i t u2 hc0 (by rw [List.size_toArray]; omega)) ⟨e, ?_⟩
  have hk : (if i < 0 then (i + (its.length : Int)).toNat else min i.toNat its.length) ≤ its.length := by split <;> omega
  refine ⟨.non, _, I.lset (its' := its.take (if i < 0 then (i + (its.length : Int)).toNat else min i.toNat its.length) ++ u2 :: its.drop (if i < 0 then (i + (its.length : Int)).toNat else min i.toNat its.length)) hH e ?_ (ys := insV xs i y) ?_ ?_, rfl, q⟩
  · show (its.toArray.extract 0 _).push u2 ++ its.toArray.extract _ = _
    rw [List.size_toArray]
    exact ins_arr its _ u2 hk
  · unfold insV
    rw [hl]
    exact r.ins ru2 _
  · rw [insV_length]; omega
end
end L2

set_option linter.all false
set_option maxRecDepth 100000
set_option maxHeartbeats 4000000
namespace L2
open PySem PySem.Spec PyProof.Rows
structure Enc {α : Type} [DecidableEq α] (e : α → PyData) (n : Nat) : Prop where
  eq : ∀ a b, PyData.eqv (e a) (e b) = decide (a = b)
  lay : ∀ a, (e a).canLay0 = true
  dep : ∀ a, (e a).depth ≤ n
theorem Enc.int : Enc PyData.int 0 := ⟨fun a b => by unfold PyData.eqv; rw [Bool.eq_iff_iff]; simp, fun a => by unfold PyData.canLay0; rfl, fun a => by unfold PyData.depth; exact Nat.le_refl _⟩
theorem Enc.bl : Enc PyData.bool 0 := ⟨fun a b => by unfold PyData.eqv; rw [Bool.eq_iff_iff]; simp, fun a => by unfold PyData.canLay0; rfl, fun a => by unfold PyData.depth; exact Nat.le_refl _⟩
section
variable {α β γ : Type} [DecidableEq α] [DecidableEq β] [DecidableEq γ] {e : α → PyData} {f : β → PyData} {g : γ → PyData} {n m k : Nat}
theorem Enc.all (h : Enc e n) : ∀ xs ys : List α, PyData.eqvAll (xs.map e) (ys.map e) = decide (xs = ys)
  | [], [] => by simp [PyData.eqvAll]
  | x :: xs, [] => by simp [PyData.eqvAll]
  | [], y :: ys => by simp [PyData.eqvAll]
  | x :: xs, y :: ys => by
    rw [List.map_cons, List.map_cons]
    unfold PyData.eqvAll
    rw [h.eq, h.all xs ys, ← Bool.decide_and]
    exact decide_eq_decide.mpr (by rw [List.cons.injEq])
theorem Enc.layAll (h : Enc e n) : ∀ xs : List α, PyData.canLayAll0 (xs.map e) = true
  | [] => by simp [PyData.canLayAll0]
  | x :: xs => by rw [List.map_cons]; unfold PyData.canLayAll0; rw [h.lay, h.layAll xs]; rfl
theorem Enc.depAll (h : Enc e n) : ∀ xs : List α, PyData.depthAll (xs.map e) ≤ n
  | [] => by simp [PyData.depthAll]
  | x :: xs => by
    rw [List.map_cons]; unfold PyData.depthAll
    have a := h.dep x
    have b := h.depAll xs
    omega
theorem Enc.list (h : Enc e n) : Enc (fun xs : List α => PyData.list (xs.map e)) (n + 1) :=
  ⟨fun a b => by unfold PyData.eqv; exact h.all a b, fun a => by unfold PyData.canLay0; exact h.layAll a, fun a => by unfold PyData.depth; have := h.depAll a; omega⟩
theorem eqD_of {K : PySem.W.Frag} {H : Hp} {x y : V} {a b : α} {Q : VK} (h : Enc e n) (hn : n ≤ 64) (dx : Dp K H (e a) x) (dy : Dp K H (e b) y) (q : Q (.bl (decide (a = b))) H) : rEqD K x y H Q :=
  ⟨_, _, dx, dy, h.lay a, h.lay b, Nat.le_trans (h.dep a) hn, by rw [h.eq]; exact q⟩
theorem neD_of {K : PySem.W.Frag} {H : Hp} {x y : V} {a b : α} {Q : VK} (h : Enc e n) (hn : n ≤ 64) (dx : Dp K H (e a) x) (dy : Dp K H (e b) y) (q : Q (.bl (!decide (a = b))) H) : rNeD K x y H Q :=
  ⟨_, _, dx, dy, h.lay a, h.lay b, Nat.le_trans (h.dep a) hn, by rw [h.eq]; exact q⟩
end
theorem dp_ints {K : PySem.W.Frag} {H : Hp} {a : Addr} {xs : List Int} (h : SqL K H a (xs.map V.int)) : Dp K H (.list (xs.map PyData.int)) (.ref a) := dp_lst h (DpAll.ints xs)
section
variable {K : PySem.W.Frag} {H : Hp} {R : Bool → Prop}
theorem inst_of {x c : V} {ty : Value} {b : Bool} (hc : isCls c = true) (t : TyOf K H x ty) (k : PySem.W.kitOne K ty (cval c) = some b) (q : R b) : ∃ x' c' ty b, [x, c] = [x', c'] ∧ isCls c' = true ∧ TyOf K H x' ty ∧ PySem.W.kitOne K ty (cval c') = some b ∧ R b := ⟨x, c, ty, b, rfl, hc, t, k, q⟩
theorem inst_int {i : Int} (q : R true) : ∃ x' c' ty b, [V.int i, V.ty "int"] = [x', c'] ∧ isCls c' = true ∧ TyOf K H x' ty ∧ PySem.W.kitOne K ty (cval c') = some b ∧ R b := inst_of rfl (.int i) (kit_same rfl) q
theorem inst_bl {i : Bool} (q : R true) : ∃ x' c' ty b, [V.bl i, V.ty "bool"] = [x', c'] ∧ isCls c' = true ∧ TyOf K H x' ty ∧ PySem.W.kitOne K ty (cval c') = some b ∧ R b := inst_of rfl (.bl i) (kit_same rfl) q
theorem inst_int_bl {i : Int} (k : PySem.W.kitOne K (.type "int") (.type "bool") = some false) (q : R false) : ∃ x' c' ty b, [V.int i, V.ty "bool"] = [x', c'] ∧ isCls c' = true ∧ TyOf K H x' ty ∧ PySem.W.kitOne K ty (cval c') = some b ∧ R b := inst_of rfl (.int i) k q
theorem inst_lst {a : Addr} {xs : List V} (h : H a = some (.lst xs)) (q : R true) : ∃ x' c' ty b, [V.ref a, V.ty "list"] = [x', c'] ∧ isCls c' = true ∧ TyOf K H x' ty ∧ PySem.W.kitOne K ty (cval c') = some b ∧ R b := inst_of rfl (.lst h) (kit_same rfl) q
end
end L2

set_option linter.all false
set_option maxRecDepth 100000
set_option maxHeartbeats 4000000
namespace L2
open PySem PySem.Spec PyProof.Rows
section
variable {P : Program} {w : World} {K : PySem.W.Frag} {mg : Str → Option Value} {base : Heap}
end
section
variable {X : Cx} {CX : CXT} {k : Nat} {ps : List Str} {sp : Sp} {dvs : List V} {E : XK} {x m : Str} {C : Addr} {p pos apos : Pos} {e o : Expr} {es : List Expr} {ta : TE} {t : TA}
end
end L2

set_option linter.all false
set_option maxRecDepth 100000
set_option maxHeartbeats 4000000
namespace L2
open PySem PySem.Spec PyProof.Rows
section
variable {X : Cx}
theorem all_range {bs : List Bool} : (List.range bs.length).all (fun i => bs.getD i true) = bs.all id := by
  induction bs with
  | nil => rfl
  | cons b r ih =>
    rw [List.length_cons, List.range_succ_eq_map, List.all_cons, List.all_map, List.all_cons]
    show (b && (List.range r.length).all fun i => r.getD i true) = _
    rw [ih]
    rfl
theorem call_all (hc : X.calm = true) : CallR X (.builtin "all") (fun xs H Q => ∃ (p : Addr) (bs : List Bool), xs = [.ref p] ∧ SqL X.K H p (bs.map V.bl) ∧ Q (.bl (bs.all id)) H) := by
  intro pins s σ H xs us Q I r h
  obtain ⟨p, bs, rfl, hq, q⟩ := h
  obtain ⟨u, rfl, rx⟩ := vals1 r
  cases rx
  obtain ⟨its, r', pl, hz⟩ := I.list hq
  have hlen := r'.length
  rw [List.length_map] at hlen
  have hh : X.A.handled = none := I.ok.hd hc
  have hl := pl.isList
  have hlt : p < s.heap.objs.size := by obtain ⟨_, e, _⟩ := hl; exact Heap.lt_size e
  refine call_all_walk (wpAny_pyIter_list hl ⟨s.heap.objs.size, _, _, _, _, _, fun i => bs.getD i true, rfl, Walks.list (A := X.A.in1) hh s.heap.objs.size p (Nat.ne_of_lt hlt) its.toArray, ⟨⟨_, Heap.get?_push_size _ rfl, rfl, rfl⟩, hl.push _⟩, ?_, fun h' tk hk => ?_⟩)
  · intro i v s' Q' E' hP hQ
    have hP' : its[i]? = some v := by simpa using hP
    have hi : i < its.length := (List.getElem?_eq_some_iff.mp hP').1
    obtain ⟨b, hb⟩ : ∃ b, bs[i]? = some b := ⟨_, List.getElem?_eq_getElem (by omega)⟩
    obtain ⟨u, hu, ru⟩ := r'.get (i := i) (x := .bl b) (by rw [List.getElem?_map, hb]; rfl)
    rw [hP'] at hu
    cases hu
    cases ru
    have hQ' : Q' b s' := by
      have e : bs.getD i true = b := by rw [List.getD_eq_getElem?_getD, hb]; rfl
      rw [← e]; exact hQ
    exact wpAny_truthy_bool hQ'
  · refine ⟨.bl (bs.all id), H, I.kept (t' := tk) (fun b o e => hk b o ?_ (Heap.get?_push_of_some _ e)), ?_, q⟩
    · intro z
      have : b = s.heap.objs.size := by simpa using z
      exact absurd (Heap.lt_size e) (by rw [this]; exact Nat.lt_irrefl _)
    · have : its.toArray.size = bs.length := by simp [hlen]
      rw [this, all_range]
      rfl
theorem rng_ok {P : Program} {w : World} {H : Hp} {h : Heap} {a : Addr} {lo hi : Int} {t u v : Tok} (e : h.get? a = some { cls := .type "range", data := .fields #[.int lo t, .int hi u, .int 1 v] }) : ObjOk P w H h a (.rng lo hi) := ⟨t, u, v, e⟩
theorem call_rng1 : CallR X (.type "range") (fun xs H Q => ∃ n : Int, xs = [.int n] ∧ ∀ p, H p = none → Q (.ref p) (upd H p (.rng 0 n))) := by
  intro pins s σ H xs us Q I r h
  obtain ⟨n, rfl, q⟩ := h
  obtain ⟨u, rfl, rx⟩ := vals1 r
  obtain ⟨t, rfl⟩ := rx
  exact call_range_1 ⟨.ref s.heap.objs.size, _, I.laid (fun b o e => Heap.get?_push_of_some _ e) (Nat.le_refl _) (rng_ok (Heap.get?_push_size _ rfl)), rfl, q _ (I.hok.fresh (Nat.le_refl _))⟩
def rints (lo hi : Int) : List Int := (List.range (hi - lo).toNat).map fun i : Nat => lo + (i : Int)
theorem rints_length (lo hi : Int) : (rints lo hi).length = (hi - lo).toNat := by unfold rints; rw [List.length_map, List.length_range]
theorem rints_get {lo hi : Int} {i : Nat} (h : i < (hi - lo).toNat) : (rints lo hi)[i]? = some (lo + i) := by unfold rints; rw [List.getElem?_map, List.getElem?_range h]; rfl
theorem call_list_rng (hc : X.calm = true) : CallR X (.type "list") (fun xs H Q => ∃ (p : Addr) (lo hi : Int), xs = [.ref p] ∧ H p = some (.rng lo hi) ∧ (-1000 ≤ lo ∧ lo ≤ 1000 ∧ -1000 ≤ hi ∧ hi ≤ 1000) ∧ ∀ l, H l = none → Q (.ref l) (upd H l (.lst ((rints lo hi).map V.int)))) := by
  intro pins s σ H xs us Q I r h
  obtain ⟨p, lo, hi, rfl, hp, hb, q⟩ := h
  obtain ⟨u, rfl, rx⟩ := vals1 r
  cases rx
  obtain ⟨t, u, v, e⟩ := I.hok p _ hp
  have hh : X.A.handled = none := I.ok.hd hc
  refine call_list_range (n := (hi - lo).toNat) hh e (small_one (by omega) (by omega) (by omega) (by omega)) (by rw [rangeSize_one]; split <;> omega) (by omega) fun h' tk acc' c' hk hS hacc => ?_
  have hz : (rints lo hi).length ≤ 1000 * 2 := by rw [rints_length]; omega
  refine ⟨.ref s.heap.objs.size, _, I.laid (t' := tk) hk (Nat.le_refl _) (o := .lst ((rints lo hi).map V.int)) ⟨?_, acc'.toList, c', ?_, by simpa using hS⟩, rfl, q _ (I.hok.fresh (Nat.le_refl _))⟩
  · rw [List.length_map]
    exact Nat.le_trans hz (by decide)
  · have hsz : acc'.size = (hi - lo).toNat := hacc.1
    have gen : ∀ (vs : List Value) (k : Nat) (zs : List Int), vs.length = zs.length → (∀ (j : Nat) v z, vs[j]? = some v → zs[j]? = some z → ∃ t, v = Value.int z t) → Vals (zs.map V.int) vs := by
      intro vs
      induction vs with
      | nil => intro k zs h1 _; cases zs with
        | nil => exact .nil
        | cons _ _ => cases h1
      | cons v r ih => intro k zs h1 h2; cases zs with
        | nil => cases h1
        | cons z zr => exact .cons (h2 0 v z rfl rfl) (ih 0 zr (by simpa using h1) fun j v' z' a b => h2 (j + 1) v' z' (by simpa using a) (by simpa using b))
    refine gen acc'.toList 0 (rints lo hi) (by rw [rints_length, Array.length_toList, hsz]) fun j v z a b => ?_
    have a' : acc'[j]? = some v := by simpa using a
    obtain ⟨t, rfl⟩ := hacc.2 j v a'
    have hj : j < (hi - lo).toNat := by have := (Array.getElem?_eq_some_iff.mp a').1; omega
    rw [rints_get hj] at b
    cases b
    exact ⟨t, by rw [Int.mul_one]⟩
theorem call_sorted : CallR X (.builtin "sorted") (fun xs H Q => ∃ (p : Addr) (ns : List Int), xs = [.ref p] ∧ SqL X.K H p (ns.map V.int) ∧ ns.length < 64 ∧ ∀ (l : Addr) (ms : List Int), H l = none → ms.Perm ns → ms.Pairwise (· ≤ ·) → Q (.ref l) (upd H l (.lst (ms.map V.int)))) := by
  intro pins s σ H xs us Q I r h
  obtain ⟨p, ns, rfl, hq, hn, q⟩ := h
  obtain ⟨u, rfl, rx⟩ := vals1 r
  cases rx
  obtain ⟨its, r', pl, hz⟩ := I.list hq
  have hlen := r'.length
  rw [List.length_map] at hlen
  refine sorted_ints pl.isList (intsAre_of r') (by omega) fun out ns' a1 a2 a3 => ?_
  obtain ⟨e, he⟩ := sortedAll_at s.heap its out
  have hl' : ns'.length = ns.length := a2.length_eq
  refine ⟨.ref (s.heap.objs.size + 1), _, I.laid (t' := s.toks) (fun b o e => sortedAll_old e) (Nat.le_succ _) (o := .lst (ns'.map V.int)) ⟨?_, out.toList, e, vals_ints a1, by simpa using he⟩, rfl, q _ ns' (I.hok.fresh (Nat.le_succ _)) a2 a3⟩
  rw [List.length_map]
  exact Nat.le_trans (show ns'.length ≤ 1000 by omega) (by decide)
end
end L2

set_option linter.all false
set_option maxRecDepth 100000
set_option maxHeartbeats 4000000
namespace L2
open PySem PySem.Spec PyProof.Rows
theorem Same.get {H H' : Hp} {b : Addr} {o : HO} (s : Same H H') (h : H b = some o) : H' b = some o := s b o h
theorem newH {H : Hp} {p : Addr} (h : H p = none) (o : HO) : ∃ H', upd H p o = H' ∧ Same H H' ∧ H' p = some o := ⟨_, rfl, same_new h o, upd_same⟩
section
variable {K : PySem.W.Frag} {a : Addr} {xs : List V} {te : TE} {Q : VK} {σ0 rest : St} {H : Hp}
theorem compL_gen (h : SqL K H a xs) (hz : xs.length ≤ 1000) (e0 : σ0 = none :: rest) (R : V → V → Hp → Prop) (mono : ∀ x y H1 H2, Same H1 H2 → R x y H1 → R x y H2)
    (hs : ∀ (i : Nat) x H', xs[i]? = some x → Same H H' → ∀ Q' : VK, (∀ y H4, Same H' H4 → R x y H4 → Q' y H4) → te (some x :: rest) H' Q')
    (hd : ∀ ys H' p, ys.length = xs.length → (∀ (j : Nat) x y, xs[j]? = some x → ys[j]? = some y → R x y H') → Same H H' → H' p = none → Q (.ref p) (upd H' p (.lst ys))) : compL K (gName 0) tYes te σ0 Q (.ref a) H := by
  subst e0
  refine compL_of h hz (fun i ys σ H' => ∃ v, σ = v :: rest ∧ Same H H' ∧ ys.length = i ∧ ∀ (j : Nat) x y, xs[j]? = some x → ys[j]? = some y → R x y H') ⟨_, rfl, .refl _, rfl, fun j x y _ q => by cases q⟩ ?_ ?_ ?_
  · rintro i ys σ H' _ ⟨v, rfl, e, hl, _⟩
    exact ⟨e.seq h, Nat.le_of_eq hl⟩
  · rintro i ys x σ H' hi hx ⟨v, rfl, e, hl, hR⟩
    show te (some x :: rest) H' _
    refine hs i x H' hx e _ fun y H4 q1 q2 => ?_
    refine Nxt.of hi ⟨_, rfl, e.trans q1, by rw [List.length_append, hl]; rfl, fun j x' y' hx' hy' => ?_⟩
    by_cases hj : j < ys.length
    · rw [List.getElem?_append_left hj] at hy'
      exact mono _ _ _ _ q1 (hR j x' y' hx' hy')
    · rw [List.getElem?_append_right (by omega)] at hy'
      have : j - ys.length = 0 := by
        rcases Nat.eq_zero_or_pos (j - ys.length) with z | z
        · exact z
        · rw [List.getElem?_eq_none (show [y].length ≤ j - ys.length from z)] at hy'
          cases hy'
      rw [this] at hy'
      cases hy'
      rw [show j = i by omega, hx] at hx'
      cases hx'
      exact q2
  · rintro ys σ H' ⟨v, rfl, e, hl, hR⟩ p hp
    exact hd ys H' p hl hR e hp
end
end L2

set_option linter.all false
set_option maxRecDepth 100000
set_option maxHeartbeats 4000000
namespace L2
open PySem PySem.Spec PyProof.Rows
section
variable {X : Cx} {pins : List (Addr × Obj)} {σ : St} {H : Hp} {s : Shared}
theorem Inv.turn2 (I : Inv X pins σ H s) {ch : List Addr} {h' : Heap} {p : Addr} {o : HO} {t' : Nat} (hf : ∀ b ∈ ch, FpOk X pins H b) (k : ∀ b ob, b ∉ ch → s.heap.get? b = some ob → h'.get? b = some ob)
    (hp : s.heap.objs.size ≤ p) (new : ObjOk X.prog X.w (upd H p o) h' p o) : Inv X pins σ (upd H p o) { s with heap := h', toks := t' } := by
  have hn : H p = none := I.hok.fresh hp
  have tr : ∀ b u, H b = some u → b ∉ ch := fun b u e z => by rw [(hf b z).1] at e; cases e
  refine I.call (g' := s.gens) (t' := t') (d' := s.drawn) (ch := ch) ⟨fun b ob e n _ hx => k b ob hx e, fun b ob e n _ hx => ⟨ob.slots, k b ob hx e⟩, fun b ob e n _ => ?_, fun b ob e hx => ⟨ob, k b ob hx e⟩, fun b xs e => ?_, fun b ob u e => ?_, fun b qs e => ⟨#[], ?_⟩⟩ (fun b u e => ?_) I.bare fun b hb => ?_
  · rw [upd_ne (Nat.ne_of_lt (Nat.lt_of_lt_of_le (Heap.lt_size e) hp))]; exact n
  · rw [upd_ne (ne_of_none e hn)]; exact e
  · rw [upd_ne (ne_of_none e hn)]; exact e
  · rw [upd_ne (ne_of_none e hn), e]; simp
  · by_cases hb : b = p
    · subst hb; rw [upd_same] at e; cases e; exact new
    · rw [upd_ne hb] at e
      refine (I.hok b u e).stay (fun c v hc q => k c v ?_ q) (fun c q => by rw [upd_ne (ne_of_none q hn)]; exact q) fun c xs q => by rw [upd_ne (ne_of_none q hn)]; exact q
      rcases hc with z | z
      · rw [z]; exact tr b u e
      · exact tr c _ z
  · obtain ⟨a1, a2, a3, a4, a5, a6⟩ := hf b hb
    exact ⟨a4, a2, a5, a6⟩
end
/-- the pairs of enumerate over the list at a -/
def Ite (K : PySem.W.Frag) (a : Addr) : It :=
  ⟨fun i H => ∃ xs x, SqL K H a xs ∧ xs[i]? = some x, fun i H v H' => ∃ p x, H p = none ∧ (∀ xs, SqL K H a xs → xs[i]? = some x) ∧ H' = upd H p (.tup [.int i, x]) ∧ v = .ref p, fun i H => ∃ xs, SqL K H a xs ∧ xs.length ≤ i⟩
theorem turn_enum {P : Program} {w : World} {K : PySem.W.Frag} {elts : List Expr} {x1} {tpos : Pos} (a e it : Addr) (hne : e ≠ it) : Turn P w K (.Tuple elts x1 tpos) (Ite K a) [e, it] e (fun i h => (∃ old, IsEnum h e it ((i : Nat) : Int) old) ∧ h.IsListIter it a i) where
  mem := by simp
  obj := fun i h st b hb => by
    obtain ⟨⟨old, he⟩, o, e2, c, d⟩ := st
    have hb' : b = e ∨ b = it := by simpa using hb
    rcases hb' with rfl | rfl
    · exact ⟨_, he, fun v z => by cases z⟩
    · exact ⟨o, e2, fun v z => by rw [d] at z; cases z⟩
  keep := fun i h h' st k => ⟨let ⟨old, he⟩ := st.1; ⟨old, k e (by simp) _ he⟩, st.2.at fun o q => k it (by simp) o q⟩
  item := by
    intro X hP hw hK hc i pins s σ H E I hf st hg
    subst hP hw hK
    obtain ⟨xs, x, hq, hx⟩ := hg
    obtain ⟨its, rv, p, hz⟩ := I.list hq
    obtain ⟨u, hu, ru⟩ := rv.get hx
    obtain ⟨⟨old, he⟩, hit⟩ := st
    refine wpAny_pyNext_enum_item he hit p.isList (x := u) (by simpa using hu) hne fun h1 heo hit1 ht1 hz1 hk1 => ⟨_, rfl, ?_⟩
    refine wpAny_letOwnedTupleGo_enum heo fun h2 he2 hs2 => ?_
    replace hs2 : Heap.SameBut e h1 h2 := hs2
    have hel : e < s.heap.objs.size := Heap.lt_size he
    have ht2 : h2.get? s.heap.objs.size = some { cls := .type "tuple", data := .seq #[.int i s.toks, u] } := (hs2.2 _ (Nat.ne_of_gt hel)).trans ht1
    have hnew : H s.heap.objs.size = none := I.hok.fresh (Nat.le_refl _)
    refine ⟨.ref s.heap.objs.size, upd H s.heap.objs.size (.tup [.int i, x]), I.turn2 (ch := [e, it]) (t' := s.toks + 1) hf (fun b ob hb q => ?_) (Nat.le_refl _) ?_, rfl, ⟨_, x, hnew, fun ys hy => by rw [I.list_inj hy hq]; exact hx, rfl, rfl⟩, ⟨⟨u, ?_⟩, ?_⟩, fun b hb => ?_⟩
    · have hbe : b ≠ e := fun z => hb (by simp [z])
      have hbi : b ≠ it := fun z => hb (by simp [z])
      exact (hs2.2 b hbe).trans (hk1 b ob hbe hbi q)
    · exact ⟨le_line (show 2 ≤ 1000 by decide), [.int i s.toks, u], .cons ⟨_, rfl⟩ (.cons ru .nil), _, ht2, rfl, 0, rfl⟩
    · have : ((i + 1 : Nat) : Int) = (i : Int) + 1 := by push_cast; rfl
      rw [this]; exact he2
    · exact hit1.at fun o q => (hs2.2 it (Ne.symm hne)).trans q
    · have hn := (hf b hb).1
      have hb' : b = e ∨ b = it := by simpa using hb
      obtain ⟨oi, hoi, _⟩ := hit
      have hlt : b < s.heap.objs.size := by
        rcases hb' with rfl | rfl
        · exact hel
        · exact Heap.lt_size hoi
      rw [upd_ne (Nat.ne_of_lt hlt)]; exact hn
  done := by
    intro X hP hw hK hc i pins s σ H E I hf st hg
    subst hP hw hK
    obtain ⟨xs, hq, hx⟩ := hg
    obtain ⟨its, rv, p, hz⟩ := I.list hq
    obtain ⟨⟨old, he⟩, hit⟩ := st
    obtain ⟨f0, f1, f2, f3, f4, f5⟩ := hf it (by simp)
    have hl := rv.length
    exact wpAny_pyNext_enum_end (I.ok.hd hc) he hit p.isList (by rw [List.getElem?_toArray]; exact List.getElem?_eq_none (by omega)) fun h' eb => ⟨rfl, I.turned (t' := s.toks) (fun b o hb e => eb b o hb e) f0 f1 f3 f4 f5⟩
  self := fun _ _ _ _ _ st h => let ⟨_, he⟩ := st.1; wpAny_pyIter_enum he h
section
variable {X : Cx}
def iEnum (K : PySem.W.Frag) (ta : TA) : TI := fun σ H R => ta σ H fun vs H1 => ∃ a, vs = [.ref a] ∧ (∃ xs, SqL K H1 a xs) ∧ R (Ite K a) H1
theorem pi_enum {elts : List Expr} {x1} {tpos : Pos} {l : Expr} {ta : TA} {p pos : Pos} (hg : Gl X "enumerate") (hm : X.mg "enumerate" = none) (ha : PA X [l] ta) (hs : starEach [l] X.env = [(false, eval l X.env)] := by rfl) :
    PI X (.Tuple elts x1 tpos) (.Call (.Name "enumerate" p) [l] [] pos) (iEnum X.K ta) := by
  intro pins s σ H R I h
  refine Call_ (ld_blt I hg hm boot_enumerate (PyProof.Rows.callWith_type1 (thn (ha pos pins s σ H _ I h) fun us s1 ⟨vs, H1, I1, r1, q1⟩ => ?_) hs rfl))
  obtain ⟨a, e, ⟨xs, hq⟩, q⟩ := q1
  subst e
  obtain ⟨u, rfl, ru⟩ := vals1 r1
  cases ru
  obtain ⟨its, rv, pl, hz⟩ := I1.list hq
  refine call_enumerate_list pl.isList fun h' he hit hsz hk => wpAny_pyIter_enum he ?_
  have I2 : Inv X pins σ H1 { s1 with heap := h' } := I1.kept (t' := s1.toks) hk
  refine ⟨s1.heap.objs.size + 1, [s1.heap.objs.size + 1, s1.heap.objs.size], _, Ite X.K a, H1, rfl, I2, turn_enum a _ _ (Nat.succ_ne_self _), ⟨⟨_, he⟩, hit⟩, fun b hb => ?_, q⟩
  have hb' : b = s1.heap.objs.size + 1 ∨ b = s1.heap.objs.size := by simpa using hb
  have hle : s1.heap.objs.size ≤ b := by
    rcases hb' with rfl | rfl
    · exact Nat.le_succ _
    · exact Nat.le_refl _
  exact I1.fpOk hle (I1.hok.fresh hle)
end
section
variable {K : PySem.W.Frag} {a : Addr} {xs : List V} {g : TG} {tb : TS} {D : Ends} {σ : St} {H : Hp}
def forE (K : PySem.W.Frag) (g : TG) (tb : TS) (D : Ends) (σ : St) (x : V) (H1 : Hp) : Prop := ∃ a, [x] = [.ref a] ∧ (∃ xs, SqL K H1 a xs) ∧ ∃ W : Nat → Nat → St → Hp → Prop, (∃ m, W 0 m σ H1) ∧ ∀ i m σ H, W i m σ H →
  ((Ite K a).stop i H ∧ D.nx σ H) ∨ ((Ite K a).go i H ∧ ∃ N : St → Hp → Prop, (∀ σ' H', N σ' H' → ∃ m', m' < m ∧ W (i + 1) m' σ' H') ∧ ∀ x H', (Ite K a).yld i H x H' → g x σ H' fun σ2 H2 => tb { D with nx := N, ct := N, bk := D.nx } σ2 H2)
theorem tForE_eq {t : TE} : tFor (iEnum K (tCons t tNil)) g tb D σ H = t σ H (fun x H1 => forE K g tb D σ x H1) := rfl
theorem forE_of (h : SqL K H a xs) (Pv : Nat → St → Hp → Prop) (h0 : Pv 0 σ H) (hl : ∀ i σ H, i ≤ xs.length → Pv i σ H → SqL K H a xs)
    (hs : ∀ (i : Nat) x σ H p, xs[i]? = some x → Pv i σ H → H p = none → g (.ref p) σ (upd H p (.tup [.int i, x])) fun σ2 H2 => tb { D with nx := Pv (i + 1), ct := Pv (i + 1), bk := D.nx } σ2 H2) (hd : ∀ σ H, Pv xs.length σ H → D.nx σ H) : forE K g tb D σ (.ref a) H := by
  refine ⟨a, rfl, ⟨xs, h⟩, fun i m σ H => m = xs.length - i ∧ i ≤ xs.length ∧ Pv i σ H, ⟨xs.length, by simp, Nat.zero_le _, h0⟩, ?_⟩
  rintro i m σ H ⟨rfl, hi, p⟩
  have q := hl i σ H hi p
  by_cases hlt : i < xs.length
  · refine .inr ⟨⟨xs, xs[i], q, by simp [hlt]⟩, Pv (i + 1), fun σ' H' p' => ⟨xs.length - (i + 1), by omega, rfl, hlt, p'⟩, fun x H' y => ?_⟩
    obtain ⟨pp, x', hn, y, rfl, rfl⟩ := y
    exact hs i x' σ _ pp (y xs q) p hn
  · have e : i = xs.length := by omega
    subst e
    exact .inl ⟨⟨xs, q, Nat.le_refl _⟩, hd σ H p⟩
variable {tt : TT} {te : TE} {Q : VK} {σ0 : St}
def compE (K : PySem.W.Frag) (g : TG) (tt : TT) (te : TE) (σ0 : St) (Q : VK) (x : V) (H1 : Hp) : Prop := ∃ a, [x] = [.ref a] ∧ (∃ xs, SqL K H1 a xs) ∧ ∃ W : Nat → Nat → List V → St → Hp → Prop, (∃ m, W 0 m [] σ0 H1) ∧ ∀ i m ys σ H, W i m ys σ H →
  ((Ite K a).stop i H ∧ ys.length ≤ sizeLine ∧ ∀ p, H p = none → Q (.ref p) (upd H p (.lst ys))) ∨
  ((Ite K a).go i H ∧ ys.length < sizeLine ∧ ∀ x H', (Ite K a).yld i H x H' → g x σ H' fun σ2 H2 => tt σ2 H2 fun b H3 => if b = true then te σ2 H3 fun y H4 => ∃ m', m' < m ∧ W (i + 1) m' (ys ++ [y]) σ2 H4 else ∃ m', m' < m ∧ W (i + 1) m' ys σ2 H3)
theorem tCompE_eq {k : Nat} {js : List Nat} {t : TE} : tComp k js (iEnum K (tCons t tNil)) g tt te σ H Q = t σ H (fun x H1 => compE K g tt te (up k js σ) Q x H1) := rfl
end
end L2

set_option linter.all false
set_option maxRecDepth 100000
set_option maxHeartbeats 4000000
namespace L2
open PySem PySem.Spec PyProof.Rows

abbrev FZ (o : Obj) : HO := .frz o (.ext fun _ => True)
open Classical in
noncomputable def hid (cl : List (Str × Addr)) (H : Hp) : Hp := fun b => if ∃ x, cl.lookup x = some b then none else H b
open Classical in
noncomputable def back (cl : List (Str × Addr)) (H H1 : Hp) : Hp := fun b => if ∃ x, cl.lookup x = some b then H b else H1 b
def startC (N : List Str) (vs cs : List V) : St := vs.map some ++ (List.replicate (N.length - vs.length - cs.length) none ++ cs.map some)
def cxClo (P : Program) (w : World) (K : PySem.W.Frag) (mg : Str → Option Value) (base : Heap) (N : List Str) (qual : Str) (scope : Scope) (f : Addr) (cd : Value) (cl : List (Str × Addr)) (A : Around) (outer : List Env) (s : Shared) (H : Hp) : Cx where
  prog := P
  w := w
  K := K
  mg := mg
  base := base
  A := A.deeper (PySem.W.envX qual scope s.heap.objs.size f cd cl)
  N := N
  s₀ := s
  H₀ := H
  env := PySem.W.envX qual scope s.heap.objs.size f cd cl
  outer := outer
  stack := PySem.W.envX qual scope s.heap.objs.size f cd cl :: outer
  ex := []
  calm := true
  fn := fun _ => false
  pn := []
  xe := fun _ _ => False
section
variable {P : Program} {w : World} {K : PySem.W.Frag} {mg : Str → Option Value} {base : Heap} {A : Around} {outer : List Env} {s : Shared} {H : Hp} {g : Addr} {iname iq : Str} {ip : Arguments} {ib : List Stmt} {isc : Scope} {N ps fr : List Str} {cs vs : List V} {us : List Value} {cl : List (Str × Addr)} {k : Nat}
end

def tCallV (r : V → List V → Hp → VK → Prop) (ta : TE) (t : TA) : TE := fun σ H Q => ta σ H fun f H1 => (∃ g o, f = .ref g ∧ H1 g = some (FZ o) ∧ ∃ fd, o.data = .func fd) ∧ t σ H1 fun vs H2 => r f vs H2 Q
end L2

set_option linter.all false
set_option maxRecDepth 100000
set_option maxHeartbeats 4000000
namespace L2
open PySem PySem.Spec PyProof.Rows
section
variable {X : Cx} {pins : List (Addr × Obj)} {σ : St} {H : Hp} {s : Shared}
end
end L2

set_option linter.all false
set_option maxRecDepth 100000
set_option maxHeartbeats 4000000
namespace L2
open PySem PySem.Spec PyProof.Rows
theorem cx_cloK {P : Program} {w : World} {K : PySem.W.Frag} {mg : Str → Option Value} {base : Heap} {N : List Str} {qual : Str} {scope : Scope} {f : Addr} {cd : Value} {cl : List (Str × Addr)} {A : Around} {outer : List Env} {s : Shared} {H : Hp} : (cxClo P w K mg base N qual scope f cd cl A outer s H).K = K := rfl
end L2

set_option Elab.async false
set_option linter.all false
set_option maxRecDepth 100000
set_option maxHeartbeats 4000000

namespace L2
open PySem PySem.Spec PyProof.Rows
section
variable {prog : Program} {w : World} {A : Around} {R : Result → Shared → Prop} {I : Addr} {fp wr : List Addr} {n : Nat} {P : Nat → Value → Prop} {St : Nat → Heap → Prop}
end
section
variable {prog : Program} {w : World} {A : Around} {E : Value → Shared → Prop} {s : Shared} {l : Addr}
end
/-- the greatest of a list, d for none -/
def maxD (d : Int) : List Int → Int
  | [] => d
  | x :: r => r.foldl (fun m y => if m < y then y else m) x
section
variable {X : Cx} {e d : Expr} {te td : TE} {p pos : Pos} {kpos : Pos}
/-- max(e, default=d), e a list of ints -/
def tMaxD (K : PySem.W.Frag) (te td : TE) : TE := fun σ H Q => te σ H fun x H1 => td σ H1 fun y H2 => ∃ a ns dd, x = .ref a ∧ y = .int dd ∧ SqL K H2 a (ns.map V.int) ∧ Q (.int (maxD dd ns)) H2
end
end L2

set_option linter.all false
set_option maxRecDepth 100000
set_option maxHeartbeats 4000000
namespace L2
open PySem PySem.Spec PyProof.Rows
theorem lkc {k k' : Str} {v : V} {r : List (Str × V)} : List.lookup k ((k', v) :: r) = if k = k' then some v else List.lookup k r := by
  rw [List.lookup_cons]
  by_cases h : k = k'
  · subst h; simp
  · have : (k == k') = false := by simpa using h
    rw [this, if_neg h]
section
variable {K : PySem.W.Frag} {f : Str} {a C : Addr} {fl : List (Str × V)} {v : V} {H : Hp}
end
def augA (K : PySem.W.Frag) (tv : TE) (rd : V → V → Hp → VK → Prop) (f : Str) (D : Ends) (σ : St) (x : V) (H1 : Hp) : Prop := ∃ a C dx fs v, x = .ref a ∧ H1 a = some (.ins C dx fs) ∧ Cls K C ∧ NoAttr K C f ∧ fs.lookup f = some v ∧
  tv σ H1 fun y H2 => rd v y H2 fun z H3 => ∃ dx' fs', H3 a = some (.ins C dx' fs') ∧ fs'.length < 1000 ∧ D.nx σ (upd H3 a (.ins C dx' (putF f z fs')))
theorem sFldAug_eq {K : PySem.W.Frag} {ta tv : TE} {rd : V → V → Hp → VK → Prop} {f : Str} {D : Ends} {σ : St} {H : Hp} : sFldAug K ta tv rd f D σ H = ta σ H (fun x H1 => augA K tv rd f D σ x H1) := rfl
end L2


set_option linter.all false
set_option maxRecDepth 100000
set_option maxHeartbeats 4000000
namespace L2
open PySem PySem.Spec PyProof.Rows
section
variable {X : Cx}
end
end L2

set_option linter.all false
set_option maxRecDepth 100000
set_option maxHeartbeats 4000000
namespace PySem
namespace F
end F
section
variable {prog : Program} {w : World} {A : Around} {s : Shared} {R : Result → Shared → Prop}
variable {I : Addr} {fp wr : List Addr} {G : Array GenState → Array GenState → Prop} {n : Nat} {P : Nat → Value → Prop} {St : Nat → Shared → Prop}
end
section
variable {prog : Program} {w : World} {A : Around} {E : Value → Shared → Prop} {s : Shared}
variable {I : Addr} {fp wr : List Addr} {G : Array GenState → Array GenState → Prop} {n : Nat} {P : Nat → Value → Prop} {St : Nat → Shared → Prop}
end
end PySem
namespace L2
open PySem PySem.Spec PyProof.Rows
/-- list(reversed(l)) -/
def tRevL (K : PySem.W.Frag) (t : TA) : TE := fun σ H Q => t σ H fun vs H1 => ∃ (l : Addr) (ys : List V), vs = [.ref l] ∧ SqL K H1 l ys ∧ ∀ r, H1 r = none → Q (.ref r) (upd H1 r (.lst ys.reverse))
section
variable {X : Cx} {e : Expr} {ta : TA} {p p2 pos pos2 : Pos}
end
theorem neD_refl {K : PySem.W.Frag} {H : Hp} {x y : V} {d : PyData} {Q : VK} (hx : Dp K H d x) (hy : Dp K H d y) (hc : d.canLay0 = true) (hd : d.depth ≤ 64) (q : Q (.bl false) H) : rNeD K x y H Q :=
  ⟨d, d, hx, hy, hc, hc, hd, by rw [PySem.SeqAt.eqv_refl d hc]; exact q⟩
def compR2 (g : TG) (tt : TT) (te : TE) (σ0 : St) (Q : VK) (x y : V) (H1 : Hp) : Prop := ∃ i j : Int, [x, y] = [.int i, .int j] ∧ (-(2 ^ 62) ≤ i ∧ i < 2 ^ 62 ∧ -(2 ^ 62) ≤ j ∧ j < 2 ^ 62) ∧ compR i g tt te σ0 Q (j - i).toNat H1
theorem tCompR2_eq {k : Nat} {js : List Nat} {t u : TE} {g : TG} {tt : TT} {te : TE} {σ : St} {H : Hp} {Q : VK} : tComp k js (iRng2 (tCons t (tCons u tNil))) g tt te σ H Q = t σ H (fun x H1 => u σ H1 fun y H2 => compR2 g tt te (up k js σ) Q x y H2) := rfl
section
variable {X : Cx}
end
end L2

set_option linter.all false
set_option maxRecDepth 100000
set_option maxHeartbeats 4000000
namespace L2
open PySem PySem.Spec PyProof.Rows
def Itz (K : PySem.W.Frag) (a b : Addr) : It :=
  ⟨fun i H => ∃ xs x ys y, SqL K H a xs ∧ xs[i]? = some x ∧ SqL K H b ys ∧ ys[i]? = some y, fun i H v H' => ∃ p x y, H p = none ∧ (∀ xs, SqL K H a xs → xs[i]? = some x) ∧ (∀ ys, SqL K H b ys → ys[i]? = some y) ∧ H' = upd H p (.tup [x, y]) ∧ v = .ref p, fun i H => ∃ xs ys, SqL K H a xs ∧ SqL K H b ys ∧ (xs.length ≤ i ∨ ys.length ≤ i)⟩
section
variable {X : Cx}
def iZip (K : PySem.W.Frag) (ta : TA) : TI := fun σ H R => ta σ H fun vs H1 => ∃ a b, vs = [.ref a, .ref b] ∧ (∃ xs, SqL K H1 a xs) ∧ (∃ xs, SqL K H1 b xs) ∧ R (Itz K a b) H1
end
section
variable {K : PySem.W.Frag} {a b : Addr} {xs ys : List V} {g : TG} {tb : TS} {D : Ends} {σ : St} {H : Hp}
def forZ (K : PySem.W.Frag) (g : TG) (tb : TS) (D : Ends) (σ : St) (x y : V) (H1 : Hp) : Prop := ∃ a b, [x, y] = [.ref a, .ref b] ∧ (∃ xs, SqL K H1 a xs) ∧ (∃ xs, SqL K H1 b xs) ∧ ∃ W : Nat → Nat → St → Hp → Prop, (∃ m, W 0 m σ H1) ∧ ∀ i m σ H, W i m σ H →
  ((Itz K a b).stop i H ∧ D.nx σ H) ∨ ((Itz K a b).go i H ∧ ∃ N : St → Hp → Prop, (∀ σ' H', N σ' H' → ∃ m', m' < m ∧ W (i + 1) m' σ' H') ∧ ∀ x H', (Itz K a b).yld i H x H' → g x σ H' fun σ2 H2 => tb { D with nx := N, ct := N, bk := D.nx } σ2 H2)
theorem tForZ_eq {t u : TE} : tFor (iZip K (tCons t (tCons u tNil))) g tb D σ H = t σ H (fun x H1 => u σ H1 fun y H2 => forZ K g tb D σ x y H2) := rfl
end
section
open PySem.SeqAt
open PySem.AutoSeq1 (wpAny_loadPart')
open PySem.MeetsSeq PySem.MeetsSeq2 PySem.MeetsSeq3 HT
end
section
variable {prog : Program} {w : World} {A : Around} {E : Value → Shared → Prop} {s : Shared}
end
section
variable {X : Cx}
end
end L2

set_option linter.all false
set_option maxRecDepth 100000
set_option maxHeartbeats 4000000
namespace L2
open PySem PySem.Spec PyProof.Rows
/-- an exception of the class cls flies at e: what is known (in H, or there ahead) and is no frame of l stays whatever becomes of it -/
def Fly (l : List Env) (H : Hp) (h0 : Heap) (e : Addr) (cls : Value) (h : Heap) : Prop :=
  ∃ B a0, Heap.FlyingW B l e cls a0 h ∧ H e = none ∧ h0.get? e = none ∧ ∀ b o, h.get? b = some o → b ∉ frs l → (H b ≠ none ∨ ∃ o0, h0.get? b = some o0) → B.get? b = some o
/-- a call's end by an exception -/
def CXE (P : Program) (w : World) : CXT := fun outer H s E e s' =>
  ∃ ea cls H', e = .ref ea ∧ s'.os = s.os ∧ AllBare s'.gens ∧ Un (frs outer) [] H H' s.heap s'.heap ∧ HOk P w H' s'.heap ∧ Fly outer H' s.heap ea cls s'.heap ∧ E cls none H'
theorem passE {P : Program} {w : World} {X : Cx} : Passes (CXE P w) X E0 := fun _ _ _ _ _ _ _ ⟨_, _, _, _, _, _, _, _, _, h⟩ => h.elim
section
variable {P : Program} {w : World} {l : List Env} {H H' : Hp} {h h1 h2 B base : Heap}
theorem Un.fly (u : Un (frs l) [] H H' h h1) (hB : ∀ b o, h1.get? b = some o → b ∉ frs l → (H' b ≠ none ∨ ∃ o0, h.get? b = some o0) → B.get? b = some o) (st : B.StaysIn h2) (up : h1.UpToSlots h2) (hf : h1.FunFrames base l) : Un (frs l) [] H H' h h2 where
  keep b o e n hb hx := st b o (hB b o (u.keep b o e n hb hx) hb (.inr ⟨o, e⟩))
  slot b o e n hb hx := by
    obtain ⟨sl, e1⟩ := u.slot b o e n hb hx
    obtain ⟨_, o', ho', hd⟩ := hf.mem hb
    rw [e1] at ho'
    cases ho'
    obtain ⟨sl2, e2⟩ := up b _ e1 hd
    exact ⟨sl2, e2⟩
  free := u.free
  there b o e hx := by
    obtain ⟨o', e1⟩ := u.there b o e hx
    by_cases hb : b ∈ frs l
    · obtain ⟨_, o2, ho2, hd⟩ := hf.mem hb
      rw [e1] at ho2
      cases ho2
      obtain ⟨sl, e2⟩ := up b _ e1 hd
      exact ⟨_, e2⟩
    · exact ⟨o', st b o' (hB b o' e1 hb (.inr ⟨o, e⟩))⟩
  tups := u.tups
  frzs := u.frzs
  tbls := u.tbls
theorem HOk.fly (x : HOk P w H' h1) (hB : ∀ b o, h1.get? b = some o → b ∉ frs l → (H' b ≠ none ∨ ∃ o0, h.get? b = some o0) → B.get? b = some o) (st : B.StaysIn h2) (hn : ∀ b ∈ frs l, H' b = none) : HOk P w H' h2 := fun a o e => by
  have k : ∀ b o, H' b = some o → b ∉ frs l := fun b o z m => by rw [hn b m] at z; cases z
  refine (x a o e).stay (fun b v hc q => ?_) (fun _ q => q) fun _ _ q => q
  rcases hc with z | z
  · exact st b v (hB b v q (by rw [z]; exact k _ _ e) (.inl (by rw [z, e]; exact fun y => nomatch y)))
  · exact st b v (hB b v q (k _ _ z) (.inl (by rw [z]; exact fun y => nomatch y)))
/-- the frames are not in the abstract heap behind a call -/
theorem Inv.stkFree2 {X : Cx} {pins : List (Addr × Obj)} {σ : St} {s : Shared} (I : Inv X pins σ H s) (u : Un (frs X.stack) [] H H' s.heap h1) : ∀ b ∈ frs X.stack, H' b = none := fun b hb => by
  obtain ⟨_, o, ho, _⟩ := I.stack.mem hb
  exact u.free b o ho (I.stkFree b hb) List.not_mem_nil
end
section
variable {P : Program} {w : World} {K : PySem.W.Frag} {mg : Str → Option Value} {base : Heap} {N : List Str} {qual : Str} {scope : Scope} {f : Addr} {cd : Value} {A : Around} {outer : List Env} {s : Shared} {H : Hp} {E : XK}
/-- an exception has left the def -/
theorem cxe_of {pins : List (Addr × Obj)} {σ : St} {H1 H' : Hp} {s1 s2 : Shared} {hm h' B B' : Heap} {ea : Addr} {cls a0 : Value} (I : Inv (cxOf (CXE P w) P w K mg base N qual scope f cd A outer s H E) pins σ H1 s1)
    (un : Un (frs (cxOf (CXE P w) P w K mg base N qual scope f cd A outer s H E).stack) [] H1 H' s1.heap hm) (hok : HOk P w H' hm)
    (hB : ∀ b o, hm.get? b = some o → b ∉ frs (cxOf (CXE P w) P w K mg base N qual scope f cd A outer s H E).stack → (H' b ≠ none ∨ ∃ o0, s1.heap.get? b = some o0) → B.get? b = some o)
    (ff : hm.FunFrames B' (cxOf (CXE P w) P w K mg base N qual scope f cd A outer s H E).stack) (up : hm.UpToSlots h') (fl : Heap.FlyingW B outer ea cls a0 h') (hout : H' ea = none) (hnew : s1.heap.get? ea = none) (os : s2.os = s1.os) (bare : AllBare s2.gens) (hE : E cls none H') :
    CXE P w outer H s E (.ref ea) { s2 with heap := h' } := by
  have fr := I.stkFree2 un
  have un2 := un.fly hB fl.1 up ff
  have hok2 := hok.fly hB fl.1 fr
  have I2 := I.call' (s' := { s2 with heap := h' }) os un2 hok2 bare fun b z => nomatch z
  have old : ∀ b o, s.heap.get? b = some o → ∃ o1, s1.heap.get? b = some o1 := fun b o q => I.base.there b o q (fun z => nomatch z)
  refine ⟨ea, cls, H', rfl, I2.os, bare, I2.base, hok2, ⟨B, a0, fl, hout, ?_, fun b o ho hb hor => ?_⟩, hE⟩
  · cases q : s.heap.get? ea with
    | none => rfl
    | some o =>
      obtain ⟨o1, h1⟩ := old ea o q
      rw [hnew] at h1; cases h1
  · have hb2 : b ∉ frs (cxOf (CXE P w) P w K mg base N qual scope f cd A outer s H E).stack := fun m => by
      rcases List.mem_cons.mp (I2.stkSub b m) with z | z
      · rcases hor with y | ⟨o0, y⟩
        · exact y (by rw [z]; exact I2.free)
        · exact absurd (Nat.lt_of_lt_of_le (Heap.lt_size y) I.ok.above) (by rw [z]; exact Nat.lt_irrefl _)
      · exact hb z
    have : ∃ o1, hm.get? b = some o1 ∧ (H' b ≠ none ∨ ∃ o0, s1.heap.get? b = some o0) := by
      rcases hor with y | ⟨o0, y⟩
      · obtain ⟨u, hu⟩ := Option.ne_none_iff_exists'.mp y
        have := (hok b u hu).lt
        cases z : hm.get? b with
        | some o1 => exact ⟨o1, rfl, .inl y⟩
        | none =>
          exfalso
          have st2 := hok b u hu
          cases u with
          | lst xs => obtain ⟨_, _, _, _, e⟩ := st2; rw [z] at e; cases e
          | tup xs => obtain ⟨_, _, _, ob, e, _⟩ := st2; rw [z] at e; cases e
          | dK kvs => obtain ⟨_, _, _, _, ob, es, ep, e, _⟩ := st2; rw [z] at e; cases e
          | dT kvs => obtain ⟨_, _, _, _, ob, es, ep, e, _⟩ := st2; rw [z] at e; cases e
          | set S n => obtain ⟨ob, es, ep, t, e, _⟩ := st2; rw [z] at e; cases e
          | ins C dx fs => obtain ⟨_, _, _, e, _⟩ := st2; rw [z] at e; cases e
          | own y => obtain ⟨_, e⟩ := st2; rw [z] at e; cases e
          | xd fs => obtain ⟨_, ⟨_, _, _, e, _⟩, _⟩ := st2; rw [z] at e; cases e
          | rng lo hi => obtain ⟨_, _, _, e⟩ := st2; rw [z] at e; cases e
          | frz ob u => obtain ⟨e, _⟩ := st2; rw [z] at e; cases e
          | tbl ps => have e : hm.get? b = some _ := st2; rw [z] at e; cases e
          | met f y => have e : hm.get? b = some _ := st2; rw [z] at e; cases e
          | ext φ => obtain ⟨_, ⟨_, e⟩, _⟩ := st2; rw [z] at e; cases e
      · obtain ⟨o1, h1⟩ := old b o0 y
        obtain ⟨o2, h2⟩ := un.there b o1 h1 (fun z => nomatch z)
        exact ⟨o2, h2, .inr ⟨o1, h1⟩⟩
    obtain ⟨o1, q1, q2⟩ := this
    have q3 := hB b o1 q1 hb2 q2
    have q4 := fl.1 b o1 q3
    rw [ho] at q4
    cases q4
    exact q3
/-- a callee's exception passes through -/
theorem passX : Passes (CXE P w) (cxOf (CXE P w) P w K mg base N qual scope f cd A outer s H E) E := by
  intro pins σ H1 s1 e s2 I hc
  obtain ⟨ea, cls, H', rfl, os, bare, un, hok, ⟨B, a0, fl, hout, hnew, hB⟩, hE⟩ := hc
  refine wpAny_leaves_onW (base := B) I.ok.frames rfl fl fun h' fl' up => ?_
  exact cxe_of I un hok hB fl.2.2.1 up fl' hout hnew os bare hE
/-- an exception raised here -/
theorem raisedX {pins : List (Addr × Obj)} {σ : St} {H1 : Hp} {s1 : Shared} {h1 : Heap} {ea : Addr} {cls : Value} (I : Inv (cxOf (CXE P w) P w K mg base N qual scope f cd A outer s H E) pins σ H1 s1) (hx : Heap.MadeExcOf s1.heap h1 ea cls []) (hE : E cls none H1) :
    (cxOf (CXE P w) P w K mg base N qual scope f cd A outer s H E).xe (.ref ea) { s1 with heap := h1 } := by
  have hin : ∀ env ∈ (cxOf (CXE P w) P w K mg base N qual scope f cd A outer s H E).stack, ∀ b, env.frame = some b → b ∈ frs (cxOf (CXE P w) P w K mg base N qual scope f cd A outer s H E).stack := fun env he b hb => List.mem_filterMap.mpr ⟨env, he, hb⟩
  have nea : H1 ea = none := by
    cases q : H1 ea with
    | none => rfl
    | some o =>
      have st := Un.refl (fs := []) (ex := []) (H := H1) (h := s1.heap)
      exfalso
      have x := I.hok ea o q
      have e := hx.new
      cases o with
      | lst xs => obtain ⟨_, _, _, _, z⟩ := x; rw [e] at z; cases z
      | tup xs => obtain ⟨_, _, _, ob, z, _⟩ := x; rw [e] at z; cases z
      | dK kvs => obtain ⟨_, _, _, _, ob, es, ep, z, _⟩ := x; rw [e] at z; cases z
      | dT kvs => obtain ⟨_, _, _, _, ob, es, ep, z, _⟩ := x; rw [e] at z; cases z
      | set S n => obtain ⟨ob, es, ep, t, z, _⟩ := x; rw [e] at z; cases z
      | ins C dx fs => obtain ⟨_, _, _, z, _⟩ := x; rw [e] at z; cases z
      | own y => obtain ⟨_, z⟩ := x; rw [e] at z; cases z
      | xd fs => obtain ⟨_, ⟨_, _, _, z, _⟩, _⟩ := x; rw [e] at z; cases z
      | rng lo hi => obtain ⟨_, _, _, z⟩ := x; rw [e] at z; cases z
      | frz ob u => obtain ⟨z, _⟩ := x; rw [e] at z; cases z
      | tbl ps => have z : s1.heap.get? ea = some _ := x; rw [e] at z; cases z
      | met f y => have z : s1.heap.get? ea = some _ := x; rw [e] at z; cases z
      | ext φ => obtain ⟨_, ⟨_, z⟩, _⟩ := x; rw [e] at z; cases z
  refine wpAny_leaves_madeW (base := PySem.W.hideAll s1.heap (frs (cxOf (CXE P w) P w K mg base N qual scope f cd A outer s H E).stack)) (h := s1.heap) I.ok.frames rfl (fun b o q => PySem.W.of_hideAll _ q) (PySem.W.funFrames_hide I.stack hin) hx fun h' t fl _ _ up => ?_
  exact cxe_of (s2 := { s1 with heap := h1 }) I Un.refl I.hok (fun b o q nb _ => PySem.W.hideAll_get _ q nb) I.stack ((Heap.UpToSlots.of_keeps hx.keeps).trans up) fl nea hx.new rfl I.bare hE
end
end L2

set_option linter.all false
set_option maxRecDepth 100000
set_option maxHeartbeats 4000000
namespace L2
open PySem PySem.Spec PySem.W PySem.Calls PyProof.Rows Builtin.Getset_descriptor Builtin.ObjectAttr
/-- what is asked of an exception's class -/
structure ExcC (K : PySem.W.Frag) (C : Addr) : Prop where
  ga : PySem.W.findIn K (.ref C) "__getattribute__" = some (some (.builtin "BaseException.__getattribute__"))
  gt : PySem.W.findIn K (.ref C) "__getattr__" = some none
  ca : PySem.W.findIn K (.ref C) "__class__" = some (some (.builtin "object.__class__"))
  sg : PySem.W.specialIn K (.builtin "object.__class__") "__get__" = some (some (.builtin "getset_descriptor.__get__"))
  tk : PySem.W.takesIn K (.builtin "object.__class__") = some true
  mo : PySem.W.mroIn K C (.type "object") = some true
  mb : PySem.W.mroIn K C (.type "BaseException") = some true
section
variable {prog : Program} {w : World} {A : Around} {E : Value → Shared → Prop} {K : PySem.W.Frag} {a C : Addr} {o : Obj} {h : Heap} {g : Array GenState} {d : Drawn} {t : Nat} {os : OsState}
theorem exc_ty {M : Model} (hx : h.get? a = some o) (hc : o.cls = .ref C) : Looks M h (typeOf (.ref a)) (.ref C) := hc ▸ (Looks.ld hx).andThen .now
theorem exc_get {R : Result → Shared → Prop} (X : K.In h) (F : ExcC K C) (hx : h.get? a = some o) (hc : o.cls = .ref C) (hq : R (.ok (.ret (.ref C))) ⟨h, g, d, t, os⟩) :
    codeAny (model prog w) A (.call (.builtin "getset_descriptor.__get__") ⟨[.builtin "object.__class__", .ref a, .ref C], []⟩) R ⟨h, g, d, t, os⟩ := by
  have y0 := exc_ty (M := model prog w) hx hc
  have y1 := looks_mroIn (M := model prog w) X F.mo
  refine codeAny_call_builtin KF.slot_gs.plain KF.entry_gs (KF.slot_gs.check _ _ _ _ _ _ _ _ KF.type_class (KF.args_gs _ _ _) ?_)
  simp only [Builtin.«getset_descriptor.__get__», descrGet]
  rw [dga_obj]
  refine wpAny_bind (wpAny_pure ?_)
  simp only [descrGetter, descrCheckInstance, descrNameAndClass, isInstance, KF.owner_class]
  repeat lk
  refine ⟨Code.quiet_builtin _ (by decide +kernel), codeAny_builtin KF.entry_class ?_⟩
  simp only [Builtin.«object.__class__», shownTypeOf]
  repeat lk
  exact hq
theorem exc_ga_check {M : Model} {nameV : Value} {Q : Unit → Shared → Prop} (X : K.In h) (F : ExcC K C) (hx : h.get? a = some o) (hc : o.cls = .ref C) (hq : Q () ⟨h, g, d, t, os⟩) :
    wpAny M A (checkBuiltinCall "BaseException.__getattribute__" ⟨[.ref a, nameV], []⟩) Q E ⟨h, g, d, t, os⟩ := by
  have y0 := exc_ty (M := M) hx hc
  have y1 := looks_mroIn (M := M) X F.mb
  have k1 : builtinKind "BaseException.__getattribute__" = some .slot := by decide +kernel
  have k2 : splitId "BaseException.__getattribute__" = some ("BaseException", "__getattribute__") := by decide +kernel
  have k3 := PySem.F.args_bexc_ga (.ref a) nameV
  simp only [checkBuiltinCall, k1, k2]
  refine wpAny_bind ?_
  unfold isInstance
  repeat lk
  exact hq
/-- type(e), by the attribute -/
theorem exc_class {Q : Option Value → Shared → Prop} (X : K.In h) (F : ExcC K C) (hx : h.get? a = some o) (hc : o.cls = .ref C) (hq : Q (some (.ref C)) ⟨h, g, d, t + 1, os⟩) :
    wpAny (model prog w) A (getAttr? (.ref a) "__class__") Q E ⟨h, g, d, t, os⟩ := by
  have y0 := exc_ty (M := model prog w) hx hc
  have y1 := looks_findIn (M := model prog w) X F.ga
  have y2 := looks_findIn (M := model prog w) X F.gt
  have y3 := looks_findIn (M := model prog w) X F.ca
  have y4 := looks_specialIn (M := model prog w) X F.sg
  have y5 := looks_takesIn (M := model prog w) X F.tk
  have bd := PySem.F.attr_ValueError.ga.bind (.ref a)
  simp only [getAttr?, getAttrBy?, getAttrBy]
  refine wpAny_bind (wpAny_mkText (wpAny_bind (wpAny_attempt (wpAny_holding (wpAny_bind (y0.at (wpAny_bind (y1.at ?_))))))))
  show wpAny _ _ (getAttrByItsOwn _ _ _ _ _ _) _ _ _
  unfold getAttrByItsOwn
  refine wpAny_bind ?_
  show wpAny _ _ (typeLookup (.ref C) "__getattr__") _ _ _
  refine y2.at (wpAny_bind (wpAny_attempt (wpAny_holding ?_)))
  show wpAny _ _ (boundAndCalled _ _ _) _ _ _
  unfold boundAndCalled
  rw [bd]
  refine wpAny_bind (wpAny_pure (wpAny_call (codeAny_call_builtin PySem.F.attr_ValueError.ga.plain PySem.F.entry_bexc_ga (exc_ga_check X F hx hc ?_))))
  unfold Builtin.«object.__getattribute__»
  refine wpAny_bind (wpAny_pure (wpAny_bind (wpAny_pure (wpAny_bind (y0.at (wpAny_bind ?_))))))
  unfold find
  refine wpAny_bind (y3.at (wpAny_bind ?_))
  show wpAny _ _ (specialOf (.builtin "object.__class__") "__get__") _ _ _
  refine y4.at (wpAny_bind ?_)
  unfold dataDescriptor?
  refine wpAny_bind (y5.at ?_)
  rw [if_pos rfl]
  refine wpAny_pure (wpAny_bind (wpAny_rule (wpAny_pure ?_)))
  show wpAny _ _ (holding [_] (call (.builtin "getset_descriptor.__get__") [.builtin "object.__class__", .ref a, .ref C]) >>= ret) _ _ _
  refine wpAny_bind (wpAny_holding (wpAny_call (exc_get X F hx hc ?_)))
  exact wpAny_pure (handed_on rfl (wpAny_pure hq))
theorem kitx_exc {D : Addr} (F : ExcC K D) (hdct : hasDictIn K D = true) : KitX K (.ref a) (.ref D) (fun h => ∃ o, h.get? a = some o ∧ o.cls = .ref D) where
  ty := fun _ _ _ ⟨_, h1, h2⟩ => exc_ty h1 h2
  it := fun _ _ X _ => by
    obtain ⟨cdD, hcD, _⟩ := any_some hdct
    unfold clsIn at hcD
    split at hcD
    · rename_i z
      intro A1 Q1 E1 s1 k1 q1
      simp only [isType, loadHead]
      exact wpAny_bind (wpAny_loadPart (k1 _ _ (X _ _ z)) (wpAny_pure q1))
    · cases hcD
  ne := fun h tp dd its n sl X htp => by
    obtain ⟨cdD, hcD, _⟩ := any_some hdct
    refine Bool.eq_false_iff.mpr fun q => ?_
    cases Value.ref.inj (beq_iff_eq.mp q)
    unfold clsIn at hcD
    split at hcD
    · rename_i z
      have y := (X _ _ z).symm.trans htp
      cases y
    · cases hcD
  ca := fun {_ _ _ _ _ s} X ⟨_, h1, h2⟩ k => by
    obtain ⟨hh, g, d, t, os⟩ := s
    exact exc_class X F h1 h2 k
end
/-- a caught exception, as it lies in the abstract heap -/
def excO (a : Addr) (cls : Value) : HO := .ext fun h => ∃ o, h.get? a = some o ∧ o.cls = cls
section
variable {X : Cx}
/-- isinstance(e, c) of a caught exception e of the class at C -/
theorem call_isExc : CallR X (.builtin "isinstance") (fun xs H Q => ∃ a C c b, xs = [.ref a, c] ∧ isCls c = true ∧ H a = some (excO a (.ref C)) ∧ ExcC X.K C ∧ PySem.W.hasDictIn X.K C = true ∧ PySem.W.kitOne X.K (.ref C) (cval c) = some b ∧ Q (.bl b) H) := by
  intro pins s σ H xs us Q I r h
  obtain ⟨a, C, c, b, rfl, hc, ha, F, hd, e, q⟩ := h
  obtain ⟨u, w', rfl, r1, r2⟩ := vals2 r
  have e2 : w' = cval c := by
    cases c <;> first | (cases hc; done) | exact r2
  subst e2
  cases (show u = Value.ref a from r1)
  obtain ⟨z, _, _⟩ := (show ObjOk X.prog X.w H s.heap a (excO a (.ref C)) from I.hok a _ ha)
  exact kia_one (kitx_exc F hd) I.kIn z e (fun z => nomatch z) fun tk => ⟨.bl b, H, I.tok tk, rfl, q⟩
end
end L2

set_option linter.all false
set_option maxRecDepth 100000
set_option maxHeartbeats 4000000
namespace L2
open PySem PySem.Spec PySem.W PySem.Calls PyProof.Rows
theorem boot_ValueError : bootBuiltins "ValueError" = some (.type "ValueError") := by decide +kernel
theorem call_isExcK {X : Cx} (K : PySem.W.Frag) (h : X.K = K := by rfl) : CallR X (.builtin "isinstance") (fun xs H Q => ∃ a C c b, xs = [.ref a, c] ∧ isCls c = true ∧ H a = some (excO a (.ref C)) ∧ ExcC K C ∧ PySem.W.hasDictIn K C = true ∧ PySem.W.kitOne K (.ref C) (cval c) = some b ∧ Q (.bl b) H) := h ▸ call_isExc
section
variable {X : Cx}
theorem op_isB' : OpR X (compareOp .Is) (fun x y H Q => ∃ b c, x = .bl b ∧ y = .bl c ∧ Q (.bl (b == c)) H) := by
  intro pins s σ H x y v u Q I rx ry h
  obtain ⟨b, c, rfl, rfl, q⟩ := h
  cases rx
  cases ry
  exact is_bool (fin_bl I q rfl)
end
abbrev bmV : List Value := [.type "ValueError", .type "Exception", .type "BaseException", .type "object"]
theorem exc_obj {K : PySem.W.Frag} {h : Heap} {C : Addr} {bmB : List Value} {newId : String} (X : K.In h) (q : excIn K C bmB newId = true) : ∃ bm N nm qn bs hdct sn sub ab col dd k0 k1 k2 k3 k5 mN,
    h.get? C = some (excClassObj nm qn C N bs bm hdct sn sub ab col dd k0 k1 k2 k3 k5 newId) ∧ h.Ns N mN ∧ mN "__init__" = none ∧ OwnTail h bmB bm := by
  unfold excIn at q
  split at q
  next dd cd sl ho =>
    split at q
    next C1 bm k0 k1 k2 k3 n1 k5 hm hs =>
      simp only [Bool.and_eq_true, beq_iff_eq, Bool.not_eq_true'] at q
      obtain ⟨⟨⟨⟨⟨y1, y2⟩, y3⟩, y4⟩, y5⟩, y6⟩ := q
      subst y1 y2
      obtain ⟨nm, bs, mro, ns, qn, hd, sn, sub, ab, col, del⟩ := cd
      dsimp only at hm y3 y5 y6
      subst hm y3
      have z : sl = #[k0, k1, k2, k3, some (.builtin n1), k5] := by
        cases sl
        simp only at hs
        rw [hs]
      subst z
      exact ⟨bm, ns, nm, qn, bs, hd, sn, sub, ab, col, dd, k0, k1, k2, k3, k5, _, X _ _ ho, .of_isNs (isNs_of_in X y5), nsMap_none_of_in X y5 y6, tail_of_in X y4⟩
    next => cases q
  next => cases q
def tRaise (E : XK) (C : Addr) : TS := fun _ _ H => E (.ref C) none H
section
variable {P : Program} {w : World} {K : PySem.W.Frag} {mg : Str → Option Value} {base : Heap} {N : List Str} {qual : Str} {scope : Scope} {f : Addr} {cd : Value} {A : Around} {outer : List Env} {s : Shared} {H : Hp} {E : XK}
theorem ps_raise0 {x : Str} {C : Addr} {np cpos pos : Pos} (hq : excIn K C bmV "ValueError.__new__" = true) (hm : mg x = some (.ref C)) (hg : Gl (cxOf (CXE P w) P w K mg base N qual scope f cd A outer s H E) x) (hdb : (x == ("__debug__" : Str)) = false := by decide) :
    PS (cxOf (CXE P w) P w K mg base N qual scope f cd A outer s H E) (.Raise (some (.Call (.Name x np) [] [] cpos)) none pos) (tRaise E C) := by
  intro pins s1 σ H1 D I hE
  obtain ⟨bm, N', nm, qn, bs, hdct, sn, sub, ab, col, dd, k0, k1, k2, k3, k5, mN, hC, hN, hni, T⟩ := exc_obj I.kIn hq
  refine wpAny_Raise_call_subU (C := C) (N := N') (nm := nm) (q := qn) (bs := bs) (bm := bm) (hdct := hdct) (sn := sn) (sub := sub) (ab := ab) (col := col) (dd := dd) (k0 := k0) (k1 := k1) (k2 := k2) (k3 := k3) (k5 := k5) (mN := mN)
    PySem.F.excBase_ValueError PySem.F.excBase_ValueError.hasB PySem.F.excBase_ValueError (T.hasType PySem.F.excBase_ValueError.hasBase) (I.ok.hd rfl) rfl hni (ld_glob I hg hm ⟨rfl, ?_⟩ hdb)
  exact evalArgs_empty ⟨rfl, Nat.zero_le _, hC, hN, T, fun h' e hx => raisedX I hx hE⟩
theorem Fun.okX {x : Str} {st : Stmt} {fd : FuncData} {ps : List Str} {k : Nat} {sp : Sp} (F : Fun K x qual st f fd) (S : FnScope N ps (defScope st)) (len : ∀ vs H Q E, sp vs H Q E → vs.length = ps.length)
    (hbody : ∀ (cdv : Value) (A : Around) (outer : List Env) (s : Shared) (H : Hp) (vs : List V) (Q : VK) (E : XK), Room k (A.deeper (envOfC qual (defScope st) s.heap.objs.size f cdv)) → sp vs H Q E →
      ∃ t, PSs (cxOf (CXE P w) P w K mg base N qual (defScope st) f cdv A outer s H E) (defBody st) t ∧ t { nx := fun _ H' => Q .non H', rt := Q } (start N vs) H) : FnOk P w K mg base (CXE P w) (k + 1) f fd ps sp := by
  obtain ⟨oc, od, kV, doc, pm, an, cdv, ct, osl, rfl, lk, hcd⟩ := F.ex
  exact fn_of lk hcd S len fun A outer s H vs Q E hr hsp => hbody cdv A outer s H vs Q E hr hsp
end
theorem PS.nox {X : Cx} {st : Stmt} {t : TS} (h : PS X.nox st t) : PS X st t := fun pins s σ H D I hw =>
  wpAny_mono (h pins s σ H D (I.wish _) hw) (fun _ _ q => q.unwish) fun _ _ z => False.elim z
def PassesS (CX : CXT) (X : Cx) (E : St → XK) : Prop := ∀ (pins : List (Addr × Obj)) (σ : St) (H : Hp) (s : Shared) (e : Value) (s' : Shared), Inv X pins σ H s → CX X.stack H s (E σ) e s' → X.xe e s'
def tCallS (sp : Sp) (dvs : List V) (E : St → XK) (t : TA) : TE := fun σ H Q => t σ H fun vs H1 => sp (vs ++ dvs) H1 Q (E σ)
section
variable {X : Cx} {CX : CXT} {k : Nat} {f : Addr} {fd : FuncData} {ps : List Str} {sp : Sp} {dvs : List V} {ds : List Value} {E : St → XK} {x : Str} {p pos : Pos} {e : Expr} {es : List Expr} {t : TA}
theorem run_fnS {pins : List (Addr × Obj)} {σ : St} {H : Hp} {s : Shared} {Q : VK} {E : XK} {us : List Value} {vs : List V} (F : FnOk X.prog X.w X.K X.mg X.base CX k f fd ps sp) (hr : Room k X.A) (hb : Binds X.K fd ps ds) (hd : Vals dvs ds) (hx : ∀ e s', CX X.stack H s E e s' → X.xe e s')
    (I : Inv X pins σ H s) (r : Vals vs us) (h : sp (vs ++ dvs) H Q E) : wpAny (model X.prog X.w) X.A (call (.ref f) us) (EP X pins σ Q) X.xe s := by
  have r2 : Vals (vs ++ dvs) (us ++ ds) := r.append hd
  have hl : (us ++ ds).length = ps.length := by rw [← r2.length]; exact F.len _ _ _ _ h
  refine wpAny_call (codeAny_mono (F.run X.A X.stack s H ⟨us, []⟩ (us ++ ds) (vs ++ dvs) Q E hr I.env0 (hb s us I.kIn hl) r2 h) fun r s' hq => ?_)
  cases r with
  | error e => exact hx e s' hq
  | ok fl =>
    cases fl with
    | ret u => exact I.after hq
    | next => exact False.elim hq
    | brk => exact False.elim hq
    | cont => exact False.elim hq
theorem pe_fnS (F : Fn X.prog X.w X.K X.mg X.base CX x k ps sp) (hr : Room k X.A) (hg : Gl X x) (hx : PassesS CX X E)
    (ha : PA X (e :: es) t) (hdb : (x == ("__debug__" : Str)) = false := by decide) (he : starEach (e :: es) X.env = (false, eval e X.env) :: starEach es X.env := by rfl) (hpl : (backTo pos (starEach es X.env)).any (·.1) = false := by rfl) :
    PE X (.Call (.Name x p) (e :: es) [] pos) (tCallS sp [] E t) := by
  obtain ⟨f, fd, h1, h2, h3, h4⟩ := F.ex
  intro pins s σ H Q I h
  refine wpAny_Call_Name_kw (ld_glob I hg h4 ?_ hdb)
  refine PySem.W.callWith_K (h₀ := X.base) I.ok.mod.kin h3 (thn (ha pos pins s σ H _ I h) fun us s1 ⟨vs, H1, I1, r, q⟩ => ⟨I1.kIn, ?_⟩) he hpl
  exact run_fnS h1 hr h2 .nil (fun e s' z => hx pins σ H1 s1 e s' I1 z) I1 r q
end
abbrev Cx.tries (X : Cx) (pn : List (Addr × Obj)) (xe : Value → Shared → Prop) : Cx := { X with pn := pn, xe := xe }
abbrev Cx.handles (X : Cx) (e : Addr) : Cx := { X with A := X.A.mark (some (.ref e)), calm := false, xe := fun _ _ => False }
section
variable {X : Cx} {pins pins' : List (Addr × Obj)} {σ : St} {H : Hp} {s : Shared} {xe : Value → Shared → Prop} {e : Addr}
theorem Inv.toTry (I : Inv X pins σ H s) : Inv (X.tries (X.pn ++ pins) xe) [] σ H s :=
  ⟨⟨I.ok.mod, I.ok.kind, I.ok.glob, I.ok.blt, I.ok.above, I.ok.inj, I.ok.has, I.ok.cab, I.ok.hd, I.ok.frames, I.ok.stk, I.ok.exf, I.ok.bs, I.ok.bsz, I.ok.noex, I.ok.exfs, I.ok.funs, I.ok.frf⟩, I.os, I.bare, I.base, I.loc, I.cell, I.free, I.freeC, fun p hp => I.pin p (by simpa using hp), I.hok, I.len⟩
theorem Inv.ofTry (I : Inv (X.tries (X.pn ++ pins) xe) pins' σ H s) : Inv X pins σ H s :=
  ⟨⟨I.ok.mod, I.ok.kind, I.ok.glob, I.ok.blt, I.ok.above, I.ok.inj, I.ok.has, I.ok.cab, I.ok.hd, I.ok.frames, I.ok.stk, I.ok.exf, I.ok.bs, I.ok.bsz, I.ok.noex, I.ok.exfs, I.ok.funs, I.ok.frf⟩, I.os, I.bare, I.base, I.loc, I.cell, I.free, I.freeC, fun p hp => I.pin p (List.mem_append_left _ hp), I.hok, I.len⟩
theorem Inv.toH (I : Inv X pins σ H s) (e : Addr) : Inv (X.handles e) pins σ H s :=
  ⟨⟨I.ok.mod, I.ok.kind, I.ok.glob, I.ok.blt, I.ok.above, I.ok.inj, I.ok.has, I.ok.cab, (fun z => nomatch z), I.ok.frames, I.ok.stk, I.ok.exf, I.ok.bs, I.ok.bsz, I.ok.noex, I.ok.exfs, I.ok.funs, I.ok.frf⟩, I.os, I.bare, I.base, I.loc, I.cell, I.free, I.freeC, I.pin, I.hok, I.len⟩
theorem Inv.ofH (I : Inv (X.handles e) pins σ H s) (ok : X.Ok) : Inv X pins σ H s := ⟨ok, I.os, I.bare, I.base, I.loc, I.cell, I.free, I.freeC, I.pin, I.hok, I.len⟩
theorem SP.ofTry {D : Ends} {f : Flow} (h : SP (X.tries (X.pn ++ pins) xe) pins' D f s) : SP X pins D f s := by
  cases f with
  | next => obtain ⟨σ', H', I, q⟩ := h; exact ⟨σ', H', I.ofTry, q⟩
  | brk => obtain ⟨σ', H', I, q⟩ := h; exact ⟨σ', H', I.ofTry, q⟩
  | cont => obtain ⟨σ', H', I, q⟩ := h; exact ⟨σ', H', I.ofTry, q⟩
  | ret u => obtain ⟨v, σ', H', I, r, q⟩ := h; exact ⟨v, σ', H', I.ofTry, r, q⟩
/-- an object that was made here and not yet known is known now -/
theorem Inv.track {o : HO} (I : Inv X pins σ H s) (h0 : X.s₀.heap.get? e = none) (hL : e ≠ X.env.locals) (hC : ∀ x c, X.env.cells.lookup x = some c → c ≠ e) (hp : ∀ p ∈ X.pn ++ pins, p.1 ≠ e) (hn : H e = none) (new : ObjOk X.prog X.w (upd H e o) s.heap e o) : Inv X pins σ (upd H e o) s := by
  have k : ∀ b u, H b = some u → upd H e o b = some u := fun b u q => by rw [upd_ne (ne_of_none q hn)]; exact q
  refine ⟨I.ok, I.os, I.bare, ⟨I.base.keep, I.base.slot, fun b ob q n hx => ?_, I.base.there, fun b xs q => k _ _ (I.base.tups b xs q), fun b ob u q => k _ _ (I.base.frzs b ob u q), fun b ps q => ?_⟩, I.loc, I.cell, ?_, fun x c q => ?_, fun p hp' => ?_, fun b u q => ?_, I.len⟩
  · rw [upd_ne (fun z => by rw [z, h0] at q; cases q)]
    exact I.base.free b ob q n hx
  · obtain ⟨m, hm⟩ := I.base.tbls b ps q
    exact ⟨m, k _ _ hm⟩
  · rw [upd_ne (Ne.symm hL)]; exact I.free
  · rw [upd_ne (hC x c q)]; exact I.freeC x c q
  · obtain ⟨q1, q2, q3, q4, q5⟩ := I.pin p hp'
    exact ⟨q1, by rw [upd_ne (hp p hp')]; exact q2, q3, q4, q5⟩
  · by_cases z : b = e
    · subst z
      rw [upd_same] at q
      cases q
      exact new
    · rw [upd_ne z] at q
      exact (I.hok b u q).stay (fun _ _ _ y => y) (fun c y => k _ _ y) fun c xs y => k _ _ y
/-- a name is gone -/
theorem Inv.gone {i t' : Nat} {x : Str} {m : Str → Option Value} {v : Option Value} {h' : Heap} (I : Inv X pins σ H s) (hN : X.N.Nodup) (hi : X.N[i]? = some x) (hn : s.heap.Ns X.env.locals m) (hn' : h'.Ns X.env.locals (fun y => if y = x then v else m y)) (hs : Heap.SameBut X.env.locals s.heap h') :
    Inv X pins (σ.set i none) H { s with heap := h', toks := t' } := by
  obtain ⟨m0, hn0, hl⟩ := I.loc
  obtain ⟨oL, _, _, hoL, _⟩ := id hn
  have hm : m0 = m := by
    obtain ⟨o1, es1, ep1, ho1, hd1, _, hf1⟩ := hn0
    obtain ⟨o2, es2, ep2, ho2, hd2, _, hf2⟩ := hn
    rw [ho1] at ho2
    cases ho2
    rw [hd1] at hd2
    cases hd2
    funext y
    rw [← hf1 y, ← hf2 y]
  subst hm
  have nL : ∀ b ob, X.s₀.heap.get? b = some ob → b ≠ X.env.locals := fun b ob q => Nat.ne_of_lt (Nat.lt_of_lt_of_le (Heap.lt_size q) I.ok.above)
  refine ⟨I.ok, I.os, I.bare, ⟨fun b o q n hb hx => (hs.2 b (nL b o q)).trans (I.base.keep b o q n hb hx), fun b o q n hb hx => ?_, I.base.free, fun b o q hx => ?_, I.base.tups, I.base.frzs, I.base.tbls⟩, ⟨_, hn', fun j y v' q1 q2 q3 => ?_⟩, fun y c q => ?_, I.free, I.freeC, fun p hp => ?_, fun b u q => ?_, by simpa using I.len⟩
  · obtain ⟨sl, q1⟩ := I.base.slot b o q n hb hx
    exact ⟨sl, (hs.2 b (nL b o q)).trans q1⟩
  · obtain ⟨o', q1⟩ := I.base.there b o q hx
    exact ⟨o', (hs.2 b (nL b o q)).trans q1⟩
  · by_cases hj : j = i
    · subst hj
      by_cases hlen : j < σ.length
      · rw [List.getElem?_set_self hlen] at q2; cases q2
      · rw [List.getElem?_eq_none (by rw [List.length_set]; omega)] at q2; cases q2
    · rw [List.getElem?_set_ne (Ne.symm hj)] at q2
      obtain ⟨u', r', q⟩ := hl j y v' q1 q2 q3
      refine ⟨u', r', ?_⟩
      rcases q with ⟨k, q⟩ | ⟨k, c, q, z⟩
      · have : y ≠ x := fun z => hj (nodup_ix hN q1 (z ▸ hi))
        exact .inl ⟨k, by simp [this, q]⟩
      · exact .inr ⟨k, c, q, z.sameBut hs (I.cne y c q)⟩
  · obtain ⟨w', z⟩ := I.cell y c q
    exact ⟨w', z.sameBut hs (I.cne y c q)⟩
  · obtain ⟨q, n, ne, nf, d⟩ := I.pin p hp
    exact ⟨(hs.2 p.1 ne).trans q, n, ne, nf, d⟩
  · refine (I.hok b u q).stay (fun c w' hc z => (hs.2 c ?_).trans z) (fun _ z => z) fun _ _ z => z
    rintro rfl
    rcases hc with y | y
    · rw [← y, I.free] at q; cases q
    · rw [I.free] at y; cases y
end
/-- what a try wants of an exception: the clause takes it, and its suite does the rest -/
def Ehit (K : PySem.W.Frag) (HC : Addr) (i : Nat) (ts : TS) (D : Ends) : St → XK := fun σ cls _ H' => exmOne K cls (.ref HC) = some true ∧ ∀ ea, H' ea = none →
  ts { nx := fun σ' H'' => D.nx (σ'.set i none) H'', rt := D.rt, bk := fun σ' H'' => D.bk (σ'.set i none) H'', ct := fun σ' H'' => D.ct (σ'.set i none) H'' } (σ.set i (some (.ref ea))) (upd H' ea (excO ea cls))
def tTry (K : PySem.W.Frag) (HC : Addr) (i : Nat) (tb : (St → XK) → TS) (ts : TS) : TS := fun D σ H => tb (Ehit K HC i ts D) D σ H
theorem ps_try {X : Cx} {body suite : List Stmt} {b₀ : Stmt} {x n : Str} {i : Nat} {HC : Addr} {np hpos pos : Pos} {tb : (St → XK) → TS} {ts : TS} (hstk : X.stack = X.env :: X.outer ∧ X.env.frame = some X.env.locals) (hex : X.ex = []) (hg : Gl X x) (hm : X.mg x = some (.ref HC))
    (hN : X.N.Nodup) (hi : X.N[i]? = some n) (hl : X.env.scope.names.lookup n = some .local)
    (hb : ∀ (pn : List (Addr × Obj)) (xe : Value → Shared → Prop) (E : St → XK), PassesS (CXE X.prog X.w) (X.tries pn xe) E → PSs (X.tries pn xe) body (tb E)) (hs : ∀ e, PSs (X.handles e) (b₀ :: suite) ts) (hdb : (x == ("__debug__" : Str)) = false := by decide) :
    PS X (.Try body [.ExceptHandler (some (.Name x np)) (some n) (b₀ :: suite) hpos] [] [] pos) (tTry X.K HC i tb ts) := by
  intro pins s σ H D I hw
  refine wpAny_Try_except ?_
  refine wpAny_mono (hb (X.pn ++ pins) _ (Ehit X.K HC i ts D) ?_ [] s σ H D I.toTry hw) (fun f s1 q => ?_) fun e s1 q => q
  · intro pins' σ1 H1 s1 e s2 I1 hc
    obtain ⟨ea, cls, H', rfl, os, bare, un, hok, ⟨B, a0, fl, hout, hnew, hB⟩, hmt, hE⟩ := hc
    have J : Inv X pins σ1 H1 s1 := I1.ofTry
    obtain ⟨e1, e2⟩ := hstk
    have un : Un (frs X.stack) [] H1 H' s1.heap s2.heap := un
    have fr := J.stkFree2 un
    have af : X.A.frames = some (X.env :: X.outer) := by rw [← e1]; exact J.ok.frames
    have fl : Heap.FlyingW B (X.env :: X.outer) ea cls a0 s2.heap := by rw [← e1]; exact fl
    have ff : s2.heap.FunFrames B X.stack := by rw [e1]; exact fl.2.2.1
    have nx : ∀ h5, Heap.FlyingW B (X.env :: X.outer) ea cls a0 h5 → s2.heap.UpToSlots h5 → Inv X pins σ1 H' { s2 with heap := h5 } := fun h5 f5 u5 => J.call' os (un.fly hB f5.1 u5 ff) (hok.fly hB f5.1 fr) bare fun b z => nomatch z
    refine wpAny_looks_onW af e2 fl fun h3 held up3 => ?_
    refine wpAny_landsW held fun h4 fl4 up4 => ?_
    have I4 := nx h4 fl4 (up3.trans up4)
    obtain ⟨ob, hob, hcl⟩ := fl4.there
    refine wpAny_handleBy_cons (codeAny_handlers_test ?_) (by intro q; cases q)
    refine ld_glob (X := X.handles ea) (I4.toH ea) hg hm ?_ hdb
    refine (exm_one I4.kIn (hcl ▸ (Looks.ld hob).andThen .now) hmt).here ?_
    refine codeAny_handlers_suite_as ?_
    refine lands_againW fl4 fun h6 fl6 up6 => ?_
    have I6 := nx h6 fl6 ((up3.trans up4).trans up6)
    obtain ⟨ob6, hob6, hcl6⟩ := fl6.there
    refine store_ok2 I6 hN hi (.inl hl) (show RelV (.ref ea) (.ref ea) from rfl) (fun s7 I7 hsb => ?_) (.inr hl)
    have nL : ea ≠ X.env.locals := fun z => by
      obtain ⟨m, ⟨o, _, _, ho, _⟩, _⟩ := J.loc
      rw [← z, hnew] at ho; cases ho
    have nC : ∀ x c, X.env.cells.lookup x = some c → c ≠ ea := fun x c q z => by
      obtain ⟨v, o, ho, _⟩ := J.cell x c q
      rw [z, hnew] at ho; cases ho
    have hob7 : s7.heap.get? ea = some ob6 := by
      obtain ⟨a, sb, z⟩ := hsb
      refine (sb.2 ea ?_).trans hob6
      rcases z with z | z
      · rw [z]; exact nL
      · exact Ne.symm (nC _ _ z)
    have I8 := (I7.track (e := ea) (o := excO ea cls) (by
      cases q : X.s₀.heap.get? ea with
      | none => rfl
      | some o =>
        obtain ⟨o1, z⟩ := J.base.there ea o q (by rw [hex]; exact List.not_mem_nil)
        rw [hnew] at z; cases z) nL nC (fun p hp z => by
      have := (J.pin p hp).1
      rw [z, hnew] at this; cases this) hout ⟨⟨ob6, hob7, hcl6⟩, ⟨ob6, hob7⟩, fun g1 g2 ⟨o, z1, z2⟩ k => ⟨o, k o z1, z2⟩⟩).toH ea
    refine wpAny_mono (hs ea pins s7 _ _ _ I8 (hE ea hout)) (fun f s8 q8 => ?_) fun _ _ z => z.elim
    have kd : (X.env.scope.kind == .class || (X.env.scope.kind == .module && X.env.locals != X.env.globals)) = false := by rw [J.ok.kind]; rfl
    cases f with
    | next =>
      obtain ⟨σ', H'', I', q⟩ := q8
      have I' := I'.ofH J.ok
      obtain ⟨m, hn, _⟩ := I'.loc
      exact wpAny_nameGoes_keeps hl hn kd fun h9 v hn9 sb9 => ⟨_, _, I'.gone hN hi hn hn9 sb9, q⟩
    | brk =>
      obtain ⟨σ', H'', I', q⟩ := q8
      have I' := I'.ofH J.ok
      obtain ⟨m, hn, _⟩ := I'.loc
      exact wpAny_nameGoes_keeps hl hn kd fun h9 v hn9 sb9 => ⟨_, _, I'.gone hN hi hn hn9 sb9, q⟩
    | cont =>
      obtain ⟨σ', H'', I', q⟩ := q8
      have I' := I'.ofH J.ok
      obtain ⟨m, hn, _⟩ := I'.loc
      exact wpAny_nameGoes_keeps hl hn kd fun h9 v hn9 sb9 => ⟨_, _, I'.gone hN hi hn hn9 sb9, q⟩
    | ret u =>
      obtain ⟨v', σ', H'', I', r, q⟩ := q8
      have I' := I'.ofH J.ok
      obtain ⟨m, hn, _⟩ := I'.loc
      exact wpAny_nameGoes_keeps hl hn kd fun h9 v hn9 sb9 => ⟨_, _, _, I'.gone hN hi hn hn9 sb9, r, q⟩
  · have q' : SP X pins D f s1 := q.ofTry
    cases f with
    | next => exact wpAny_execs_nil q'
    | brk => exact q'
    | cont => exact q'
    | ret u => exact q'
end L2

set_option linter.all false
set_option maxHeartbeats 4000000
namespace Pap
def IsP (p : List Nat) : Prop := p.Perm (List.range p.length)
def at' (p : List Nat) (i : Nat) : Nat := p.getD i 0
def cmp (p q : List Nat) : List Nat := q.map (at' p)
def bk (p : List Nat) : List Nat := (List.range p.length).map fun v => p.idxOf v
theorem at_lt {p : List Nat} {i : Nat} (h : i < p.length) : p[i]? = some (at' p i) := by
  unfold at'; rw [List.getD_eq_getElem?_getD, List.getElem?_eq_getElem h]; rfl
theorem at_eq {p : List Nat} {i : Nat} (h : i < p.length) : at' p i = p[i] := by
  unfold at'; rw [List.getD_eq_getElem?_getD, List.getElem?_eq_getElem h]; rfl
theorem IsP.lt {p : List Nat} (h : IsP p) {x : Nat} (hx : x ∈ p) : x < p.length := List.mem_range.mp (h.mem_iff.mp hx)
theorem IsP.mem {p : List Nat} (h : IsP p) {x : Nat} (hx : x < p.length) : x ∈ p := h.mem_iff.mpr (List.mem_range.mpr hx)
theorem IsP.nd {p : List Nat} (h : IsP p) : p.Nodup := h.nodup_iff.mpr List.nodup_range
theorem IsP.range (n : Nat) : IsP (List.range n) := by unfold IsP; rw [List.length_range]
theorem IsP.at_mem {p : List Nat} {i : Nat} (h : i < p.length) : at' p i ∈ p := by rw [at_eq h]; exact List.getElem_mem h
theorem IsP.at_lt {p : List Nat} (hp : IsP p) {i : Nat} (h : i < p.length) : at' p i < p.length := hp.lt (IsP.at_mem h)
theorem of_nd {p : List Nat} (nd : p.Nodup) (h : ∀ x, x ∈ p ↔ x < p.length) : IsP p := (List.perm_ext_iff_of_nodup nd List.nodup_range).mpr fun a => (h a).trans List.mem_range.symm
theorem idx_lt {p : List Nat} (h : IsP p) {v : Nat} (hv : v < p.length) : p.idxOf v < p.length := List.idxOf_lt_length_iff.mpr (h.mem hv)
theorem at_idx {p : List Nat} (h : IsP p) {v : Nat} (hv : v < p.length) : at' p (p.idxOf v) = v := by rw [at_eq (idx_lt h hv)]; exact List.getElem_idxOf _
theorem idx_at {p : List Nat} (h : IsP p) {i : Nat} (hi : i < p.length) : p.idxOf (at' p i) = i := by rw [at_eq hi]; exact h.nd.idxOf_getElem i hi
theorem cmp_len (p q : List Nat) : (cmp p q).length = q.length := List.length_map ..
theorem cmp_at {p q : List Nat} {j : Nat} (hj : j < q.length) : at' (cmp p q) j = at' p (at' q j) := by
  unfold cmp
  rw [at_eq (by rw [List.length_map]; exact hj), List.getElem_map, at_eq hj]
theorem bk_len (p : List Nat) : (bk p).length = p.length := by unfold bk; rw [List.length_map, List.length_range]
theorem bk_at {p : List Nat} {v : Nat} (hv : v < p.length) : at' (bk p) v = p.idxOf v := by
  unfold bk
  rw [at_eq (by rw [List.length_map, List.length_range]; exact hv), List.getElem_map, List.getElem_range]
theorem of_inj {p : List Nat} (hlt : ∀ x ∈ p, x < p.length) (inj : ∀ i j, i < p.length → j < p.length → at' p i = at' p j → i = j) (sur : ∀ v, v < p.length → ∃ i, i < p.length ∧ at' p i = v) : IsP p := by
  refine of_nd ?_ fun x => ⟨hlt x, fun hx => ?_⟩
  · refine List.pairwise_iff_getElem.mpr fun i j hi hj hij e => ?_
    have := inj i j hi hj (by rw [at_eq hi, at_eq hj]; exact e)
    omega
  · obtain ⟨i, hi, e⟩ := sur x hx
    rw [← e]; exact IsP.at_mem hi
theorem IsP.bk {p : List Nat} (hp : IsP p) : IsP (bk p) := by
  refine of_inj (fun x hx => ?_) (fun i j hi hj e => ?_) fun v hv => ?_
  · obtain ⟨v, hv, rfl⟩ := List.mem_map.mp hx
    rw [bk_len]; exact idx_lt hp (List.mem_range.mp hv)
  · rw [bk_len] at hi hj
    rw [bk_at hi, bk_at hj] at e
    rw [← at_idx hp hi, ← at_idx hp hj, e]
  · rw [bk_len] at hv
    refine ⟨at' p v, by rw [bk_len]; exact hp.at_lt hv, ?_⟩
    rw [bk_at (hp.at_lt hv), idx_at hp hv]
theorem ext {p q : List Nat} (hl : p.length = q.length) (h : ∀ i, i < p.length → at' p i = at' q i) : p = q := by
  refine List.ext_getElem? fun i => ?_
  by_cases hi : i < p.length
  · rw [Pap.at_lt hi, Pap.at_lt (hl ▸ hi), h i hi]
  · rw [List.getElem?_eq_none (by omega), List.getElem?_eq_none (by omega)]
theorem range_at {n i : Nat} (h : i < n) : at' (List.range n) i = i := by rw [at_eq (by rw [List.length_range]; exact h), List.getElem_range]
theorem cmp_bk {p : List Nat} (hp : IsP p) : cmp p (bk p) = List.range p.length := by
  refine ext (by rw [cmp_len, bk_len, List.length_range]) fun i hi => ?_
  rw [cmp_len, bk_len] at hi
  rw [cmp_at (by rw [bk_len]; exact hi), bk_at hi, at_idx hp hi, range_at hi]
theorem IsP.ins {p : List Nat} (hp : IsP p) (i : Nat) : IsP (p.take i ++ p.length :: p.drop i) := by
  unfold IsP
  have hl : (p.take i ++ p.length :: p.drop i).length = p.length + 1 := by
    rw [List.length_append, List.length_cons, List.length_take, List.length_drop]; omega
  rw [hl, List.range_succ]
  refine List.perm_middle.trans ?_
  rw [List.take_append_drop]
  exact (List.Perm.cons _ hp).trans (List.perm_append_comm (l₁ := [p.length]))
/-- sorted, it is straight -/
theorem IsP.sorted {p : List Nat} (hp : IsP p) {ms : List Int} (h : ms.Perm (p.map fun x : Nat => (x : Int))) (hs : ms.Pairwise (· ≤ ·)) : ms = (List.range p.length).map fun x : Nat => (x : Int) := by
  refine List.Perm.eq_of_pairwise (le := (· ≤ ·)) (fun a b _ _ h1 h2 => Int.le_antisymm h1 h2) hs ?_ (h.trans (hp.map _))
  rw [List.pairwise_map]
  exact List.Pairwise.imp (fun h => by omega) List.pairwise_le_range
/-- the spots while the loop goes -/
def spots (p : List Nat) (i : Nat) : List Nat := (List.range p.length).map fun v => if v ∈ p.take i then p.idxOf v else v
theorem spots_len (p : List Nat) (i : Nat) : (spots p i).length = p.length := by unfold spots; rw [List.length_map, List.length_range]
theorem spots_zero (p : List Nat) : spots p 0 = List.range p.length := by
  unfold spots
  rw [List.take_zero]
  refine (List.map_congr_left (g := id) fun x _ => ?_).trans (List.map_id _)
  rw [if_neg (by simp)]; rfl
theorem spots_end {p : List Nat} (hp : IsP p) : spots p p.length = bk p := by
  unfold spots bk
  refine List.map_congr_left fun x hx => ?_
  rw [List.take_length, if_pos (hp.mem (List.mem_range.mp hx))]
theorem spots_step {p : List Nat} (hp : IsP p) {i : Nat} (hi : i < p.length) : (spots p i).set (at' p i) i = spots p (i + 1) := by
  refine ext (by rw [List.length_set, spots_len, spots_len]) fun v hv => ?_
  rw [List.length_set, spots_len] at hv
  have get : ∀ j, at' (spots p j) v = if v ∈ p.take j then p.idxOf v else v := fun j => by
    rw [at_eq (by rw [spots_len]; exact hv)]
    unfold spots
    rw [List.getElem_map, List.getElem_range]
  rw [get, at_eq (by rw [List.length_set, spots_len]; exact hv), List.getElem_set]
  have tk : p.take (i + 1) = p.take i ++ [at' p i] := by rw [List.take_succ, Pap.at_lt hi]; rfl
  split
  · rename_i e
    rw [tk, if_pos (by rw [← e]; simp), ← e, idx_at hp hi]
  · rename_i e
    have h1 := get i
    rw [at_eq (by rw [spots_len]; exact hv)] at h1
    rw [h1, tk]
    by_cases q : v ∈ p.take i
    · rw [if_pos q, if_pos (List.mem_append_left _ q)]
    · rw [if_neg q, if_neg]
      intro z
      rcases List.mem_append.mp z with z | z
      · exact q z
      · exact e (List.mem_singleton.mp z).symm
end Pap

set_option linter.all false
namespace L2
open PySem
theorem tVar_1 {v : V} {a0 : Option V} {σ : St} {H : Hp} {Q : VK} : tVar 1 (a0 :: some v :: σ) H Q = Q v H := by
  simp only [tVar_s, tVar_0]
theorem tVar_2 {v : V} {a0 a1 : Option V} {σ : St} {H : Hp} {Q : VK} : tVar 2 (a0 :: a1 :: some v :: σ) H Q = Q v H := by
  simp only [tVar_s, tVar_0]
theorem tVar_3 {v : V} {a0 a1 a2 : Option V} {σ : St} {H : Hp} {Q : VK} : tVar 3 (a0 :: a1 :: a2 :: some v :: σ) H Q = Q v H := by
  simp only [tVar_s, tVar_0]
theorem tVar_4 {v : V} {a0 a1 a2 a3 : Option V} {σ : St} {H : Hp} {Q : VK} : tVar 4 (a0 :: a1 :: a2 :: a3 :: some v :: σ) H Q = Q v H := by
  simp only [tVar_s, tVar_0]
theorem tVar_5 {v : V} {a0 a1 a2 a3 a4 : Option V} {σ : St} {H : Hp} {Q : VK} : tVar 5 (a0 :: a1 :: a2 :: a3 :: a4 :: some v :: σ) H Q = Q v H := by
  simp only [tVar_s, tVar_0]
theorem tVar_6 {v : V} {a0 a1 a2 a3 a4 a5 : Option V} {σ : St} {H : Hp} {Q : VK} : tVar 6 (a0 :: a1 :: a2 :: a3 :: a4 :: a5 :: some v :: σ) H Q = Q v H := by
  simp only [tVar_s, tVar_0]
theorem tVar_7 {v : V} {a0 a1 a2 a3 a4 a5 a6 : Option V} {σ : St} {H : Hp} {Q : VK} : tVar 7 (a0 :: a1 :: a2 :: a3 :: a4 :: a5 :: a6 :: some v :: σ) H Q = Q v H := by
  simp only [tVar_s, tVar_0]
theorem tVar_8 {v : V} {a0 a1 a2 a3 a4 a5 a6 a7 : Option V} {σ : St} {H : Hp} {Q : VK} : tVar 8 (a0 :: a1 :: a2 :: a3 :: a4 :: a5 :: a6 :: a7 :: some v :: σ) H Q = Q v H := by
  simp only [tVar_s, tVar_0]
theorem tVar_9 {v : V} {a0 a1 a2 a3 a4 a5 a6 a7 a8 : Option V} {σ : St} {H : Hp} {Q : VK} : tVar 9 (a0 :: a1 :: a2 :: a3 :: a4 :: a5 :: a6 :: a7 :: a8 :: some v :: σ) H Q = Q v H := by
  simp only [tVar_s, tVar_0]
theorem tVar_10 {v : V} {a0 a1 a2 a3 a4 a5 a6 a7 a8 a9 : Option V} {σ : St} {H : Hp} {Q : VK} : tVar 10 (a0 :: a1 :: a2 :: a3 :: a4 :: a5 :: a6 :: a7 :: a8 :: a9 :: some v :: σ) H Q = Q v H := by
  simp only [tVar_s, tVar_0]
theorem tVar_11 {v : V} {a0 a1 a2 a3 a4 a5 a6 a7 a8 a9 a10 : Option V} {σ : St} {H : Hp} {Q : VK} : tVar 11 (a0 :: a1 :: a2 :: a3 :: a4 :: a5 :: a6 :: a7 :: a8 :: a9 :: a10 :: some v :: σ) H Q = Q v H := by
  simp only [tVar_s, tVar_0]
theorem tVar_12 {v : V} {a0 a1 a2 a3 a4 a5 a6 a7 a8 a9 a10 a11 : Option V} {σ : St} {H : Hp} {Q : VK} : tVar 12 (a0 :: a1 :: a2 :: a3 :: a4 :: a5 :: a6 :: a7 :: a8 :: a9 :: a10 :: a11 :: some v :: σ) H Q = Q v H := by
  simp only [tVar_s, tVar_0]
theorem tVar_13 {v : V} {a0 a1 a2 a3 a4 a5 a6 a7 a8 a9 a10 a11 a12 : Option V} {σ : St} {H : Hp} {Q : VK} : tVar 13 (a0 :: a1 :: a2 :: a3 :: a4 :: a5 :: a6 :: a7 :: a8 :: a9 :: a10 :: a11 :: a12 :: some v :: σ) H Q = Q v H := by
  simp only [tVar_s, tVar_0]
theorem tVar_14 {v : V} {a0 a1 a2 a3 a4 a5 a6 a7 a8 a9 a10 a11 a12 a13 : Option V} {σ : St} {H : Hp} {Q : VK} : tVar 14 (a0 :: a1 :: a2 :: a3 :: a4 :: a5 :: a6 :: a7 :: a8 :: a9 :: a10 :: a11 :: a12 :: a13 :: some v :: σ) H Q = Q v H := by
  simp only [tVar_s, tVar_0]
theorem tVar_15 {v : V} {a0 a1 a2 a3 a4 a5 a6 a7 a8 a9 a10 a11 a12 a13 a14 : Option V} {σ : St} {H : Hp} {Q : VK} : tVar 15 (a0 :: a1 :: a2 :: a3 :: a4 :: a5 :: a6 :: a7 :: a8 :: a9 :: a10 :: a11 :: a12 :: a13 :: a14 :: some v :: σ) H Q = Q v H := by
  simp only [tVar_s, tVar_0]
theorem tVar_16 {v : V} {a0 a1 a2 a3 a4 a5 a6 a7 a8 a9 a10 a11 a12 a13 a14 a15 : Option V} {σ : St} {H : Hp} {Q : VK} : tVar 16 (a0 :: a1 :: a2 :: a3 :: a4 :: a5 :: a6 :: a7 :: a8 :: a9 :: a10 :: a11 :: a12 :: a13 :: a14 :: a15 :: some v :: σ) H Q = Q v H := by
  simp only [tVar_s, tVar_0]
theorem tVar_17 {v : V} {a0 a1 a2 a3 a4 a5 a6 a7 a8 a9 a10 a11 a12 a13 a14 a15 a16 : Option V} {σ : St} {H : Hp} {Q : VK} : tVar 17 (a0 :: a1 :: a2 :: a3 :: a4 :: a5 :: a6 :: a7 :: a8 :: a9 :: a10 :: a11 :: a12 :: a13 :: a14 :: a15 :: a16 :: some v :: σ) H Q = Q v H := by
  simp only [tVar_s, tVar_0]
theorem tVar_18 {v : V} {a0 a1 a2 a3 a4 a5 a6 a7 a8 a9 a10 a11 a12 a13 a14 a15 a16 a17 : Option V} {σ : St} {H : Hp} {Q : VK} : tVar 18 (a0 :: a1 :: a2 :: a3 :: a4 :: a5 :: a6 :: a7 :: a8 :: a9 :: a10 :: a11 :: a12 :: a13 :: a14 :: a15 :: a16 :: a17 :: some v :: σ) H Q = Q v H := by
  simp only [tVar_s, tVar_0]
theorem tVar_19 {v : V} {a0 a1 a2 a3 a4 a5 a6 a7 a8 a9 a10 a11 a12 a13 a14 a15 a16 a17 a18 : Option V} {σ : St} {H : Hp} {Q : VK} : tVar 19 (a0 :: a1 :: a2 :: a3 :: a4 :: a5 :: a6 :: a7 :: a8 :: a9 :: a10 :: a11 :: a12 :: a13 :: a14 :: a15 :: a16 :: a17 :: a18 :: some v :: σ) H Q = Q v H := by
  simp only [tVar_s, tVar_0]
theorem tVar_20 {v : V} {a0 a1 a2 a3 a4 a5 a6 a7 a8 a9 a10 a11 a12 a13 a14 a15 a16 a17 a18 a19 : Option V} {σ : St} {H : Hp} {Q : VK} : tVar 20 (a0 :: a1 :: a2 :: a3 :: a4 :: a5 :: a6 :: a7 :: a8 :: a9 :: a10 :: a11 :: a12 :: a13 :: a14 :: a15 :: a16 :: a17 :: a18 :: a19 :: some v :: σ) H Q = Q v H := by
  simp only [tVar_s, tVar_0]
theorem tVar_21 {v : V} {a0 a1 a2 a3 a4 a5 a6 a7 a8 a9 a10 a11 a12 a13 a14 a15 a16 a17 a18 a19 a20 : Option V} {σ : St} {H : Hp} {Q : VK} : tVar 21 (a0 :: a1 :: a2 :: a3 :: a4 :: a5 :: a6 :: a7 :: a8 :: a9 :: a10 :: a11 :: a12 :: a13 :: a14 :: a15 :: a16 :: a17 :: a18 :: a19 :: a20 :: some v :: σ) H Q = Q v H := by
  simp only [tVar_s, tVar_0]
theorem tVar_22 {v : V} {a0 a1 a2 a3 a4 a5 a6 a7 a8 a9 a10 a11 a12 a13 a14 a15 a16 a17 a18 a19 a20 a21 : Option V} {σ : St} {H : Hp} {Q : VK} : tVar 22 (a0 :: a1 :: a2 :: a3 :: a4 :: a5 :: a6 :: a7 :: a8 :: a9 :: a10 :: a11 :: a12 :: a13 :: a14 :: a15 :: a16 :: a17 :: a18 :: a19 :: a20 :: a21 :: some v :: σ) H Q = Q v H := by
  simp only [tVar_s, tVar_0]
theorem tVar_23 {v : V} {a0 a1 a2 a3 a4 a5 a6 a7 a8 a9 a10 a11 a12 a13 a14 a15 a16 a17 a18 a19 a20 a21 a22 : Option V} {σ : St} {H : Hp} {Q : VK} : tVar 23 (a0 :: a1 :: a2 :: a3 :: a4 :: a5 :: a6 :: a7 :: a8 :: a9 :: a10 :: a11 :: a12 :: a13 :: a14 :: a15 :: a16 :: a17 :: a18 :: a19 :: a20 :: a21 :: a22 :: some v :: σ) H Q = Q v H := by
  simp only [tVar_s, tVar_0]
theorem tVar_24 {v : V} {a0 a1 a2 a3 a4 a5 a6 a7 a8 a9 a10 a11 a12 a13 a14 a15 a16 a17 a18 a19 a20 a21 a22 a23 : Option V} {σ : St} {H : Hp} {Q : VK} : tVar 24 (a0 :: a1 :: a2 :: a3 :: a4 :: a5 :: a6 :: a7 :: a8 :: a9 :: a10 :: a11 :: a12 :: a13 :: a14 :: a15 :: a16 :: a17 :: a18 :: a19 :: a20 :: a21 :: a22 :: a23 :: some v :: σ) H Q = Q v H := by
  simp only [tVar_s, tVar_0]
theorem tVar_25 {v : V} {a0 a1 a2 a3 a4 a5 a6 a7 a8 a9 a10 a11 a12 a13 a14 a15 a16 a17 a18 a19 a20 a21 a22 a23 a24 : Option V} {σ : St} {H : Hp} {Q : VK} : tVar 25 (a0 :: a1 :: a2 :: a3 :: a4 :: a5 :: a6 :: a7 :: a8 :: a9 :: a10 :: a11 :: a12 :: a13 :: a14 :: a15 :: a16 :: a17 :: a18 :: a19 :: a20 :: a21 :: a22 :: a23 :: a24 :: some v :: σ) H Q = Q v H := by
  simp only [tVar_s, tVar_0]
theorem tVar_26 {v : V} {a0 a1 a2 a3 a4 a5 a6 a7 a8 a9 a10 a11 a12 a13 a14 a15 a16 a17 a18 a19 a20 a21 a22 a23 a24 a25 : Option V} {σ : St} {H : Hp} {Q : VK} : tVar 26 (a0 :: a1 :: a2 :: a3 :: a4 :: a5 :: a6 :: a7 :: a8 :: a9 :: a10 :: a11 :: a12 :: a13 :: a14 :: a15 :: a16 :: a17 :: a18 :: a19 :: a20 :: a21 :: a22 :: a23 :: a24 :: a25 :: some v :: σ) H Q = Q v H := by
  simp only [tVar_s, tVar_0]
theorem tVar_27 {v : V} {a0 a1 a2 a3 a4 a5 a6 a7 a8 a9 a10 a11 a12 a13 a14 a15 a16 a17 a18 a19 a20 a21 a22 a23 a24 a25 a26 : Option V} {σ : St} {H : Hp} {Q : VK} : tVar 27 (a0 :: a1 :: a2 :: a3 :: a4 :: a5 :: a6 :: a7 :: a8 :: a9 :: a10 :: a11 :: a12 :: a13 :: a14 :: a15 :: a16 :: a17 :: a18 :: a19 :: a20 :: a21 :: a22 :: a23 :: a24 :: a25 :: a26 :: some v :: σ) H Q = Q v H := by
  simp only [tVar_s, tVar_0]
theorem tVar_28 {v : V} {a0 a1 a2 a3 a4 a5 a6 a7 a8 a9 a10 a11 a12 a13 a14 a15 a16 a17 a18 a19 a20 a21 a22 a23 a24 a25 a26 a27 : Option V} {σ : St} {H : Hp} {Q : VK} : tVar 28 (a0 :: a1 :: a2 :: a3 :: a4 :: a5 :: a6 :: a7 :: a8 :: a9 :: a10 :: a11 :: a12 :: a13 :: a14 :: a15 :: a16 :: a17 :: a18 :: a19 :: a20 :: a21 :: a22 :: a23 :: a24 :: a25 :: a26 :: a27 :: some v :: σ) H Q = Q v H := by
  simp only [tVar_s, tVar_0]
theorem tVar_29 {v : V} {a0 a1 a2 a3 a4 a5 a6 a7 a8 a9 a10 a11 a12 a13 a14 a15 a16 a17 a18 a19 a20 a21 a22 a23 a24 a25 a26 a27 a28 : Option V} {σ : St} {H : Hp} {Q : VK} : tVar 29 (a0 :: a1 :: a2 :: a3 :: a4 :: a5 :: a6 :: a7 :: a8 :: a9 :: a10 :: a11 :: a12 :: a13 :: a14 :: a15 :: a16 :: a17 :: a18 :: a19 :: a20 :: a21 :: a22 :: a23 :: a24 :: a25 :: a26 :: a27 :: a28 :: some v :: σ) H Q = Q v H := by
  simp only [tVar_s, tVar_0]
theorem tVar_30 {v : V} {a0 a1 a2 a3 a4 a5 a6 a7 a8 a9 a10 a11 a12 a13 a14 a15 a16 a17 a18 a19 a20 a21 a22 a23 a24 a25 a26 a27 a28 a29 : Option V} {σ : St} {H : Hp} {Q : VK} : tVar 30 (a0 :: a1 :: a2 :: a3 :: a4 :: a5 :: a6 :: a7 :: a8 :: a9 :: a10 :: a11 :: a12 :: a13 :: a14 :: a15 :: a16 :: a17 :: a18 :: a19 :: a20 :: a21 :: a22 :: a23 :: a24 :: a25 :: a26 :: a27 :: a28 :: a29 :: some v :: σ) H Q = Q v H := by
  simp only [tVar_s, tVar_0]
end L2
namespace L2
open PySem
/-- a place where the reading of the program stops until it is asked for -/
def Cut (t : TS) : TS := t
theorem pss_cut {X : Cx} {rest : List Stmt} {u : TS} (h : PSs X rest u) : PSs X rest (Cut u) := h
theorem cut_of {u : TS} {D : Ends} {σ : St} {H : Hp} (h : u D σ H) : Cut u D σ H := h
theorem us0 {l : List Value} (h : l.length = 0) : l = [] := List.length_eq_zero_iff.mp h
theorem us1 {l : List Value} (h : l.length = 1) : ∃ a0, l = [a0] := by
  cases l with
  | nil => cases h
  | cons a l =>
    obtain rfl := us0 (l := l) (Nat.succ.inj h)
    exact ⟨a, rfl⟩
theorem us2 {l : List Value} (h : l.length = 2) : ∃ a0 a1, l = [a0, a1] := by
  cases l with
  | nil => cases h
  | cons a l =>
    obtain ⟨b0, rfl⟩ := us1 (l := l) (Nat.succ.inj h)
    exact ⟨a, b0, rfl⟩
theorem us3 {l : List Value} (h : l.length = 3) : ∃ a0 a1 a2, l = [a0, a1, a2] := by
  cases l with
  | nil => cases h
  | cons a l =>
    obtain ⟨b0, b1, rfl⟩ := us2 (l := l) (Nat.succ.inj h)
    exact ⟨a, b0, b1, rfl⟩
end L2

set_option Elab.async false
set_option linter.all false
set_option maxRecDepth 100000
set_option maxHeartbeats 4000000
namespace Law
open PySem L2
local macro_rules | `(tactic| walk_at "rd") => `(tactic| ((try dsimp only [cx_K, tChain, tForZ_eq, tRevL, tCompR2_eq, sFldAug_eq, cx_cloK, tCallV, startC, tForE_eq, tCompE_eq, tMaxD, tAug_eq, ipI_int, gSub, gCons_eq, gNil_eq, tSeq, tIfS, tTest, tB, tOr, tAnd, tNot, tOp, tUn, tC, tVar_0, tTry, tCallS, tRaise, tVar_1, tVar_2, tVar_3, tVar_4, tVar_5, tVar_6, tVar_7, tVar_8, tVar_9, tVar_10, tVar_11, tVar_12, tVar_13, tVar_14, tVar_15, tVar_16, tVar_17, tVar_18, tVar_19, tVar_20, tVar_21, tVar_22, tVar_23, tVar_24, tVar_25, tVar_26, tVar_27, tVar_28, tVar_29, tVar_30, rI0_int, rI_int, rU_int, rEq_int, rNe_int, rEq_bl, rNe_bl, rEq_str, rNe_str, ex_bl, ex_int, tAsg, gName, tRet, tRetN, tDrop, tNext, tNever, tAndV, tOrV, tNotV, tIf, List.set_cons_zero, List.set_cons_succ, tCall, tMeth, tCons, tNil, List.cons_append, List.nil_append, List.append_nil, tCB, tFld_eq, sFld_eq, tForL_eq, tForR1_eq, tForR2_eq, tCompL_eq, tCompR1_eq, tYes, tBM, tBM0, tLst, tTup, tMake, true_and, tSl, tPart, tNoPart, decide_eq_true_eq, Bool.not_eq_true', decide_eq_false_iff_not, L2.start, List.map_cons, List.map_nil, List.length_cons, List.length_nil, Nat.reduceAdd, Nat.reduceSub, Nat.zero_add, Nat.sub_self, List.replicate_zero, List.replicate_succ, if_true, if_false, Bool.false_eq_true, Bool.true_eq_false, Bool.not_true, Bool.not_false]); (try simp only [cx_K, tChain, tForZ_eq, tRevL, tCompR2_eq, sFldAug_eq, cx_cloK, tCallV, startC, tForE_eq, tCompE_eq, tMaxD, tAug_eq, ipI_int, gSub, gCons_eq, gNil_eq, tSeq, tIfS, tTest, tB, tOr, tAnd, tNot, tOp, tUn, tC, tVar_0, tTry, tCallS, tRaise, tVar_1, tVar_2, tVar_3, tVar_4, tVar_5, tVar_6, tVar_7, tVar_8, tVar_9, tVar_10, tVar_11, tVar_12, tVar_13, tVar_14, tVar_15, tVar_16, tVar_17, tVar_18, tVar_19, tVar_20, tVar_21, tVar_22, tVar_23, tVar_24, tVar_25, tVar_26, tVar_27, tVar_28, tVar_29, tVar_30, rI0_int, rI_int, rU_int, rEq_int, rNe_int, rEq_bl, rNe_bl, rEq_str, rNe_str, ex_bl, ex_int, tAsg, gName, tRet, tRetN, tDrop, tNext, tNever, tAndV, tOrV, tNotV, tIf, List.set_cons_zero, List.set_cons_succ, tCall, tMeth, tCons, tNil, List.cons_append, List.nil_append, List.append_nil, tCB, tFld_eq, sFld_eq, tForL_eq, tForR1_eq, tForR2_eq, tCompL_eq, tCompR1_eq, tYes, tBM, tBM0, tLst, tTup, tMake, true_and, tSl, tPart, tNoPart, decide_eq_true_eq, Bool.not_eq_true', decide_eq_false_iff_not, L2.start, List.map_cons, List.map_nil, List.length_cons, List.length_nil, Nat.reduceAdd, Nat.reduceSub, Nat.zero_add, Nat.sub_self, List.replicate_zero, List.replicate_succ, if_true, if_false, Bool.false_eq_true, Bool.true_eq_false, Bool.not_true, Bool.not_false])))
local macro_rules | `(tactic| walk_at "up") => `(tactic| first | assumption | (refine Same.get (by assumption) ?_; walk_at "up"))
local macro_rules | `(tactic| walk_at "lk") => `(tactic| ((repeat (first | rw [lkc, if_pos rfl] | rw [lkc, if_neg (by decide +kernel)])); first | done | rfl))
def top (i : Nat) : Stmt := PySem.Challenge.pw_sorthall_k23_no_paper.main.body.getD i (.Pass ⟨0, 0, 0, 0⟩)
abbrev s_straight : Stmt := top 11
abbrev s_is_number : Stmt := top 12
abbrev s_is_paper : Stmt := top 13
abbrev s_check_paper : Stmt := top 14
abbrev s_laid : Stmt := top 15
abbrev s_back : Stmt := top 16
abbrev s_behind : Stmt := top 17
abbrev s_cell_at : Stmt := top 19
abbrev s_paper_by : Stmt := top 20
abbrev s_spoiled : Stmt := top 21
abbrev s_refused : Stmt := top 22
abbrev s_law : Stmt := top 23
theorem sc_straight : FnScope ["many"] ["many"] (defScope s_straight) := ⟨rfl, rfl, rfl, by decide +kernel, rfl, by decide +kernel, by decide +kernel⟩
theorem sc_is_number : FnScope ["some"] ["some"] (defScope s_is_number) := ⟨rfl, rfl, rfl, by decide +kernel, rfl, by decide +kernel, by decide +kernel⟩
theorem sc_is_paper : FnScope ["some"] ["some"] (defScope s_is_paper) := ⟨rfl, rfl, rfl, by decide +kernel, rfl, by decide +kernel, by decide +kernel⟩
theorem sc_check_paper : FnScope ["some", "many"] ["some", "many"] (defScope s_check_paper) := ⟨rfl, rfl, rfl, by decide +kernel, rfl, by decide +kernel, by decide +kernel⟩
theorem sc_laid : FnScope ["row", "paper"] ["row", "paper"] (defScope s_laid) := ⟨rfl, rfl, rfl, by decide +kernel, rfl, by decide +kernel, by decide +kernel⟩
theorem sc_back : FnScope ["paper", "spots", "spot", "place"] ["paper"] (defScope s_back) := ⟨rfl, rfl, rfl, by decide +kernel, rfl, by decide +kernel, by decide +kernel⟩
theorem sc_behind : FnScope ["first", "second"] ["first", "second"] (defScope s_behind) := ⟨rfl, rfl, rfl, by decide +kernel, rfl, by decide +kernel, by decide +kernel⟩
theorem sc_cell_at : FnScope ["_law_script", "_law_k"] ["_law_script", "_law_k"] (defScope s_cell_at) := ⟨rfl, rfl, rfl, by decide +kernel, rfl, by decide +kernel, by decide +kernel⟩
theorem sc_paper_by : FnScope ["_law_cells", "_law_paper", "_law_k"] ["_law_cells"] (defScope s_paper_by) := ⟨rfl, rfl, rfl, by decide +kernel, rfl, by decide +kernel, by decide +kernel⟩
theorem sc_spoiled : FnScope ["_law_paper", "_law_cell", "_law_number", "_law_many", "_law_at", "_law_way", "_law_spoiled_here"] ["_law_paper", "_law_cell", "_law_number"] (defScope s_spoiled) := ⟨rfl, rfl, rfl, by decide +kernel, rfl, by decide +kernel, by decide +kernel⟩
theorem sc_refused : FnScope ["_law_way", "_law_first", "_law_second", "_law_kinds", "e"] ["_law_way", "_law_first", "_law_second"] (defScope s_refused) := ⟨rfl, rfl, rfl, by decide +kernel, rfl, by decide +kernel, by decide +kernel⟩
theorem sc_law : FnScope ["_law_script", "_law_paper", "_law_many", "_law_spoiled_here", "_law_size", "_law_due", "_law_handed", "_law_found", "_law_row", "_law_longer"] ["_law_script"] (defScope s_law) := ⟨rfl, rfl, rfl, by decide +kernel, rfl, by decide +kernel, by decide +kernel⟩
structure Bt (K : PySem.W.Frag) (mg : Str → Option Value) (C_HallError C_NoRule C_NoPaper C_NoPlace C_NoKey C_NoRow C_NoOrder C_TooFar C_Spent : Addr) : Prop where
  b_len : mg "len" = none
  b_range : mg "range" = none
  b_list : mg "list" = none
  b_isinstance : mg "isinstance" = none
  b_bool : mg "bool" = none
  b_int : mg "int" = none
  b_all : mg "all" = none
  b_sorted : mg "sorted" = none
  b_enumerate : mg "enumerate" = none
  b_ValueError : mg "ValueError" = none
  m_HallError : mg "HallError" = some (.ref C_HallError)
  m_NoRule : mg "NoRule" = some (.ref C_NoRule)
  m_NoPaper : mg "NoPaper" = some (.ref C_NoPaper)
  m_NoPlace : mg "NoPlace" = some (.ref C_NoPlace)
  m_NoKey : mg "NoKey" = some (.ref C_NoKey)
  m_NoRow : mg "NoRow" = some (.ref C_NoRow)
  m_NoOrder : mg "NoOrder" = some (.ref C_NoOrder)
  m_TooFar : mg "TooFar" = some (.ref C_TooFar)
  m_Spent : mg "Spent" = some (.ref C_Spent)
  xq_NoPaper : PySem.W.excIn K C_NoPaper bmV "ValueError.__new__" = true
  xc_NoPaper : ExcC K C_NoPaper
  xd_NoPaper : PySem.W.hasDictIn K C_NoPaper = true
  xm_NoPaper_HallError : PySem.W.exmOne K (.ref C_NoPaper) (.ref C_HallError) = some true
  kit_int_bool : PySem.W.kitOne K (.type "int") (.type "bool") = some false
  kit_NoPaper_ValueError : PySem.W.kitOne K (.ref C_NoPaper) (.type "ValueError") = some true
  kit_NoPaper_NoPaper : PySem.W.kitOne K (.ref C_NoPaper) (.ref C_NoPaper) = some true
  kit_NoPaper_NoRule : PySem.W.kitOne K (.ref C_NoPaper) (.ref C_NoRule) = some false
  kit_NoPaper_NoPlace : PySem.W.kitOne K (.ref C_NoPaper) (.ref C_NoPlace) = some false
  kit_NoPaper_NoKey : PySem.W.kitOne K (.ref C_NoPaper) (.ref C_NoKey) = some false
  kit_NoPaper_NoRow : PySem.W.kitOne K (.ref C_NoPaper) (.ref C_NoRow) = some false
  kit_NoPaper_NoOrder : PySem.W.kitOne K (.ref C_NoPaper) (.ref C_NoOrder) = some false
  kit_NoPaper_TooFar : PySem.W.kitOne K (.ref C_NoPaper) (.ref C_TooFar) = some false
  kit_NoPaper_Spent : PySem.W.kitOne K (.ref C_NoPaper) (.ref C_Spent) = some false
def spLaw (K : PySem.W.Frag) : Sp := fun vs H Q _ => ∃ (a : Addr) (ns : List Int), vs = [.ref a] ∧ SqL K H a (ns.map V.int) ∧ ns.length ≤ 63 ∧ ∀ H', Q (.bl true) H'
def cellOf (ns : List Int) (k : Int) : Int := if k < (ns.length : Int) then (ns[k.toNat]?).getD 0 else 0
def spCell (K : PySem.W.Frag) : Sp := fun vs H Q _ => ∃ (a : Addr) (ns : List Int) (k : Int), vs = [.ref a, .int k] ∧ SqL K H a (ns.map V.int) ∧ 0 ≤ k ∧ Q (.int (cellOf ns k)) H
abbrev NL (gs : List Nat) : List V := (gs.map fun g : Nat => (g : Int)).map V.int
theorem NL_len (gs : List Nat) : (NL gs).length = gs.length := by simp
theorem NL_at {p : List Nat} {i : Nat} (h : i < p.length) : (NL p)[i]? = some (.int (Pap.at' p i)) := by
  rw [List.getElem?_map, List.getElem?_map, Pap.at_lt h]; rfl
theorem NL_get {p : List Nat} {i : Nat} {v : V} (h : (NL p)[i]? = some v) : i < p.length ∧ v = .int (Pap.at' p i) := by
  have hi : i < p.length := by have := (List.getElem?_eq_some_iff.mp h).1; rwa [NL_len] at this
  rw [NL_at hi] at h
  exact ⟨hi, (Option.some.inj h).symm⟩
theorem rints_range (n : Nat) : (rints 0 n).map V.int = NL (List.range n) := by
  unfold rints
  simp
theorem all_true (n : Nat) : (List.replicate n true).all id = true := by
  induction n with
  | zero => rfl
  | succ n ih => rw [List.replicate_succ, List.all_cons, ih]; rfl
theorem eq_rep {ys : List V} {n : Nat} {v : V} (hl : ys.length = n) (h : ∀ (j : Nat) y, ys[j]? = some y → y = v) : ys = List.replicate n v := by
  subst hl
  refine List.ext_getElem? fun j => ?_
  by_cases hj : j < ys.length
  · rw [List.getElem?_eq_getElem hj, List.getElem?_replicate, if_pos hj, h j _ (List.getElem?_eq_getElem hj)]
  · rw [List.getElem?_eq_none (by omega), List.getElem?_eq_none (by rw [List.length_replicate]; omega)]
/-- a list of whole numbers that is a paper -/
def isP (zs : List Int) : Prop := ∃ p : List Nat, Pap.IsP p ∧ zs = p.map fun x : Nat => (x : Int)
theorem isP_sorted {zs ms : List Int} (hp : ms.Perm zs) (hs : ms.Pairwise (· ≤ ·)) : ms = (List.range zs.length).map (fun x : Nat => (x : Int)) ↔ isP zs := by
  constructor
  · intro e
    have h1 : zs.Perm ((List.range zs.length).map fun x : Nat => (x : Int)) := by rw [← e]; exact hp.symm
    have h2 := h1.map Int.toNat
    rw [List.map_map, show Int.toNat ∘ (fun x : Nat => (x : Int)) = id from by funext x; rfl, List.map_id] at h2
    refine ⟨zs.map Int.toNat, by unfold Pap.IsP; rw [List.length_map]; exact h2, ?_⟩
    rw [List.map_map]
    refine (List.map_id' zs).symm.trans (List.map_congr_left fun z hz => ?_)
    obtain ⟨n, _, hn⟩ := List.mem_map.mp (h1.mem_iff.mp hz)
    rw [← hn]; rfl
  · rintro ⟨p, h1, rfl⟩
    rw [List.length_map]
    exact h1.sorted hp hs
def spStraight : Sp := fun vs H Q _ => ∃ n : Nat, vs = [.int n] ∧ n ≤ 1000 ∧ ∀ l H', Same H H' → H l = none → H' l = some (.lst (NL (List.range n))) → Q (.ref l) H'
def spIsNumber : Sp := fun vs H Q _ => ∃ i : Int, vs = [.int i] ∧ Q (.bl true) H
def spIsPaper : Sp := fun vs H Q _ => ∃ (a : Addr) (zs : List Int), vs = [.ref a] ∧ H a = some (.lst (zs.map V.int)) ∧ zs.length < 64 ∧ ∀ b H', (b = true ↔ isP zs) → Same H H' → Q (.bl b) H'
def spCheckPaper (CN : Addr) : Sp := fun vs H Q E => ∃ (a : Addr) (zs : List Int) (m : Int), vs = [.ref a, .int m] ∧ H a = some (.lst (zs.map V.int)) ∧ zs.length < 64 ∧ (isP zs ∧ (zs.length : Int) = m → ∀ H', Same H H' → Q .non H') ∧ (¬ (isP zs ∧ (zs.length : Int) = m) → ∀ H', Same H H' → E (.ref CN) none H')
def spLaid (CN : Addr) : Sp := fun vs H Q E => ∃ (r a : Addr) (xs : List V) (zs : List Int), vs = [.ref r, .ref a] ∧ H r = some (.lst xs) ∧ H a = some (.lst (zs.map V.int)) ∧ zs.length < 64 ∧
  (∀ p, Pap.IsP p → zs = (p.map fun x : Nat => (x : Int)) → p.length = xs.length → ∀ l H', Same H H' → H l = none → H' l = some (.lst (p.map fun i => xs.getD i .non)) → Q (.ref l) H') ∧ (¬ (isP zs ∧ zs.length = xs.length) → ∀ H', Same H H' → E (.ref CN) none H')
def spBack (CN : Addr) : Sp := fun vs H Q E => ∃ (a : Addr) (zs : List Int), vs = [.ref a] ∧ H a = some (.lst (zs.map V.int)) ∧ zs.length < 64 ∧
  (∀ p, Pap.IsP p → zs = (p.map fun x : Nat => (x : Int)) → ∀ l H', Same H H' → H l = none → H' l = some (.lst (NL (Pap.bk p))) → Q (.ref l) H') ∧ (¬ isP zs → ∀ H', Same H H' → E (.ref CN) none H')
def spBehind (CN : Addr) : Sp := fun vs H Q E => ∃ (a b : Addr) (zs ys : List Int), vs = [.ref a, .ref b] ∧ H a = some (.lst (zs.map V.int)) ∧ H b = some (.lst (ys.map V.int)) ∧ zs.length < 64 ∧ ys.length < 64 ∧
  ¬ (isP zs ∧ isP ys ∧ zs.length = ys.length) ∧ ∀ H', Same H H' → E (.ref CN) none H'
/-- one of the three ways is refused -/
def Refu (H : Hp) (wy : Int) (x y : V) : Prop :=
  (wy = 0 ∧ ∃ a zs, x = .ref a ∧ H a = some (.lst (zs.map V.int)) ∧ zs.length < 64 ∧ ¬ isP zs) ∨
  (wy = 1 ∧ ∃ r a xs zs, x = .ref r ∧ y = .ref a ∧ H r = some (.lst xs) ∧ H a = some (.lst (zs.map V.int)) ∧ zs.length < 64 ∧ ¬ (isP zs ∧ zs.length = xs.length)) ∨
  (wy = 2 ∧ ∃ a b zs ys, x = .ref a ∧ y = .ref b ∧ H a = some (.lst (zs.map V.int)) ∧ H b = some (.lst (ys.map V.int)) ∧ zs.length < 64 ∧ ys.length < 64 ∧ ¬ (isP zs ∧ isP ys ∧ zs.length = ys.length))
def spRefused : Sp := fun vs H Q _ => ∃ (wy : Int) (x y : V), vs = [.int wy, x, y] ∧ Refu H wy x y ∧ ∀ H', Same H H' → Q (.bl true) H'
def spPaperBy : Sp := fun vs H Q _ => ∃ (c : Addr) (ns : List Int), vs = [.ref c] ∧ H c = some (.lst (ns.map V.int)) ∧ ns.length ≤ 60 ∧ ∀ l H' p, Same H H' → H l = none → H' l = some (.lst (NL p)) → Pap.IsP p → p.length = ns.length → Q (.ref l) H'
theorem insV_NL {p : List Nat} {i : Int} (h0 : 0 ≤ i) (h1 : i ≤ p.length) : insV (NL p) i (.int p.length) = NL (p.take i.toNat ++ p.length :: p.drop i.toNat) := by
  unfold insV
  dsimp only
  rw [if_neg (by omega), NL_len, Nat.min_eq_left (by omega)]
  simp [NL]
def spSpoiled : Sp := fun vs H Q _ => ∃ (pp : Addr) (p : List Nat) (c n : Int), vs = [.ref pp, .int c, .int n] ∧ H pp = some (.lst (NL p)) ∧ p.length ≤ 60 ∧ ∀ l H' (zs : List Int), Same H H' → H l = none → H' l = some (.lst (zs.map V.int)) → zs.length ≤ 61 → Q (.ref l) H'
theorem cutV_to {xs : List V} {n : Nat} (h : n ≤ xs.length) : cutV xs none (some (n : Int)) = xs.take n := by
  unfold cutV
  rw [HT.sIx_none, HT.sIx_nat, Nat.min_eq_left h, Nat.sub_zero]
  rfl
theorem cutV_from (ws : List V) (n : Nat) (h : n ≤ ws.length) : cutV ws (some (n : Int)) none = ws.drop n := by
  unfold cutV
  rw [HT.sIx_none, HT.sIx_nat, Nat.min_eq_left h]
  exact List.take_of_length_le (by rw [List.length_drop]; exact Nat.le_refl _)
theorem onceX {α : Type} {P : TS} {D : Ends} (σ : α → St) (X : α → Hp) (p : α → Prop) {G : Prop} (h : (∀ x, p x → Cut P D (σ x) (X x)) → G) (t : ∀ x, p x → Cut P D (σ x) (X x)) : G := h t
/-- a row of things ('thing', k) -/
def thD (k : Nat) : PyData := .tuple [.str "thing", .int (k : Int)]
def Thg (H : Hp) (ks : List Nat) (xs : List V) : Prop := xs.length = ks.length ∧ ∀ (i k : Nat), ks[i]? = some k → ∃ t, xs[i]? = some (.ref t) ∧ H t = some (.tup [.str "thing", .int (k : Int)])
theorem Thg.mono {H H' : Hp} {ks : List Nat} {xs : List V} (h : Thg H ks xs) (e : Same H H') : Thg H' ks xs := ⟨h.1, fun i k z => let ⟨t, a, b⟩ := h.2 i k z; ⟨t, a, e _ _ b⟩⟩
theorem Thg.nil {H : Hp} : Thg H [] [] := ⟨rfl, fun i k h => by simp at h⟩
theorem Thg.snoc {H : Hp} {ks : List Nat} {xs : List V} {k : Nat} {t : Addr} (h : Thg H ks xs) (ht : H t = some (.tup [.str "thing", .int (k : Int)])) : Thg H (ks ++ [k]) (xs ++ [.ref t]) := by
  refine ⟨by rw [List.length_append, List.length_append, h.1]; rfl, fun i k' hi => ?_⟩
  by_cases z : i < ks.length
  · rw [List.getElem?_append_left z] at hi
    obtain ⟨t', a, b⟩ := h.2 i k' hi
    exact ⟨t', by rw [List.getElem?_append_left (by rw [h.1]; exact z)]; exact a, b⟩
  · rw [List.getElem?_append_right (by omega)] at hi
    cases hj : i - ks.length with
    | zero =>
      rw [hj] at hi
      cases hi
      exact ⟨t, by rw [List.getElem?_append_right (by rw [h.1]; omega), h.1, hj]; rfl, ht⟩
    | succ m => rw [hj] at hi; simp at hi
theorem Thg.dp {K : PySem.W.Frag} {H : Hp} : ∀ {ks : List Nat} {xs : List V}, Thg H ks xs → DpAll K H (ks.map thD) xs
  | [], xs, h => by
    have : xs = [] := List.length_eq_zero_iff.mp h.1
    subst this
    exact .nil
  | k :: ks, [], h => by have := h.1; simp at this
  | k :: ks, x :: xs, h => by
    obtain ⟨t, a, b⟩ := h.2 0 k rfl
    cases a
    exact .cons (dp_tup (SqT.of b) (.two (dp_str _) (dp_int _))) (Thg.dp ⟨by have := h.1; simpa using this, fun i k' hi => h.2 (i + 1) k' hi⟩)
theorem thD_l (k : Nat) : (thD k).canLay0 = true := by
  unfold thD PyData.canLay0 PyData.canLayAll0 PyData.canLayAll0 PyData.canLayAll0 PyData.canLay0
  decide +kernel
theorem thD_d (k : Nat) : (thD k).depth ≤ 2 := by
  unfold thD PyData.depth
  have : PyData.depthAll [.str "thing", .int (k : Int)] = 0 := by
    rw [PyData.depthAll, PyData.depthAll, PyData.depthAll, PyData.depth, PyData.depth]; rfl
  omega
theorem thD_lay : ∀ ks : List Nat, PyData.canLayAll0 (ks.map thD) = true
  | [] => by unfold PyData.canLayAll0; rfl
  | k :: ks => by rw [List.map_cons, PyData.canLayAll0, thD_l, thD_lay ks]; rfl
theorem thD_dep : ∀ ks : List Nat, PyData.depthAll (ks.map thD) ≤ 3
  | [] => by unfold PyData.depthAll; decide
  | k :: ks => by
    rw [List.map_cons, PyData.depthAll]
    have := thD_dep ks
    have := thD_d k
    omega
theorem Thg.ne {K : PySem.W.Frag} {H : Hp} {ks : List Nat} {xs ys : List V} {x y : Addr} {Q : VK} (h : Thg H ks xs) (h' : Thg H ks ys) (hx : H x = some (.lst xs)) (hy : H y = some (.lst ys)) (q : Q (.bl false) H) : rNeD K (.ref x) (.ref y) H Q :=
  neD_refl (d := .list (ks.map thD)) (dp_lst (SqL.of hx) h.dp) (dp_lst (SqL.of hy) h'.dp) (by unfold PyData.canLay0; exact thD_lay ks) (by unfold PyData.depth; have := thD_dep ks; omega) q
/-- a row laid by a paper -/
theorem Thg.laid {H : Hp} {ks : List Nat} {xs : List V} (h : Thg H ks xs) {p : List Nat} (hp : ∀ x ∈ p, x < ks.length) : Thg H (p.map fun i => ks.getD i 0) (p.map fun i => xs.getD i .non) := by
  refine ⟨by rw [List.length_map, List.length_map], fun i k hi => ?_⟩
  rw [List.getElem?_map] at hi
  obtain ⟨j, h1, h2⟩ := Option.map_eq_some_iff.mp hi
  have hj := hp j (List.mem_of_getElem? h1)
  obtain ⟨t, a, b⟩ := h.2 j k (by rw [← h2, List.getD_eq_getElem?_getD, List.getElem?_eq_getElem hj]; rfl)
  refine ⟨t, ?_, b⟩
  rw [List.getElem?_map, h1]
  show some (xs.getD j .non) = _
  rw [List.getD_eq_getElem?_getD, a]; rfl
theorem inj_nat {p q : List Nat} (h : (p.map fun x : Nat => (x : Int)) = q.map fun x : Nat => (x : Int)) : p = q := by
  have := congrArg (List.map Int.toNat) h
  rw [List.map_map, List.map_map, show Int.toNat ∘ (fun x : Nat => (x : Int)) = id from by funext x; rfl, List.map_id, List.map_id] at this
  exact this
theorem range_getD {n : Nat} {p : List Nat} (h : ∀ x ∈ p, x < n) : (p.map fun i => (List.range n).getD i 0) = p := by
  refine (List.map_congr_left fun x hx => ?_).trans (List.map_id' p)
  rw [List.getD_eq_getElem?_getD, List.getElem?_range (h x hx)]; rfl
section
variable {P : Program} {w : World} {K : PySem.W.Frag} {mg : Str → Option Value} {base : Heap} {C_HallError C_NoRule C_NoPaper C_NoPlace C_NoKey C_NoRow C_NoOrder C_TooFar C_Spent : Addr}
theorem ok_straight {f : Addr} {fd : FuncData} (F : Fun K "straight" "straight" s_straight f fd) (T : Bt K mg C_HallError C_NoRule C_NoPaper C_NoPlace C_NoKey C_NoRow C_NoOrder C_TooFar C_Spent)
    : FnOk P w K mg base CX0 1 f fd ["many"] (spStraight) := by
  refine F.ok sc_straight (fun vs H Q E h => ?_) (fun cdv A outer s H vs Q E hr h => ?_)
  · obtain ⟨n, rfl, hn, q⟩ := h
    rfl
  obtain ⟨n, rfl, hn, q⟩ := h
  refine ⟨_, (pss_one (ps_ret (pe_callTy (call_list_rng rfl) rfl T.b_list PyProof.Rows.boot_list (pa_cons (pe_callTy call_rng1 rfl T.b_range PyProof.Rows.boot_range (pa_cons (pv 0) pa_nil)) pa_nil)))), ?_⟩
  walk_at "rd"
  refine ⟨n, rfl, fun p hp => ⟨p, 0, n, rfl, upd_same, by omega, fun l hl => ?_⟩⟩
  exact q l _ ((same_new hp _).new hl) ((same_new hp _).free hl) (by rw [upd_same, rints_range])
theorem ok_is_number {f : Addr} {fd : FuncData} (F : Fun K "is_number" "is_number" s_is_number f fd) (T : Bt K mg C_HallError C_NoRule C_NoPaper C_NoPlace C_NoKey C_NoRow C_NoOrder C_TooFar C_Spent)
    : FnOk P w K mg base CX0 1 f fd ["some"] (spIsNumber) := by
  refine F.ok sc_is_number (fun vs H Q E h => ?_) (fun cdv A outer s H vs Q E hr h => ?_)
  · obtain ⟨i, rfl, q⟩ := h
    rfl
  obtain ⟨i, rfl, q⟩ := h
  refine ⟨_, (pss_one (ps_ret (pe_and (pe_callB call_isinst rfl T.b_isinstance PyProof.Rows.boot_isinstance (pa_cons (pv 0) (pa_cons (pe_bty rfl T.b_int PyProof.Rows.boot_int) pa_nil))) (pe_one (pe_not (pe_callB call_isinst rfl T.b_isinstance PyProof.Rows.boot_isinstance (pa_cons (pv 0) (pa_cons (pe_bty rfl T.b_bool PyProof.Rows.boot_bool) pa_nil)))))))), ?_⟩
  walk_at "rd"
  refine inst_int ?_
  walk_at "rd"
  refine inst_int_bl T.kit_int_bool ?_
  walk_at "rd"
  exact q
theorem ok_is_paper {f : Addr} {fd : FuncData} (F : Fun K "is_paper" "is_paper" s_is_paper f fd) (T : Bt K mg C_HallError C_NoRule C_NoPaper C_NoPlace C_NoKey C_NoRow C_NoOrder C_TooFar C_Spent)
    (f_straight : Fn P w K mg base CX0 "straight" 1 ["many"] (spStraight))
    (f_is_number : Fn P w K mg base CX0 "is_number" 1 ["some"] (spIsNumber))
    : FnOk P w K mg base CX0 2 f fd ["some"] (spIsPaper) := by
  refine F.ok sc_is_paper (fun vs H Q E h => ?_) (fun cdv A outer s H vs Q E hr h => ?_)
  · obtain ⟨a, zs, rfl, ha, hl, q⟩ := h
    rfl
  obtain ⟨a, zs, rfl, ha, hl, q⟩ := h
  refine ⟨_, (pss_cons (ps_if (PW.pt (pw_or (pt_not (pt_val (pe_callB call_isinst rfl T.b_isinstance PyProof.Rows.boot_isinstance (pa_cons (pv 0) (pa_cons (pe_bty rfl T.b_list PyProof.Rows.boot_list) pa_nil))))) (pw_or1 (pt_not (pt_val (pe_callB (call_all rfl) rfl T.b_all PyProof.Rows.boot_all (pa_cons (pe_comp rfl (k := 1) (js := []) (N' := ["number"]) (by rfl) (pi_list (pv 0)) (fun _ _ _ _ => pg_name (i := 0) (show (["number"] : List Str).Nodup by decide +kernel) rfl (by first | exact Or.inl rfl | exact Or.inr rfl)) (fun _ _ _ _ => pifs_nil) (fun _ _ _ _ => (pe_fn f_is_number (hr.mono (by decide)) rfl pass0 (pa_cons (pv 0) pa_nil)))) pa_nil)))))))
      (pss_one (ps_ret pe_bl)) pss_nil)
    (pss_one (ps_ret (pe_cmpR (op_eqD hr.units) (pe_callB call_sorted rfl T.b_sorted PyProof.Rows.boot_sorted (pa_cons (pv 0) pa_nil)) (pe_fn f_straight (hr.mono (by decide)) rfl pass0 (pa_cons (pe_callB call_len_seq rfl T.b_len PySem.boot_len (pa_cons (pv 0) pa_nil)) pa_nil)) (nomark _))))), ?_⟩
  walk_at "rd"
  refine inst_lst ha ?_
  walk_at "rd"
  refine compL_gen (SqL.of ha) (by rw [List.length_map]; omega) rfl (fun _ y _ => y = .bl true) (fun _ _ _ _ _ q => q) (fun i x H' hx e Q' k => ?_) fun ys H' l hyl hR e hn => ?_
  · obtain ⟨z, _, rfl⟩ := get_ints hx
    walk_at "rd"
    exact ⟨_, rfl, k _ _ (.refl _) rfl⟩
  have hys : ys = (List.replicate zs.length true).map V.bl := by
    rw [List.map_replicate]
    refine eq_rep (by rw [hyl, List.length_map]) fun j y hy => ?_
    have hj : j < ys.length := (List.getElem?_eq_some_iff.mp hy).1
    exact hR j _ y (List.getElem?_eq_getElem (by rw [← hyl]; exact hj)) hy
  refine ⟨l, List.replicate zs.length true, rfl, SqL.of (by rw [upd_same, hys]), ?_⟩
  rw [if_neg (by rw [all_true]; simp)]
  have s1 := e.new (o := .lst ys) hn
  refine ⟨a, zs, rfl, SqL.of (s1 _ _ ha), by omega, fun l2 ms hl2 hperm hsort => ?_⟩
  have s2 := s1.new (o := .lst (ms.map V.int)) hl2
  refine ⟨a, zs.map V.int, rfl, .inl (SqL.of (s2 _ _ ha)), ?_⟩
  rw [List.length_map]
  refine ⟨zs.length, rfl, by omega, fun l3 H3 s3 hn3 h3 => ?_⟩
  refine eqD_of Enc.int.list (by decide) (dp_ints (SqL.of (s3 _ _ upd_same))) (dp_ints (SqL.of h3)) ?_
  exact q _ _ (by rw [decide_eq_true_iff]; exact isP_sorted hperm hsort) (s2.trans s3)
theorem ok_check_paper {f : Addr} {fd : FuncData} (F : Fun K "check_paper" "check_paper" s_check_paper f fd) (T : Bt K mg C_HallError C_NoRule C_NoPaper C_NoPlace C_NoKey C_NoRow C_NoOrder C_TooFar C_Spent)
    (f_is_paper : Fn P w K mg base CX0 "is_paper" 2 ["some"] (spIsPaper))
    : FnOk P w K mg base (CXE P w) 3 f fd ["some", "many"] (spCheckPaper C_NoPaper) := by
  refine F.okX sc_check_paper (fun vs H Q E h => ?_) (fun cdv A outer s H vs Q E hr h => ?_)
  · obtain ⟨a, zs, m, rfl, ha, hl, qg, qb⟩ := h
    rfl
  obtain ⟨a, zs, m, rfl, ha, hl, qg, qb⟩ := h
  refine ⟨_, (pss_one (ps_if (PW.pt (pw_or (pt_not (pt_val (pe_fn f_is_paper (hr.mono (by decide)) rfl pass0 (pa_cons (pv 0) pa_nil)))) (pw_or1 (pt_cmpR op_ne (pe_callB call_len_seq rfl T.b_len PySem.boot_len (pa_cons (pv 0) pa_nil)) (pv 1) (nomark _)))))
      (pss_one (ps_raise0 T.xq_NoPaper T.m_NoPaper rfl)) pss_nil)), ?_⟩
  walk_at "rd"
  refine ⟨a, zs, rfl, ha, hl, fun b H1 hb s1 => ⟨b, rfl, ?_⟩⟩
  by_cases hp : isP zs
  · rw [if_neg (by rw [hb.mpr hp]; decide)]
    refine ⟨a, _, rfl, .inl (SqL.of (s1 _ _ ha)), ?_⟩
    rw [List.length_map]
    by_cases hm : (zs.length : Int) = m
    · rw [if_neg (fun z => z hm)]; exact qg ⟨hp, hm⟩ _ s1
    · rw [if_pos hm]; exact qb (fun z => hm z.2) _ s1
  · rw [if_pos (by cases b; rfl; exact absurd (hb.mp rfl) hp)]
    exact qb (fun z => hp z.1) _ s1
theorem ok_laid {f : Addr} {fd : FuncData} (F : Fun K "laid" "laid" s_laid f fd) (T : Bt K mg C_HallError C_NoRule C_NoPaper C_NoPlace C_NoKey C_NoRow C_NoOrder C_TooFar C_Spent)
    (f_check_paper : Fn P w K mg base (CXE P w) "check_paper" 3 ["some", "many"] (spCheckPaper C_NoPaper))
    : FnOk P w K mg base (CXE P w) 4 f fd ["row", "paper"] (spLaid C_NoPaper) := by
  refine F.okX sc_laid (fun vs H Q E h => ?_) (fun cdv A outer s H vs Q E hr h => ?_)
  · obtain ⟨r, a, xs, zs, rfl, hr', ha, hl, qg, qb⟩ := h
    rfl
  obtain ⟨r, a, xs, zs, rfl, hr', ha, hl, qg, qb⟩ := h
  refine ⟨_, (pss_cons (ps_expr (pe_fn f_check_paper (hr.mono (by decide)) rfl passX (pa_cons (pv 1) (pa_cons (pe_callB call_len_seq rfl T.b_len PySem.boot_len (pa_cons (pv 0) pa_nil)) pa_nil))))
    (pss_one (PS.nox (ps_ret (pe_comp rfl (k := 1) (js := [0]) (N' := ["place", "row"]) (by rfl) (pi_list (pv 1)) (fun _ _ _ _ => pg_name (i := 0) (show (["place", "row"] : List Str).Nodup by decide +kernel) rfl (by first | exact Or.inl rfl | exact Or.inr rfl)) (fun _ _ _ _ => pifs_nil) (fun _ _ _ _ => (pe_ix (ix_listK K) (pv 1) (pv 0) (fun _ _ => rfl)))))))), ?_⟩
  walk_at "rd"
  refine ⟨r, xs, rfl, .inl (SqL.of hr'), a, zs, _, rfl, ha, hl, ?_, fun hbad H1 s1 => qb (fun z => hbad ⟨z.1, by rw [z.2]⟩) H1 s1⟩
  rintro ⟨⟨p, hp, rfl⟩, hlen⟩ H1 s1
  rw [List.length_map] at hlen hl
  have hx : p.length = xs.length := by omega
  refine compL_gen (rest := [some (.ref r)]) (SqL.of (s1 _ _ ha)) (by rw [NL_len]; omega) rfl (fun x y _ => ∀ i : Nat, x = .int i → y = xs.getD i .non) (fun _ _ _ _ _ q => q) (fun i x H' hx' e Q' k => ?_) fun ys H' l hyl hR e hn => ?_
  · obtain ⟨hi, rfl⟩ := NL_get hx'
    walk_at "rd"
    have hlt := hp.at_lt hi
    refine ixL_of (SqL.of (e _ _ (s1 _ _ hr'))) (atI_of (Int.natCast_nonneg _) (v := xs.getD (Pap.at' p i) .non) ?_) (k _ _ (.refl _) fun j hj => ?_)
    · rw [Int.toNat_natCast, List.getD_eq_getElem?_getD, List.getElem?_eq_getElem (by omega)]; rfl
    · have : ((Pap.at' p i : Nat) : Int) = j := by injection hj
      rw [show Pap.at' p i = j by omega]
  refine qg p hp rfl hx l _ ((s1.trans e).new hn) ((s1.trans e).free hn) ?_
  rw [upd_same]
  have : ys = p.map fun i => xs.getD i .non := by
    refine List.ext_getElem? fun j => ?_
    rw [NL_len] at hyl
    by_cases hj : j < p.length
    · rw [List.getElem?_map, Pap.at_lt hj, List.getElem?_eq_getElem (by omega)]
      exact congrArg some (hR j _ _ (NL_at hj) (List.getElem?_eq_getElem (by omega)) _ rfl)
    · rw [List.getElem?_eq_none (by omega), List.getElem?_eq_none (by rw [List.length_map]; omega)]
  rw [this]
theorem ok_back {f : Addr} {fd : FuncData} (F : Fun K "back" "back" s_back f fd) (T : Bt K mg C_HallError C_NoRule C_NoPaper C_NoPlace C_NoKey C_NoRow C_NoOrder C_TooFar C_Spent)
    (f_check_paper : Fn P w K mg base (CXE P w) "check_paper" 3 ["some", "many"] (spCheckPaper C_NoPaper))
    (f_straight : Fn P w K mg base CX0 "straight" 1 ["many"] (spStraight))
    : FnOk P w K mg base (CXE P w) 4 f fd ["paper"] (spBack C_NoPaper) := by
  refine F.okX sc_back (fun vs H Q E h => ?_) (fun cdv A outer s H vs Q E hr h => ?_)
  · obtain ⟨a, zs, rfl, ha, hl, qg, qb⟩ := h
    rfl
  obtain ⟨a, zs, rfl, ha, hl, qg, qb⟩ := h
  refine ⟨_, (pss_cons (ps_expr (pe_fn f_check_paper (hr.mono (by decide)) rfl passX (pa_cons (pv 0) (pa_cons (pe_callB call_len_seq rfl T.b_len PySem.boot_len (pa_cons (pv 0) pa_nil)) pa_nil))))
    (pss_cons (PS.nox (ps_set (i := 1) sc_back.nd rfl (by first | exact Or.inl rfl | exact Or.inr rfl) (pe_fn f_straight (hr.mono (by decide)) rfl pass0 (pa_cons (pe_callB call_len_seq rfl T.b_len PySem.boot_len (pa_cons (pv 0) pa_nil)) pa_nil))))
    (pss_cons (PS.nox (ps_for PassesOwn.never rfl (pi_enum rfl T.b_enumerate (pa_cons (pv 0) pa_nil)) (pg_tup (n := 2) rfl (pgs_cons (pg_name (i := 2) sc_back.nd rfl (by first | exact Or.inl rfl | exact Or.inr rfl)) (pgs_cons (pg_name (i := 3) sc_back.nd rfl (by first | exact Or.inl rfl | exact Or.inr rfl)) pgs_nil)))
      (pss_one (ps_asg (pv 2) (pg_sub (pv 1) (pv 3) set_list)))))
    (pss_one (PS.nox (ps_ret (pv 1))))))), ?_⟩
  walk_at "rd"
  refine ⟨a, _, rfl, .inl (SqL.of ha), a, zs, _, rfl, ha, hl, ?_, fun hbad H1 s1 => qb (fun z => hbad ⟨z, by rw [List.length_map]⟩) H1 s1⟩
  rintro ⟨⟨p, hp, rfl⟩, _⟩ H1 s1
  rw [List.length_map] at hl
  refine ⟨a, NL p, rfl, .inl (SqL.of (s1 _ _ ha)), ?_⟩
  rw [NL_len]
  refine ⟨p.length, rfl, by omega, fun l H2 s2 hl2 h2 => ?_⟩
  have hal : a ≠ l := ne_of_none (s1 _ _ ha) hl2
  have hln : H l = none := s1.free hl2
  refine forE_of (SqL.of (s2 _ _ (s1 _ _ ha))) (fun i σ H' => ∃ v2 v3, σ = [some (.ref a), some (.ref l), v2, v3] ∧ H' a = some (.lst (NL p)) ∧ H' l = some (.lst (NL (Pap.spots p i))) ∧ Same H H') ⟨_, _, rfl, s2 _ _ (s1 _ _ ha), by rw [Pap.spots_zero]; exact h2, s1.trans s2⟩ (fun i σ H' _ ⟨_, _, _, h, _⟩ => SqL.of h) ?_ ?_
  · rintro i x σ H' t hx ⟨v2, v3, rfl, h3, h4, h5⟩ ht
    obtain ⟨hi, rfl⟩ := NL_get hx
    refine gTup_of (SqT.of upd_same) rfl ?_
    walk_at "rd"
    have h3' := (same_new ht (.tup [.int i, .int (Pap.at' p i)])) _ _ h3
    have h4' := (same_new ht (.tup [.int i, .int (Pap.at' p i)])) _ _ h4
    have hlt := hp.at_lt hi
    refine ⟨l, _, _, _, rfl, rfl, h4', ixN_of (by omega) (by rw [NL_len, Pap.spots_len]; omega), ?_⟩
    refine ⟨_, _, rfl, by rw [upd_ne hal]; exact h3', ?_, (h5.new ht).upd hln⟩
    rw [upd_same, Int.toNat_natCast, ← Pap.spots_step hp hi, NL, NL, List.map_set, List.map_set]
  · rintro σ H' ⟨v2, v3, rfl, h3, h4, h5⟩
    rw [NL_len, Pap.spots_end hp] at h4
    walk_at "rd"
    exact qg p hp rfl l _ h5 hln h4
theorem ok_behind {f : Addr} {fd : FuncData} (F : Fun K "behind" "behind" s_behind f fd) (T : Bt K mg C_HallError C_NoRule C_NoPaper C_NoPlace C_NoKey C_NoRow C_NoOrder C_TooFar C_Spent)
    (f_check_paper : Fn P w K mg base (CXE P w) "check_paper" 3 ["some", "many"] (spCheckPaper C_NoPaper))
    (f_laid : Fn P w K mg base (CXE P w) "laid" 4 ["row", "paper"] (spLaid C_NoPaper))
    : FnOk P w K mg base (CXE P w) 5 f fd ["first", "second"] (spBehind C_NoPaper) := by
  refine F.okX sc_behind (fun vs H Q E h => ?_) (fun cdv A outer s H vs Q E hr h => ?_)
  · obtain ⟨a, b, zs, ys, rfl, ha, hb, hl, hl2, hbad, qb⟩ := h
    rfl
  obtain ⟨a, b, zs, ys, rfl, ha, hb, hl, hl2, hbad, qb⟩ := h
  refine ⟨_, (pss_cons (ps_expr (pe_fn f_check_paper (hr.mono (by decide)) rfl passX (pa_cons (pv 0) (pa_cons (pe_callB call_len_seq rfl T.b_len PySem.boot_len (pa_cons (pv 0) pa_nil)) pa_nil))))
    (pss_one (ps_ret (pe_fn f_laid (hr.mono (by decide)) rfl passX (pa_cons (pv 0) (pa_cons (pv 1) pa_nil)))))), ?_⟩
  walk_at "rd"
  refine ⟨a, _, rfl, .inl (SqL.of ha), a, zs, _, rfl, ha, hl, ?_, fun _ H1 s1 => qb H1 s1⟩
  rintro ⟨hp, _⟩ H1 s1
  refine ⟨a, b, _, ys, rfl, s1 _ _ ha, s1 _ _ hb, hl2, fun p hp2 e hlen => ?_, fun _ H2 s2 => qb H2 (s1.trans s2)⟩
  exact (hbad ⟨hp, ⟨p, hp2, e⟩, by rw [e, List.length_map, hlen, List.length_map]⟩).elim
theorem ok_cell_at {f : Addr} {fd : FuncData} (F : Fun K "_law_cell_at" "_law_cell_at" s_cell_at f fd) (T : Bt K mg C_HallError C_NoRule C_NoPaper C_NoPlace C_NoKey C_NoRow C_NoOrder C_TooFar C_Spent)
    : FnOk P w K mg base CX0 1 f fd ["_law_script", "_law_k"] (spCell K) := by
  refine F.ok sc_cell_at (fun vs H Q E h => ?_) (fun cdv A outer s H vs Q E hr h => ?_)
  · obtain ⟨a, ns, k, rfl, hS, h0, q⟩ := h
    rfl
  obtain ⟨a, ns, k, rfl, hS, h0, q⟩ := h
  refine ⟨_, (pss_cons (ps_if (pt_cmpR op_lt (pv 1) (pe_callB call_len_seq rfl T.b_len PySem.boot_len (pa_cons (pv 0) pa_nil)) (nomark _))
      (pss_one (ps_ret (pe_ix ix_list (pv 0) (pv 1) (fun _ _ => rfl)))) pss_nil)
    (pss_one (ps_ret pe_int))), ?_⟩
  walk_at "rd"
  refine ⟨a, _, rfl, .inl hS, ?_⟩
  walk_at "rd"
  rw [List.length_map]
  unfold cellOf at q
  split
  · rename_i hk
    rw [if_pos hk] at q
    have hk' : k.toNat < ns.length := by omega
    refine ixL_of hS (atI_ints h0 (List.getElem?_eq_getElem hk')) ?_
    rw [List.getElem?_eq_getElem hk'] at q
    exact q
  · rename_i hk
    rw [if_neg hk] at q
    exact q
theorem ok_paper_by {f : Addr} {fd : FuncData} (F : Fun K "_law_paper_by" "_law_paper_by" s_paper_by f fd) (T : Bt K mg C_HallError C_NoRule C_NoPaper C_NoPlace C_NoKey C_NoRow C_NoOrder C_TooFar C_Spent)
    : FnOk P w K mg base CX0 1 f fd ["_law_cells"] (spPaperBy) := by
  refine F.ok sc_paper_by (fun vs H Q E h => ?_) (fun cdv A outer s H vs Q E hr h => ?_)
  · obtain ⟨c, ns, rfl, hc, hn, q⟩ := h
    rfl
  obtain ⟨c, ns, rfl, hc, hn, q⟩ := h
  refine ⟨_, (pss_cons (ps_set (i := 1) sc_paper_by.nd rfl (by first | exact Or.inl rfl | exact Or.inr rfl) (pe_lst pa_nil))
    (pss_cons (ps_for PassesOwn.never rfl (pi_range1 rfl T.b_range (pa_cons (pe_callB call_len_seq rfl T.b_len PySem.boot_len (pa_cons (pv 0) pa_nil)) pa_nil)) (pg_name (i := 2) sc_paper_by.nd rfl (by first | exact Or.inl rfl | exact Or.inr rfl))
      (pss_one (ps_expr (pe_bm PySem.F.plainAttrs_list PySem.F.slot_list_insert PySem.F.type_list_insert mt_insert (pv 1) (pa_cons (pe_op op_mod (pe_ix ix_list (pv 0) (pv 2) (fun _ _ => rfl)) (pe_op op_add (pv 2) pe_int)) (pa_cons (pv 2) pa_nil))))))
    (pss_one (ps_ret (pv 1))))), ?_⟩
  walk_at "rd"
  refine ⟨le_line (by decide), fun l hl => ?_⟩
  have hcl : c ≠ l := ne_of_none hc hl
  refine ⟨c, _, rfl, .inl (SqL.of (same_new hl _ _ _ hc)), ?_⟩
  walk_at "rd"
  rw [List.length_map]
  refine forR1_of (by omega) (forR_of (fun i σ H' => ∃ (v2 : Option V) (p : List Nat), σ = [some (.ref c), some (.ref l), v2] ∧ H' c = some (.lst (ns.map V.int)) ∧ H' l = some (.lst (NL p)) ∧ Pap.IsP p ∧ p.length = i ∧ Same H H') ⟨_, [], rfl, same_new hl _ _ _ hc, upd_same, Pap.IsP.range 0, rfl, same_new hl _⟩ ?_ ?_)
  · rintro i σ H' hi ⟨v2, p, rfl, h1, h2, hp, hpl, hs⟩
    have hi' : i < ns.length := by omega
    walk_at "rd"
    refine ⟨.inl ⟨rfl, _, SqL.of h2⟩, ?_⟩
    refine ixL_of (SqL.of h1) (atI_ints (v := ns[i]) (by omega) (by rw [show (0 + (i : Int)).toNat = i by omega]; exact List.getElem?_eq_getElem hi')) ?_
    walk_at "rd"
    have y0 := Int.emod_nonneg ns[i] (show (0 + (i : Int) + 1) ≠ 0 by omega)
    have y1 := Int.emod_lt_of_pos ns[i] (show 0 < 0 + (i : Int) + 1 by omega)
    refine ⟨by omega, ?_⟩
    generalize ns[i] % (0 + (i : Int) + 1) = y at y0 y1 ⊢
    refine ⟨l, _, y, _, rfl, rfl, h2, by rw [NL_len]; exact small1000 (by omega), by omega, ?_⟩
    refine ⟨_, _, rfl, by rw [upd_ne hcl]; exact h1, ?_, hp.ins y.toNat, ?_, hs.upd hl⟩
    · rw [upd_same, show (0 + (i : Int)) = ((p.length : Nat) : Int) by omega, insV_NL y0 (by omega)]
    · rw [List.length_append, List.length_cons, List.length_take, List.length_drop]; omega
  · rintro σ H' ⟨v2, p, rfl, h1, h2, hp, hpl, hs⟩
    walk_at "rd"
    exact q l _ p hs hl h2 hp (by rw [hpl]; omega)
theorem ok_spoiled {f : Addr} {fd : FuncData} (F : Fun K "_law_spoiled" "_law_spoiled" s_spoiled f fd) (T : Bt K mg C_HallError C_NoRule C_NoPaper C_NoPlace C_NoKey C_NoRow C_NoOrder C_TooFar C_Spent)
    : FnOk P w K mg base CX0 1 f fd ["_law_paper", "_law_cell", "_law_number"] (spSpoiled) := by
  refine F.ok sc_spoiled (fun vs H Q E h => ?_) (fun cdv A outer s H vs Q E hr h => ?_)
  · obtain ⟨pp, p, c, n, rfl, hpp, hpl, q⟩ := h
    rfl
  obtain ⟨pp, p, c, n, rfl, hpp, hpl, q⟩ := h
  refine ⟨_, (pss_cons (ps_set (i := 3) sc_spoiled.nd rfl (by first | exact Or.inl rfl | exact Or.inr rfl) (pe_callB call_len_seq rfl T.b_len PySem.boot_len (pa_cons (pv 0) pa_nil)))
    (pss_cons (ps_if (pt_cmpR op_eq (pv 3) pe_int (nomark _))
      (pss_one (ps_ret (pe_lst (pa_cons (pe_ix ix_list (pe_lst (pa_cons (pe_un un_neg pe_int) (pa_cons pe_int (pa_cons pe_int (pa_cons (pv 2) pa_nil))))) (pe_op op_mod (pv 1) pe_int) (fun _ _ => rfl)) pa_nil)))) pss_nil)
    (pss_cut
    (pss_cons (ps_set (i := 4) sc_spoiled.nd rfl (by first | exact Or.inl rfl | exact Or.inr rfl) (pe_op op_mod (pe_op op_fdiv (pv 1) pe_int) (pv 3)))
    (pss_cut
    (pss_cons (ps_set (i := 5) sc_spoiled.nd rfl (by first | exact Or.inl rfl | exact Or.inr rfl) (pe_op op_mod (pv 1) pe_int))
    (pss_cut
    (pss_cons (ps_if (pt_cmpR op_eq (pv 5) pe_int (nomark _))
      (pss_one (ps_ret (pe_op op_cat (pv 0) (pe_lst (pa_cons (pe_op op_mod (pv 2) (pe_op op_add (pv 3) pe_int)) pa_nil))))) pss_nil)
    (pss_cut
    (pss_cons (ps_if (pt_cmpR op_eq (pv 5) pe_int (nomark _))
      (pss_one (ps_ret (pe_op op_cat (pe_slice sl_list (pv 0) po_none (po_some (pv 4))) (pe_slice sl_list (pv 0) (po_some (pe_op op_add (pv 4) pe_int)) po_none)))) pss_nil)
    (pss_cut
    (pss_cons (ps_if (pt_cmpR op_eq (pv 5) pe_int (nomark _))
      (pss_cons (ps_set (i := 6) sc_spoiled.nd rfl (by first | exact Or.inl rfl | exact Or.inr rfl) (pe_callTy call_list_of rfl T.b_list PyProof.Rows.boot_list (pa_cons (pv 0) pa_nil)))
      (pss_cons (ps_asg (pe_op op_add (pe_ix ix_list (pv 6) (pv 4) (fun _ _ => rfl)) pe_int) (pg_sub (pv 6) (pv 4) set_list))
      (pss_cons (ps_asg (pe_op op_sub (pe_ix ix_list (pv 6) (pe_op op_mod (pv 2) (pv 3)) (fun _ _ => rfl)) pe_int) (pg_sub (pv 6) (pe_op op_mod (pv 2) (pv 3)) set_list))
      (pss_one (ps_ret (pv 6)))))) pss_nil)
    (pss_cut
    (pss_cons (ps_if (pt_cmpR op_eq (pv 5) pe_int (nomark _))
      (pss_one (ps_ret (pe_op op_cat (pe_op op_cat (pe_slice sl_list (pv 0) po_none (po_some (pv 4))) (pe_lst (pa_cons (pe_ix ix_list (pv 0) (pv 4) (fun _ _ => rfl)) pa_nil))) (pe_slice sl_list (pv 0) (po_some (pv 4)) po_none)))) pss_nil)
    (pss_cut
    (pss_one (ps_ret (pe_op op_cat (pe_op op_cat (pe_slice sl_list (pv 0) po_none (po_some (pv 4))) (pe_lst (pa_cons (pe_ix ix_list (pe_lst (pa_cons (pe_un un_neg pe_int) (pa_cons (pv 3) (pa_cons (pe_ix ix_list (pv 0) (pe_op op_mod (pv 2) (pv 3)) (fun _ _ => rfl)) (pa_cons (pv 2) pa_nil))))) (pv 5) (fun _ _ => rfl)) pa_nil))) (pe_slice sl_list (pv 0) (po_some (pe_op op_add (pv 4) pe_int)) po_none))))))))))))))))))), ?_⟩
  walk_at "rd"
  refine ⟨pp, _, rfl, .inl (SqL.of hpp), ?_⟩
  rw [NL_len]
  by_cases h0 : (p.length : Int) = 0
  · rw [if_pos h0]
    refine ⟨by decide, fun l1 hl1 => ⟨by decide, ?_⟩⟩
    have y0 := Int.emod_nonneg c (show (4 : Int) ≠ 0 by decide)
    have y1 := Int.emod_lt_of_pos c (show (0 : Int) < 4 by decide)
    obtain ⟨v, hv⟩ : ∃ v, [(-1 : Int), 0, 1, n][(c % 4).toNat]? = some v := ⟨_, List.getElem?_eq_getElem (show (c % 4).toNat < 4 by omega)⟩
    refine ixL_of (SqL.of upd_same) (atI_ints (xs := [-1, 0, 1, n]) y0 hv) ⟨by decide, fun l2 hl2 => ?_⟩
    exact q l2 _ [v] ((same_new hl1 _).new hl2) ((same_new hl1 _).free hl2) upd_same (by show 1 ≤ 61; decide)
  rw [if_neg h0]
  refine cut_of ?_
  walk_at "rd"
  refine ⟨⟨by decide, by decide⟩, by omega, ?_⟩
  have y0 := Int.emod_nonneg (c / 8) (show (p.length : Int) ≠ 0 by omega)
  have y1 := Int.emod_lt_of_pos (c / 8) (show (0 : Int) < p.length by omega)
  obtain ⟨k, hk⟩ : ∃ k : Nat, c / 8 % (p.length : Int) = (k : Int) := ⟨(c / 8 % (p.length : Int)).toNat, by omega⟩
  rw [hk] at y0 y1 ⊢
  have hkp : k < p.length := by omega
  refine cut_of ?_
  walk_at "rd"
  refine ⟨by decide, ?_⟩
  have w0 := Int.emod_nonneg c (show (8 : Int) ≠ 0 by decide)
  have w1 := Int.emod_lt_of_pos c (show (0 : Int) < 8 by decide)
  generalize c % 8 = wy at w0 w1 ⊢
  have hlP : (p.map fun x : Nat => (x : Int)).length = p.length := List.length_map ..
  refine cut_of ?_
  walk_at "rd"
  by_cases e4 : wy = 4
  · rw [if_pos e4]
    refine ⟨by omega, by decide, fun l1 hl1 => ?_⟩
    refine ⟨pp, l1, _, _, rfl, rfl, same_new hl1 _ _ _ hpp, upd_same, by rw [NL_len, sizeLine_eq]; show p.length + 1 ≤ _; omega, fun l2 hl2 => ?_⟩
    exact q l2 _ ((p.map fun x : Nat => (x : Int)) ++ [n % ((p.length : Int) + 2)]) ((same_new hl1 _).new hl2) ((same_new hl1 _).free hl2) (by rw [upd_same, List.map_append]; rfl) (by rw [List.length_append, hlP]; show p.length + 1 ≤ 61; omega)
  rw [if_neg e4]
  obtain ⟨pz, hpz⟩ : ∃ pz, (p.map fun x : Nat => (x : Int)) = pz := ⟨_, rfl⟩
  have hpp : H pp = some (.lst (pz.map V.int)) := by rw [← hpz]; exact hpp
  rw [hpz] at hlP
  have hzl : (pz.map V.int).length = p.length := by rw [List.length_map]; exact hlP
  clear hpz
  have cTo : ∀ j : Nat, j ≤ p.length → cutV (pz.map V.int) none (some (j : Int)) = (pz.take j).map V.int := fun j hj => by rw [cutV_to (by omega), List.map_take]
  have cFr : ∀ j : Nat, j ≤ p.length → cutV (pz.map V.int) (some (j : Int)) none = (pz.drop j).map V.int := fun j hj => by rw [cutV_from _ _ (by omega), List.map_drop]
  have ixz : ∀ j : Nat, j < p.length → ∃ v, pz[j]? = some v := fun j hj => ⟨_, List.getElem?_eq_getElem (by omega)⟩
  refine cut_of ?_
  walk_at "rd"
  by_cases e5 : wy = 5
  · rw [if_pos e5]
    refine slL_of (SqL.of hpp) fun l1 hl1 => ?_
    rw [cTo k (by omega)]
    obtain ⟨G1, g1, sG1, hG1⟩ := newH hl1 (.lst ((pz.take k).map V.int))
    rw [g1]; clear g1
    refine slL_of (SqL.of (sG1 _ _ hpp)) fun l2 hl2 => ?_
    rw [show ((k : Int) + 1) = ((k + 1 : Nat) : Int) by omega, cFr (k + 1) (by omega)]
    obtain ⟨G2, g2, sG2, hG2⟩ := newH hl2 (.lst ((pz.drop (k + 1)).map V.int))
    rw [g2]; clear g2
    refine ⟨l1, l2, _, _, rfl, rfl, sG2 _ _ hG1, hG2, by rw [List.length_map, List.length_map, List.length_take, List.length_drop, sizeLine_eq]; omega, fun l3 hl3 => ?_⟩
    exact q l3 _ (pz.take k ++ pz.drop (k + 1)) ((sG1.trans sG2).new hl3) ((sG1.trans sG2).free hl3) (by rw [upd_same, List.map_append]) (by rw [List.length_append, List.length_take, List.length_drop]; omega)
  rw [if_neg e5]
  have m0 := Int.emod_nonneg n (show (p.length : Int) ≠ 0 by omega)
  have m1 := Int.emod_lt_of_pos n (show (0 : Int) < p.length by omega)
  obtain ⟨j, hj⟩ : ∃ j : Nat, n % (p.length : Int) = (j : Int) := ⟨(n % (p.length : Int)).toNat, by omega⟩
  have hjp : j < p.length := by omega
  refine cut_of ?_
  walk_at "rd"
  by_cases e6 : wy = 6
  · rw [if_pos e6]
    refine ⟨pp, _, rfl, .inl (SqL.of hpp), fun l1 hl1 => ?_⟩
    obtain ⟨v, hv⟩ := ixz k hkp
    refine ixL_of (SqL.of upd_same) (atI_ints (by omega) (by rw [Int.toNat_natCast]; exact hv)) ?_
    walk_at "rd"
    refine ⟨l1, _, _, _, rfl, rfl, upd_same, ixN_of (by omega) (by omega), ?_⟩
    rw [upd_upd, Int.toNat_natCast, ← List.map_set]
    obtain ⟨pz2, hz2⟩ : ∃ pz2, pz.set k (v + 1) = pz2 := ⟨_, rfl⟩
    have hz2l : pz2.length = p.length := by rw [← hz2, List.length_set]; exact hlP
    rw [hz2]
    obtain ⟨v2, hv2⟩ : ∃ v2, pz2[j]? = some v2 := ⟨_, List.getElem?_eq_getElem (by omega)⟩
    refine ⟨by omega, ?_⟩
    rw [hj]
    refine ixL_of (SqL.of upd_same) (atI_ints (by omega) (by rw [Int.toNat_natCast]; exact hv2)) ?_
    walk_at "rd"
    refine ⟨by omega, l1, _, _, _, rfl, rfl, upd_same, ixN_of (by omega) (by rw [List.length_map]; omega), ?_⟩
    rw [upd_upd, Int.toNat_natCast, ← List.map_set]
    exact q l1 _ _ (same_new hl1 _) hl1 upd_same (by rw [List.length_set]; omega)
  rw [if_neg e6]
  refine cut_of ?_
  walk_at "rd"
  by_cases e7 : wy = 7
  · rw [if_pos e7]
    refine slL_of (SqL.of hpp) fun l1 hl1 => ?_
    rw [cTo k (by omega)]
    obtain ⟨G1, g1, sG1, hG1⟩ := newH hl1 (.lst ((pz.take k).map V.int))
    rw [g1]; clear g1
    obtain ⟨v, hv⟩ := ixz k hkp
    refine ixL_of (SqL.of (sG1 _ _ hpp)) (atI_ints (by omega) (by rw [Int.toNat_natCast]; exact hv)) ⟨by decide, fun l2 hl2 => ?_⟩
    obtain ⟨G2, g2, sG2, hG2⟩ := newH hl2 (.lst ([v].map V.int))
    rw [show upd G1 l2 (HO.lst [V.int v]) = G2 from g2]; clear g2
    refine ⟨l1, l2, _, _, rfl, rfl, sG2 _ _ hG1, hG2, by rw [List.length_map, List.length_map, List.length_take, sizeLine_eq]; show _ + 1 ≤ _; omega, fun l3 hl3 => ?_⟩
    rw [← List.map_append]
    obtain ⟨G3, g3, sG3, hG3⟩ := newH hl3 (.lst ((pz.take k ++ [v]).map V.int))
    rw [g3]; clear g3
    have S3 := sG1.trans (sG2.trans sG3)
    refine slL_of (SqL.of (S3 _ _ hpp)) fun l4 hl4 => ?_
    rw [cFr k (by omega)]
    obtain ⟨G4, g4, sG4, hG4⟩ := newH hl4 (.lst ((pz.drop k).map V.int))
    rw [g4]; clear g4
    refine ⟨l3, l4, _, _, rfl, rfl, sG4 _ _ hG3, hG4, by rw [List.length_map, List.length_map, List.length_append, List.length_take, List.length_drop, sizeLine_eq]; show _ + 1 + _ ≤ _; omega, fun l5 hl5 => ?_⟩
    exact q l5 _ ((pz.take k ++ [v]) ++ pz.drop k) ((S3.trans sG4).new hl5) ((S3.trans sG4).free hl5) (by rw [upd_same]; simp only [List.map_append]) (by rw [List.length_append, List.length_append, List.length_take, List.length_drop]; show _ + 1 + _ ≤ 61; omega)
  rw [if_neg e7]
  refine cut_of ?_
  walk_at "rd"
  refine slL_of (SqL.of hpp) fun l1 hl1 => ?_
  rw [cTo k (by omega)]
  obtain ⟨G1, g1, sG1, hG1⟩ := newH hl1 (.lst ((pz.take k).map V.int))
  rw [g1]; clear g1
  refine ⟨by omega, ?_⟩
  rw [hj]
  obtain ⟨v, hv⟩ := ixz j hjp
  refine ixL_of (SqL.of (sG1 _ _ hpp)) (atI_ints (by omega) (by rw [Int.toNat_natCast]; exact hv)) ⟨by decide, fun l2 hl2 => ?_⟩
  obtain ⟨u, hu⟩ : ∃ u, [(-1 : Int), (p.length : Int), v, n][wy.toNat]? = some u := ⟨_, List.getElem?_eq_getElem (show wy.toNat < 4 by omega)⟩
  obtain ⟨G2, g2, sG2, hG2⟩ := newH hl2 (.lst ([(-1 : Int), (p.length : Int), v, n].map V.int))
  rw [show upd G1 l2 (HO.lst [V.int (-1), V.int (p.length : Int), V.int v, V.int n]) = G2 from g2]; clear g2
  refine ixL_of (SqL.of hG2) (atI_ints w0 hu) ⟨by decide, fun l3 hl3 => ?_⟩
  obtain ⟨G3, g3, sG3, hG3⟩ := newH hl3 (.lst ([u].map V.int))
  rw [show upd G2 l3 (HO.lst [V.int u]) = G3 from g3]; clear g3
  refine ⟨l1, l3, _, _, rfl, rfl, sG3 _ _ (sG2 _ _ hG1), hG3, by rw [List.length_map, List.length_map, List.length_take, sizeLine_eq]; show _ + 1 ≤ _; omega, fun l4 hl4 => ?_⟩
  rw [← List.map_append]
  obtain ⟨G4, g4, sG4, hG4⟩ := newH hl4 (.lst ((pz.take k ++ [u]).map V.int))
  rw [g4]; clear g4
  have S4 := sG1.trans (sG2.trans (sG3.trans sG4))
  refine slL_of (SqL.of (S4 _ _ hpp)) fun l5 hl5 => ?_
  rw [show ((k : Int) + 1) = ((k + 1 : Nat) : Int) by omega, cFr (k + 1) (by omega)]
  obtain ⟨G5, g5, sG5, hG5⟩ := newH hl5 (.lst ((pz.drop (k + 1)).map V.int))
  rw [g5]; clear g5
  refine ⟨l4, l5, _, _, rfl, rfl, sG5 _ _ hG4, hG5, by rw [List.length_map, List.length_map, List.length_append, List.length_take, List.length_drop, sizeLine_eq]; show _ + 1 + _ ≤ _; omega, fun l6 hl6 => ?_⟩
  exact q l6 _ ((pz.take k ++ [u]) ++ pz.drop (k + 1)) ((S4.trans sG5).new hl6) ((S4.trans sG5).free hl6) (by rw [upd_same]; simp only [List.map_append]) (by rw [List.length_append, List.length_append, List.length_take, List.length_drop]; show _ + 1 + _ ≤ 61; omega)
theorem ok_refused {f : Addr} {fd : FuncData} (F : Fun K "_law_refused" "_law_refused" s_refused f fd) (T : Bt K mg C_HallError C_NoRule C_NoPaper C_NoPlace C_NoKey C_NoRow C_NoOrder C_TooFar C_Spent)
    (f_back : Fn P w K mg base (CXE P w) "back" 4 ["paper"] (spBack C_NoPaper))
    (f_laid : Fn P w K mg base (CXE P w) "laid" 4 ["row", "paper"] (spLaid C_NoPaper))
    (f_behind : Fn P w K mg base (CXE P w) "behind" 5 ["first", "second"] (spBehind C_NoPaper))
    : FnOk P w K mg base CX0 6 f fd ["_law_way", "_law_first", "_law_second"] (spRefused) := by
  refine F.ok sc_refused (fun vs H Q E h => ?_) (fun cdv A outer s H vs Q E hr h => ?_)
  · obtain ⟨wy, x, y, rfl, hre, q⟩ := h
    rfl
  obtain ⟨wy, x, y, rfl, hre, q⟩ := h
  refine ⟨_, (pss_cons (ps_set (i := 3) sc_refused.nd rfl (by first | exact Or.inl rfl | exact Or.inr rfl) (pe_lst pa_nil))
    (pss_cons (ps_try (i := 4) ⟨rfl, rfl⟩ rfl rfl T.m_HallError sc_refused.nd rfl rfl (fun pn xe E hp =>
      (pss_one (ps_if (pt_cmpR op_eq (pv 0) pe_int (nomark _))
        (pss_one (ps_expr (pe_fnS f_back (hr.mono (by decide)) rfl hp (pa_cons (pv 1) pa_nil))))
        (pss_one (ps_if (pt_cmpR op_eq (pv 0) pe_int (nomark _))
          (pss_one (ps_expr (pe_fnS f_laid (hr.mono (by decide)) rfl hp (pa_cons (pv 1) (pa_cons (pv 2) pa_nil)))))
          (pss_one (ps_expr (pe_fnS f_behind (hr.mono (by decide)) rfl hp (pa_cons (pv 1) (pa_cons (pv 2) pa_nil)))))))))) (fun e =>
      (pss_cons (ps_set (i := 3) sc_refused.nd rfl (by first | exact Or.inl rfl | exact Or.inr rfl) (pe_lst (pa_cons (pe_callB (call_isExcK K) rfl T.b_isinstance PyProof.Rows.boot_isinstance (pa_cons (pv 4) (pa_cons (pe_bty rfl T.b_ValueError L2.boot_ValueError) pa_nil))) (pa_cons (pe_callB (call_isExcK K) rfl T.b_isinstance PyProof.Rows.boot_isinstance (pa_cons (pv 4) (pa_cons (pe_gcls rfl T.m_NoPaper) pa_nil))) (pa_cons (pe_callB (call_isExcK K) rfl T.b_isinstance PyProof.Rows.boot_isinstance (pa_cons (pv 4) (pa_cons (pe_gcls rfl T.m_NoRule) pa_nil))) (pa_cons (pe_callB (call_isExcK K) rfl T.b_isinstance PyProof.Rows.boot_isinstance (pa_cons (pv 4) (pa_cons (pe_gcls rfl T.m_NoPlace) pa_nil))) pa_nil))))))
      (pss_cons (ps_set (i := 3) sc_refused.nd rfl (by first | exact Or.inl rfl | exact Or.inr rfl) (pe_op op_cat (pv 3) (pe_lst (pa_cons (pe_callB (call_isExcK K) rfl T.b_isinstance PyProof.Rows.boot_isinstance (pa_cons (pv 4) (pa_cons (pe_gcls rfl T.m_NoKey) pa_nil))) (pa_cons (pe_callB (call_isExcK K) rfl T.b_isinstance PyProof.Rows.boot_isinstance (pa_cons (pv 4) (pa_cons (pe_gcls rfl T.m_NoRow) pa_nil))) (pa_cons (pe_callB (call_isExcK K) rfl T.b_isinstance PyProof.Rows.boot_isinstance (pa_cons (pv 4) (pa_cons (pe_gcls rfl T.m_NoOrder) pa_nil))) pa_nil))))))
      (pss_one (ps_set (i := 3) sc_refused.nd rfl (by first | exact Or.inl rfl | exact Or.inr rfl) (pe_op op_cat (pv 3) (pe_lst (pa_cons (pe_callB (call_isExcK K) rfl T.b_isinstance PyProof.Rows.boot_isinstance (pa_cons (pv 4) (pa_cons (pe_gcls rfl T.m_TooFar) pa_nil))) (pa_cons (pe_callB (call_isExcK K) rfl T.b_isinstance PyProof.Rows.boot_isinstance (pa_cons (pv 4) (pa_cons (pe_gcls rfl T.m_Spent) pa_nil))) pa_nil))))))))))
    (pss_one (ps_ret (pe_cmpR (op_eqD hr.units) (pv 3) (pe_lst (pa_cons pe_bl (pa_cons pe_bl (pa_cons pe_bl (pa_cons pe_bl (pa_cons pe_bl (pa_cons pe_bl (pa_cons pe_bl (pa_cons pe_bl (pa_cons pe_bl pa_nil)))))))))) (nomark _)))))), ?_⟩
  walk_at "rd"
  refine ⟨Nat.zero_le _, fun k0 hk0 => ?_⟩
  obtain ⟨H1, e1, s1, h1⟩ := newH hk0 (.lst [])
  rw [e1]; clear e1
  rcases hre with ⟨rfl, a, zs, rfl, ha, hl, hn⟩ | ⟨rfl, r, a, xs, zs, rfl, rfl, hr', ha, hl, hn⟩ | ⟨rfl, a, b, zs, ys, rfl, rfl, ha, hb, hl, hl2, hn⟩
  · rw [if_pos rfl]
    refine ⟨a, zs, rfl, s1 _ _ ha, hl, fun p hp e => absurd ⟨p, hp, e⟩ hn, fun _ Y sY => ?_⟩
    refine ⟨T.xm_NoPaper_HallError, fun ea hea => ?_⟩
    walk_at "rd"
    obtain ⟨Z, eZ, sZ, hZ⟩ := newH hea (excO ea (.ref C_NoPaper))
    rw [eZ]; clear eZ
    refine ⟨ea, C_NoPaper, _, _, rfl, rfl, hZ, T.xc_NoPaper, T.xd_NoPaper, T.kit_NoPaper_ValueError, ea, C_NoPaper, _, _, rfl, rfl, hZ, T.xc_NoPaper, T.xd_NoPaper, T.kit_NoPaper_NoPaper, ea, C_NoPaper, _, _, rfl, rfl, hZ, T.xc_NoPaper, T.xd_NoPaper, T.kit_NoPaper_NoRule, ea, C_NoPaper, _, _, rfl, rfl, hZ, T.xc_NoPaper, T.xd_NoPaper, T.kit_NoPaper_NoPlace, by decide, fun k1 hk1 => ?_⟩
    obtain ⟨Z1, eZ1, sZ1, hZ1⟩ := newH hk1 (.lst [.bl true, .bl true, .bl false, .bl false])
    rw [eZ1]; clear eZ1
    refine ⟨ea, C_NoPaper, _, _, rfl, rfl, sZ1 _ _ hZ, T.xc_NoPaper, T.xd_NoPaper, T.kit_NoPaper_NoKey, ea, C_NoPaper, _, _, rfl, rfl, sZ1 _ _ hZ, T.xc_NoPaper, T.xd_NoPaper, T.kit_NoPaper_NoRow, ea, C_NoPaper, _, _, rfl, rfl, sZ1 _ _ hZ, T.xc_NoPaper, T.xd_NoPaper, T.kit_NoPaper_NoOrder, by decide, fun k2 hk2 => ?_⟩
    obtain ⟨Z2, eZ2, sZ2, hZ2⟩ := newH hk2 (.lst [.bl false, .bl false, .bl false])
    rw [eZ2]; clear eZ2
    refine ⟨k1, k2, _, _, rfl, rfl, sZ2 _ _ hZ1, hZ2, by decide, fun k3 hk3 => ?_⟩
    obtain ⟨Z3, eZ3, sZ3, hZ3⟩ := newH hk3 (.lst ([.bl true, .bl true, .bl false, .bl false] ++ [.bl false, .bl false, .bl false]))
    rw [eZ3]; clear eZ3
    have zz := sZ3 _ _ (sZ2 _ _ (sZ1 _ _ hZ))
    refine ⟨ea, C_NoPaper, _, _, rfl, rfl, zz, T.xc_NoPaper, T.xd_NoPaper, T.kit_NoPaper_TooFar, ea, C_NoPaper, _, _, rfl, rfl, zz, T.xc_NoPaper, T.xd_NoPaper, T.kit_NoPaper_Spent, by decide, fun k4 hk4 => ?_⟩
    obtain ⟨Z4, eZ4, sZ4, hZ4⟩ := newH hk4 (.lst [.bl false, .bl false])
    rw [eZ4]; clear eZ4
    refine ⟨k3, k4, _, _, rfl, rfl, sZ4 _ _ hZ3, hZ4, by decide, fun k5 hk5 => ⟨by decide, fun k6 hk6 => ?_⟩⟩
    have s6 := (sZ.trans (sZ1.trans (sZ2.trans (sZ3.trans sZ4)))).new (o := .lst (([.bl true, .bl true, .bl false, .bl false] ++ [.bl false, .bl false, .bl false]) ++ [.bl false, .bl false])) hk5
    have dB : ∀ {X : Hp} {l : Addr} (bs : List Bool), X l = some (.lst (bs.map V.bl)) → Dp K X (PyData.list (bs.map PyData.bool)) (.ref l) := fun {X l} bs h => by
      refine dp_lst (SqL.of h) ?_
      clear h
      induction bs with
      | nil => exact .nil
      | cons b r ih => exact .cons (dp_bl b) ih
    refine eqD_of Enc.bl.list (by decide) (dB [true, true, false, false, false, false, false, false, false] (same_new hk6 _ _ _ upd_same)) (dB [true, true, false, false, false, false, false, false, false] upd_same) ?_
    rw [decide_eq_true rfl]
    exact q _ ((s1.trans sY).trans (s6.new hk6))
  · rw [if_neg (by decide), if_pos rfl]
    refine ⟨r, a, xs, zs, rfl, s1 _ _ hr', s1 _ _ ha, hl, fun p hp e hlen => absurd ⟨⟨p, hp, e⟩, by rw [e, List.length_map]; exact hlen⟩ hn, fun _ Y sY => ?_⟩
    refine ⟨T.xm_NoPaper_HallError, fun ea hea => ?_⟩
    walk_at "rd"
    obtain ⟨Z, eZ, sZ, hZ⟩ := newH hea (excO ea (.ref C_NoPaper))
    rw [eZ]; clear eZ
    refine ⟨ea, C_NoPaper, _, _, rfl, rfl, hZ, T.xc_NoPaper, T.xd_NoPaper, T.kit_NoPaper_ValueError, ea, C_NoPaper, _, _, rfl, rfl, hZ, T.xc_NoPaper, T.xd_NoPaper, T.kit_NoPaper_NoPaper, ea, C_NoPaper, _, _, rfl, rfl, hZ, T.xc_NoPaper, T.xd_NoPaper, T.kit_NoPaper_NoRule, ea, C_NoPaper, _, _, rfl, rfl, hZ, T.xc_NoPaper, T.xd_NoPaper, T.kit_NoPaper_NoPlace, by decide, fun k1 hk1 => ?_⟩
    obtain ⟨Z1, eZ1, sZ1, hZ1⟩ := newH hk1 (.lst [.bl true, .bl true, .bl false, .bl false])
    rw [eZ1]; clear eZ1
    refine ⟨ea, C_NoPaper, _, _, rfl, rfl, sZ1 _ _ hZ, T.xc_NoPaper, T.xd_NoPaper, T.kit_NoPaper_NoKey, ea, C_NoPaper, _, _, rfl, rfl, sZ1 _ _ hZ, T.xc_NoPaper, T.xd_NoPaper, T.kit_NoPaper_NoRow, ea, C_NoPaper, _, _, rfl, rfl, sZ1 _ _ hZ, T.xc_NoPaper, T.xd_NoPaper, T.kit_NoPaper_NoOrder, by decide, fun k2 hk2 => ?_⟩
    obtain ⟨Z2, eZ2, sZ2, hZ2⟩ := newH hk2 (.lst [.bl false, .bl false, .bl false])
    rw [eZ2]; clear eZ2
    refine ⟨k1, k2, _, _, rfl, rfl, sZ2 _ _ hZ1, hZ2, by decide, fun k3 hk3 => ?_⟩
    obtain ⟨Z3, eZ3, sZ3, hZ3⟩ := newH hk3 (.lst ([.bl true, .bl true, .bl false, .bl false] ++ [.bl false, .bl false, .bl false]))
    rw [eZ3]; clear eZ3
    have zz := sZ3 _ _ (sZ2 _ _ (sZ1 _ _ hZ))
    refine ⟨ea, C_NoPaper, _, _, rfl, rfl, zz, T.xc_NoPaper, T.xd_NoPaper, T.kit_NoPaper_TooFar, ea, C_NoPaper, _, _, rfl, rfl, zz, T.xc_NoPaper, T.xd_NoPaper, T.kit_NoPaper_Spent, by decide, fun k4 hk4 => ?_⟩
    obtain ⟨Z4, eZ4, sZ4, hZ4⟩ := newH hk4 (.lst [.bl false, .bl false])
    rw [eZ4]; clear eZ4
    refine ⟨k3, k4, _, _, rfl, rfl, sZ4 _ _ hZ3, hZ4, by decide, fun k5 hk5 => ⟨by decide, fun k6 hk6 => ?_⟩⟩
    have s6 := (sZ.trans (sZ1.trans (sZ2.trans (sZ3.trans sZ4)))).new (o := .lst (([.bl true, .bl true, .bl false, .bl false] ++ [.bl false, .bl false, .bl false]) ++ [.bl false, .bl false])) hk5
    have dB : ∀ {X : Hp} {l : Addr} (bs : List Bool), X l = some (.lst (bs.map V.bl)) → Dp K X (PyData.list (bs.map PyData.bool)) (.ref l) := fun {X l} bs h => by
      refine dp_lst (SqL.of h) ?_
      clear h
      induction bs with
      | nil => exact .nil
      | cons b r ih => exact .cons (dp_bl b) ih
    refine eqD_of Enc.bl.list (by decide) (dB [true, true, false, false, false, false, false, false, false] (same_new hk6 _ _ _ upd_same)) (dB [true, true, false, false, false, false, false, false, false] upd_same) ?_
    rw [decide_eq_true rfl]
    exact q _ ((s1.trans sY).trans (s6.new hk6))
  · rw [if_neg (by decide), if_neg (by decide)]
    refine ⟨a, b, zs, ys, rfl, s1 _ _ ha, s1 _ _ hb, hl, hl2, hn, fun Y sY => ?_⟩
    refine ⟨T.xm_NoPaper_HallError, fun ea hea => ?_⟩
    walk_at "rd"
    obtain ⟨Z, eZ, sZ, hZ⟩ := newH hea (excO ea (.ref C_NoPaper))
    rw [eZ]; clear eZ
    refine ⟨ea, C_NoPaper, _, _, rfl, rfl, hZ, T.xc_NoPaper, T.xd_NoPaper, T.kit_NoPaper_ValueError, ea, C_NoPaper, _, _, rfl, rfl, hZ, T.xc_NoPaper, T.xd_NoPaper, T.kit_NoPaper_NoPaper, ea, C_NoPaper, _, _, rfl, rfl, hZ, T.xc_NoPaper, T.xd_NoPaper, T.kit_NoPaper_NoRule, ea, C_NoPaper, _, _, rfl, rfl, hZ, T.xc_NoPaper, T.xd_NoPaper, T.kit_NoPaper_NoPlace, by decide, fun k1 hk1 => ?_⟩
    obtain ⟨Z1, eZ1, sZ1, hZ1⟩ := newH hk1 (.lst [.bl true, .bl true, .bl false, .bl false])
    rw [eZ1]; clear eZ1
    refine ⟨ea, C_NoPaper, _, _, rfl, rfl, sZ1 _ _ hZ, T.xc_NoPaper, T.xd_NoPaper, T.kit_NoPaper_NoKey, ea, C_NoPaper, _, _, rfl, rfl, sZ1 _ _ hZ, T.xc_NoPaper, T.xd_NoPaper, T.kit_NoPaper_NoRow, ea, C_NoPaper, _, _, rfl, rfl, sZ1 _ _ hZ, T.xc_NoPaper, T.xd_NoPaper, T.kit_NoPaper_NoOrder, by decide, fun k2 hk2 => ?_⟩
    obtain ⟨Z2, eZ2, sZ2, hZ2⟩ := newH hk2 (.lst [.bl false, .bl false, .bl false])
    rw [eZ2]; clear eZ2
    refine ⟨k1, k2, _, _, rfl, rfl, sZ2 _ _ hZ1, hZ2, by decide, fun k3 hk3 => ?_⟩
    obtain ⟨Z3, eZ3, sZ3, hZ3⟩ := newH hk3 (.lst ([.bl true, .bl true, .bl false, .bl false] ++ [.bl false, .bl false, .bl false]))
    rw [eZ3]; clear eZ3
    have zz := sZ3 _ _ (sZ2 _ _ (sZ1 _ _ hZ))
    refine ⟨ea, C_NoPaper, _, _, rfl, rfl, zz, T.xc_NoPaper, T.xd_NoPaper, T.kit_NoPaper_TooFar, ea, C_NoPaper, _, _, rfl, rfl, zz, T.xc_NoPaper, T.xd_NoPaper, T.kit_NoPaper_Spent, by decide, fun k4 hk4 => ?_⟩
    obtain ⟨Z4, eZ4, sZ4, hZ4⟩ := newH hk4 (.lst [.bl false, .bl false])
    rw [eZ4]; clear eZ4
    refine ⟨k3, k4, _, _, rfl, rfl, sZ4 _ _ hZ3, hZ4, by decide, fun k5 hk5 => ⟨by decide, fun k6 hk6 => ?_⟩⟩
    have s6 := (sZ.trans (sZ1.trans (sZ2.trans (sZ3.trans sZ4)))).new (o := .lst (([.bl true, .bl true, .bl false, .bl false] ++ [.bl false, .bl false, .bl false]) ++ [.bl false, .bl false])) hk5
    have dB : ∀ {X : Hp} {l : Addr} (bs : List Bool), X l = some (.lst (bs.map V.bl)) → Dp K X (PyData.list (bs.map PyData.bool)) (.ref l) := fun {X l} bs h => by
      refine dp_lst (SqL.of h) ?_
      clear h
      induction bs with
      | nil => exact .nil
      | cons b r ih => exact .cons (dp_bl b) ih
    refine eqD_of Enc.bl.list (by decide) (dB [true, true, false, false, false, false, false, false, false] (same_new hk6 _ _ _ upd_same)) (dB [true, true, false, false, false, false, false, false, false] upd_same) ?_
    rw [decide_eq_true rfl]
    exact q _ ((s1.trans sY).trans (s6.new hk6))
theorem ok_law {f : Addr} {fd : FuncData} (F : Fun K "law" "law" s_law f fd) (T : Bt K mg C_HallError C_NoRule C_NoPaper C_NoPlace C_NoKey C_NoRow C_NoOrder C_TooFar C_Spent)
    (f_paper_by : Fn P w K mg base CX0 "_law_paper_by" 1 ["_law_cells"] (spPaperBy))
    (f_spoiled : Fn P w K mg base CX0 "_law_spoiled" 1 ["_law_paper", "_law_cell", "_law_number"] (spSpoiled))
    (f_is_paper : Fn P w K mg base CX0 "is_paper" 2 ["some"] (spIsPaper))
    (f_cell_at : Fn P w K mg base CX0 "_law_cell_at" 1 ["_law_script", "_law_k"] (spCell K))
    (f_refused : Fn P w K mg base CX0 "_law_refused" 6 ["_law_way", "_law_first", "_law_second"] (spRefused))
    (f_laid : Fn P w K mg base (CXE P w) "laid" 4 ["row", "paper"] (spLaid C_NoPaper))
    (f_back : Fn P w K mg base (CXE P w) "back" 4 ["paper"] (spBack C_NoPaper))
    : FnOk P w K mg base CX0 7 f fd ["_law_script"] (spLaw K) := by
  refine F.ok sc_law (fun vs H Q E h => ?_) (fun cdv A outer s H vs Q E hr h => ?_)
  · obtain ⟨a, ns, rfl, hS, h63, q⟩ := h
    rfl
  obtain ⟨a, ns, rfl, hS, h63, q⟩ := h
  refine ⟨_, (pss_cons (ps_set (i := 1) sc_law.nd rfl (by first | exact Or.inl rfl | exact Or.inr rfl) (pe_fn f_paper_by (hr.mono (by decide)) rfl pass0 (pa_cons (pe_slice sl_list (pv 0) (po_some pe_int) (po_some pe_int)) pa_nil)))
    (pss_cut
    (pss_cons (ps_set (i := 2) sc_law.nd rfl (by first | exact Or.inl rfl | exact Or.inr rfl) (pe_callB call_len_seq rfl T.b_len PySem.boot_len (pa_cons (pv 1) pa_nil)))
    (pss_cut
    (pss_cons (ps_set (i := 3) sc_law.nd rfl (by first | exact Or.inl rfl | exact Or.inr rfl) (pe_fn f_spoiled (hr.mono (by decide)) rfl pass0 (pa_cons (pv 1) (pa_cons (pe_fn f_cell_at (hr.mono (by decide)) rfl pass0 (pa_cons (pv 0) (pa_cons pe_int pa_nil))) (pa_cons (pe_op op_mod (pe_fn f_cell_at (hr.mono (by decide)) rfl pass0 (pa_cons (pv 0) (pa_cons pe_int pa_nil))) (pe_op op_pow pe_int pe_int)) pa_nil)))))
    (pss_cons (ps_set (i := 4) sc_law.nd rfl (by first | exact Or.inl rfl | exact Or.inr rfl) (pe_callB call_len_seq rfl T.b_len PySem.boot_len (pa_cons (pv 3) pa_nil)))
    (pss_cut
    (pss_cons (ps_set (i := 5) sc_law.nd rfl (by first | exact Or.inl rfl | exact Or.inr rfl) (pe_cmpR (op_eqD hr.units) (pe_callB call_sorted rfl T.b_sorted PyProof.Rows.boot_sorted (pa_cons (pv 3) pa_nil)) (pe_callTy (call_list_rng rfl) rfl T.b_list PyProof.Rows.boot_list (pa_cons (pe_callTy call_rng1 rfl T.b_range PyProof.Rows.boot_range (pa_cons (pv 4) pa_nil)) pa_nil)) (nomark _)))
    (pss_cut
    (pss_cons (ps_set (i := 6) sc_law.nd rfl (by first | exact Or.inl rfl | exact Or.inr rfl) (pe_callTy call_list_of rfl T.b_list PyProof.Rows.boot_list (pa_cons (pv 3) pa_nil)))
    (pss_cut
    (pss_cons (ps_set (i := 7) sc_law.nd rfl (by first | exact Or.inl rfl | exact Or.inr rfl) (pe_fn f_is_paper (hr.mono (by decide)) rfl pass0 (pa_cons (pv 6) pa_nil)))
    (pss_cut
    (pss_cons (ps_if (PW.pt (pw_or (pt_not (pt_val (pe_callB call_isinst rfl T.b_isinstance PyProof.Rows.boot_isinstance (pa_cons (pv 7) (pa_cons (pe_bty rfl T.b_bool PyProof.Rows.boot_bool) pa_nil))))) (pw_or (pt_cmpR op_ne (pv 7) (pv 5) (nomark _)) (pw_or1 (pt_cmpR (op_neD hr.units) (pv 6) (pv 3) (nomark _))))))
      (pss_one (ps_ret pe_bl)) pss_nil)
    (pss_cut
    (pss_cons (ps_setComp (i := 8) sc_law.nd rfl (Or.inl rfl) rfl (k := 1) (js := []) (N' := ["_law_k"]) (by rfl) (pi_range1 rfl T.b_range (pa_cons (pv 4) pa_nil)) (fun _ _ _ _ => pg_name (i := 0) (show (["_law_k"] : List Str).Nodup by decide +kernel) rfl (by first | exact Or.inl rfl | exact Or.inr rfl)) (fun _ _ _ _ => pifs_nil) (fun _ _ _ _ => (pe_tup (pa_cons pe_str (pa_cons (pv 0) pa_nil)))))
    (pss_cut
    (pss_cons (ps_if (pt_val (pv 5))
      (pss_one (ps_if (PW.pt (pw_or (pt_cmpR (op_neD hr.units) (pe_fn f_laid (hr.mono (by decide)) rfl passE (pa_cons (pv 8) (pa_cons (pv 6) pa_nil))) (pe_comp rfl (k := 1) (js := []) (N' := ["_law_place"]) (by rfl) (pi_list (pv 3)) (fun _ _ _ _ => pg_name (i := 0) (show (["_law_place"] : List Str).Nodup by decide +kernel) rfl (by first | exact Or.inl rfl | exact Or.inr rfl)) (fun _ _ _ _ => pifs_nil) (fun _ _ _ _ => (pe_tup (pa_cons pe_str (pa_cons (pv 0) pa_nil))))) (nomark _)) (pw_or1 (pt_cmpR (op_neD hr.units) (pe_fn f_laid (hr.mono (by decide)) rfl passE (pa_cons (pe_fn f_laid (hr.mono (by decide)) rfl passE (pa_cons (pv 8) (pa_cons (pv 6) pa_nil))) (pa_cons (pe_fn f_back (hr.mono (by decide)) rfl passE (pa_cons (pv 6) pa_nil)) pa_nil))) (pv 8) (nomark _)))))
        (pss_one (ps_ret pe_bl)) pss_nil))
      (pss_cons (ps_if (PW.pt (pw_or (pt_not (pt_val (pe_fn f_refused (hr.mono (by decide)) rfl pass0 (pa_cons pe_int (pa_cons (pv 6) (pa_cons pe_non pa_nil)))))) (pw_or1 (pt_not (pt_val (pe_fn f_refused (hr.mono (by decide)) rfl pass0 (pa_cons pe_int (pa_cons (pv 8) (pa_cons (pv 6) pa_nil)))))))))
        (pss_one (ps_ret pe_bl)) pss_nil)
      (pss_one (ps_if (PW.pt (pw_or (pt_not (pt_val (pe_fn f_refused (hr.mono (by decide)) rfl pass0 (pa_cons pe_int (pa_cons (pv 6) (pa_cons (pe_callTy (call_list_rng rfl) rfl T.b_list PyProof.Rows.boot_list (pa_cons (pe_callTy call_rng1 rfl T.b_range PyProof.Rows.boot_range (pa_cons (pv 4) pa_nil)) pa_nil)) pa_nil)))))) (pw_or1 (pt_not (pt_val (pe_fn f_refused (hr.mono (by decide)) rfl pass0 (pa_cons pe_int (pa_cons (pe_callTy (call_list_rng rfl) rfl T.b_list PyProof.Rows.boot_list (pa_cons (pe_callTy call_rng1 rfl T.b_range PyProof.Rows.boot_range (pa_cons (pv 4) pa_nil)) pa_nil)) (pa_cons (pv 6) pa_nil)))))))))
        (pss_one (ps_ret pe_bl)) pss_nil))))
    (pss_cut
    (pss_cons (ps_setComp (i := 8) sc_law.nd rfl (Or.inl rfl) rfl (k := 1) (js := []) (N' := ["_law_k"]) (by rfl) (pi_range1 rfl T.b_range (pa_cons (pv 2) pa_nil)) (fun _ _ _ _ => pg_name (i := 0) (show (["_law_k"] : List Str).Nodup by decide +kernel) rfl (by first | exact Or.inl rfl | exact Or.inr rfl)) (fun _ _ _ _ => pifs_nil) (fun _ _ _ _ => (pe_tup (pa_cons pe_str (pa_cons (pv 0) pa_nil)))))
    (pss_cut
    (pss_cons (ps_if (pt_not (pt_val (pe_fn f_refused (hr.mono (by decide)) rfl pass0 (pa_cons pe_int (pa_cons (pe_op op_cat (pv 8) (pe_lst (pa_cons (pe_tup (pa_cons pe_str (pa_cons (pv 2) pa_nil))) pa_nil))) (pa_cons (pe_callTy call_list_of rfl T.b_list PyProof.Rows.boot_list (pa_cons (pv 1) pa_nil)) pa_nil))))))
      (pss_one (ps_ret pe_bl)) pss_nil)
    (pss_cut
    (pss_cons (ps_if (PW.pt (pw_and (pt_cmpR op_gt (pv 2) pe_int (nomark _)) (pw_and1 (pt_not (pt_val (pe_fn f_refused (hr.mono (by decide)) rfl pass0 (pa_cons pe_int (pa_cons (pe_slice sl_list (pv 8) (po_some pe_int) po_none) (pa_cons (pe_callTy call_list_of rfl T.b_list PyProof.Rows.boot_list (pa_cons (pv 1) pa_nil)) pa_nil)))))))))
      (pss_one (ps_ret pe_bl)) pss_nil)
    (pss_cut
    (pss_cons (ps_set (i := 9) sc_law.nd rfl (by first | exact Or.inl rfl | exact Or.inr rfl) (pe_callTy (call_list_rng rfl) rfl T.b_list PyProof.Rows.boot_list (pa_cons (pe_callTy call_rng1 rfl T.b_range PyProof.Rows.boot_range (pa_cons (pe_op op_add (pv 2) pe_int) pa_nil)) pa_nil)))
    (pss_cut
    (pss_cons (ps_if (PW.pt (pw_or (pt_not (pt_val (pe_fn f_refused (hr.mono (by decide)) rfl pass0 (pa_cons pe_int (pa_cons (pe_callTy call_list_of rfl T.b_list PyProof.Rows.boot_list (pa_cons (pv 1) pa_nil)) (pa_cons (pv 9) pa_nil)))))) (pw_or1 (pt_not (pt_val (pe_fn f_refused (hr.mono (by decide)) rfl pass0 (pa_cons pe_int (pa_cons (pv 9) (pa_cons (pe_callTy call_list_of rfl T.b_list PyProof.Rows.boot_list (pa_cons (pv 1) pa_nil)) pa_nil)))))))))
      (pss_one (ps_ret pe_bl)) pss_nil)
    (pss_cut
    (pss_one (ps_ret (pe_and (pe_cmpR (op_eqD hr.units) (pv 6) (pv 3) (nomark _)) (pe_one (pe_cmpR op_isB' (pe_fn f_is_paper (hr.mono (by decide)) rfl pass0 (pa_cons (pv 1) pa_nil)) pe_bl (nomark _))))))))))))))))))))))))))))))))))), ?_⟩
  walk_at "rd"
  refine slL_of hS fun l1 hl1 => ?_
  rw [cutV_ints]
  obtain ⟨cs, hcs⟩ : ∃ cs, (ns.drop (HT.sIx ns.length 0 (some 3))).take (HT.sIx ns.length ns.length (some 302) - HT.sIx ns.length 0 (some 3)) = cs := ⟨_, rfl⟩
  have hcl : cs.length ≤ 60 := by
    have e3 : HT.sIx ns.length 0 (some ((3 : Nat) : Int)) = min 3 ns.length := HT.sIx_nat ..
    rw [← hcs, List.length_take, List.length_drop, show (3 : Int) = ((3 : Nat) : Int) from rfl, e3]; omega
  rw [hcs]
  obtain ⟨H1, g1, s1, h1⟩ := newH hl1 (.lst (cs.map V.int))
  rw [g1]; clear g1
  refine ⟨l1, cs, rfl, h1, hcl, fun pp H2 p s2 hpp0 hpp hp hpl => ?_⟩
  have hpn : p.length ≤ 60 := by omega
  refine cut_of ?_
  walk_at "rd"
  refine ⟨pp, _, rfl, .inl (SqL.of hpp), ?_⟩
  rw [NL_len]
  refine cut_of ?_
  walk_at "rd"
  have hS2 := (s1.trans s2).seq hS
  refine ⟨a, ns, 0, rfl, hS2, by decide, ?_⟩
  walk_at "rd"
  refine ⟨a, ns, 1, rfl, hS2, by decide, ?_⟩
  walk_at "rd"
  refine ⟨⟨by decide, by decide, by decide⟩, by decide, pp, p, _, _, rfl, hpp, hpn, fun sp H3 zs s3 hsp0 hsp hzl => ⟨sp, _, rfl, .inl (SqL.of hsp), ?_⟩⟩
  rw [List.length_map]
  have hpp3 := s3 _ _ hpp
  refine cut_of ?_
  walk_at "rd"
  refine ⟨sp, zs, rfl, SqL.of hsp, by omega, fun sl ms hsl hperm hsort => ?_⟩
  obtain ⟨H4, g4, s4, h4⟩ := newH hsl (.lst (ms.map V.int))
  rw [g4]; clear g4
  refine ⟨(zs.length : Int), rfl, fun pr hpr => ⟨pr, 0, zs.length, rfl, upd_same, by omega, fun rl hrl => ?_⟩⟩
  obtain ⟨H5, g5, s5, h5⟩ := newH hpr (.rng 0 (zs.length : Int))
  rw [g5] at hrl ⊢; clear g5
  rw [show (rints 0 (zs.length : Int)).map V.int = NL (List.range zs.length) from rints_range _]
  obtain ⟨H6, g6, s6, h6⟩ := newH hrl (.lst (NL (List.range zs.length)))
  rw [g6]; clear g6
  have S6 := s4.trans (s5.trans s6)
  refine eqD_of Enc.int.list (by decide) (dp_ints (SqL.of (s6 _ _ (s5 _ _ h4)))) (dp_ints (SqL.of h6)) ?_
  obtain ⟨b2, hb2⟩ : ∃ b2, decide (ms = (List.range zs.length).map fun x : Nat => (x : Int)) = b2 := ⟨_, rfl⟩
  have hdue : b2 = true ↔ isP zs := by rw [← hb2, decide_eq_true_iff]; exact isP_sorted hperm hsort
  rw [hb2]; clear hb2
  have hsp6 := S6 _ _ hsp
  have hpp6 := S6 _ _ hpp3
  refine cut_of ?_
  walk_at "rd"
  refine ⟨sp, _, rfl, .inl (SqL.of hsp6), fun hd hhd => ?_⟩
  obtain ⟨H7, g7, s7, h7⟩ := newH hhd (.lst (zs.map V.int))
  rw [g7]; clear g7
  refine cut_of ?_
  walk_at "rd"
  refine ⟨hd, zs, rfl, h7, by omega, fun b1 H8 hb1 s8 => ?_⟩
  have eb : b1 = b2 := by
    cases b1 <;> cases b2 <;> simp at hb1 hdue ⊢
    · exact (hb1 hdue).elim
    · exact (hdue hb1).elim
  subst eb
  have hd8 := s8 _ _ h7
  have hsp8 := s8 _ _ (s7 _ _ hsp6)
  have hpp8 := s8 _ _ (s7 _ _ hpp6)
  refine cut_of ?_
  walk_at "rd"
  refine inst_bl ?_
  walk_at "rd"
  rw [if_neg (by simp)]
  refine neD_of Enc.int.list (by decide) (dp_ints (SqL.of hd8)) (dp_ints (SqL.of hsp8)) ⟨_, rfl, ?_⟩
  rw [if_neg (by simp)]
  refine cut_of ?_
  walk_at "rd"
  refine compR1_of (by omega) (fun i ys σ X => ∃ v, σ = [v] ∧ Same H8 X ∧ Thg X (List.range i) ys) ⟨_, rfl, .refl _, .nil⟩ (fun i ys σ X ⟨_, _, _, e⟩ => by rw [e.1, List.length_range]; exact Nat.le_refl _) ?_ ?_
  · rintro i ys σ X hi ⟨v, rfl, sX, hth⟩
    walk_at "rd"
    rw [show (0 + (i : Int)) = i by omega]
    refine ⟨le_line (by decide), fun t ht => ?_⟩
    refine Nxt.of hi ⟨_, rfl, sX.new ht, ?_⟩
    rw [List.range_succ]
    exact (hth.mono (same_new ht _)).snoc upd_same
  rintro xs σ H9 ⟨v, rfl, s9, hth⟩ rw' hrw
  rw [Int.toNat_natCast] at hth
  obtain ⟨H10, g10, s10, h10⟩ := newH hrw (.lst xs)
  rw [g10]; clear g10
  have hth := hth.mono s10
  have S10 := s9.trans s10
  have hxl : xs.length = zs.length := by rw [hth.1, List.length_range]
  have hd10 := S10 _ _ hd8
  have hsp10 := S10 _ _ hsp8
  have hpp10 := S10 _ _ hpp8
  refine cut_of ?_
  walk_at "rd"
  apply onceX (α := Hp) (fun _ => [some (.ref a), some (.ref pp), some (.int (p.length : Int)), some (.ref sp), some (.int (zs.length : Int)), some (.bl b1), some (.ref hd), some (.bl b1), some (.ref rw'), none]) (fun X => X) (fun X => Same H10 X)
  · intro tailp
    by_cases hb : b1 = true
    · rw [if_pos hb]
      obtain ⟨p', hp', ez⟩ := hdue.mp hb
      have hpz : p'.length = zs.length := by rw [ez, List.length_map]
      refine ⟨rw', hd, xs, zs, rfl, h10, hd10, by omega, fun p2 hp2 e2 hlen l2 X1 sX1 hl20 hl2 => ?_, fun hbad => absurd ⟨⟨p', hp', ez⟩, hxl.symm⟩ hbad⟩
      obtain rfl : p2 = p' := inj_nat (e2.symm.trans ez)
      have hsp1 := sX1 _ _ hsp10
      refine compL_of (SqL.of hsp1) (by rw [List.length_map]; omega) (fun i ys σ Y => ∃ v, σ = [v] ∧ Same X1 Y ∧ Thg Y (p2.take i) ys) ⟨_, rfl, .refl _, .nil⟩ (fun i ys σ Y _ ⟨_, _, e, e2⟩ => ⟨SqL.of (e _ _ hsp1), by rw [e2.1, List.length_take]; omega⟩) ?_ ?_
      · rintro i ys u σ Y hi hu ⟨v, rfl, sY, hthY⟩
        rw [ez] at hu
        obtain ⟨hip, rfl⟩ := NL_get hu
        walk_at "rd"
        refine ⟨le_line (by decide), fun t ht => Nxt.of hi ⟨_, rfl, sY.new ht, ?_⟩⟩
        rw [List.take_add_one, Pap.at_lt hip]
        exact (hthY.mono (same_new ht _)).snoc upd_same
      rintro ys σ X2 ⟨v, rfl, sX2, hthY⟩ l3 hl30
      rw [List.length_map, ← hpz, List.take_of_length_le (Nat.le_refl _)] at hthY
      obtain ⟨X3, gX3, sX3, hX3⟩ := newH hl30 (.lst ys)
      rw [gX3]; clear gX3
      have S3 := sX1.trans (sX2.trans sX3)
      have hlt : ∀ x ∈ p2, x < zs.length := fun x hx => by rw [← hpz]; exact hp2.lt hx
      have hthL := hth.laid (p := p2) (by rw [List.length_range]; exact hlt)
      rw [range_getD hlt] at hthL
      refine (hthL.mono S3).ne (hthY.mono sX3) (sX3 _ _ (sX2 _ _ hl2)) hX3 ⟨_, rfl, ?_⟩
      rw [if_neg (by decide)]
      refine ⟨rw', hd, xs, zs, rfl, S3 _ _ h10, S3 _ _ hd10, by omega, fun p3 hp3 e3 hlen3 l4 X4 sX4 hl40 hl4 => ?_, fun hbad => absurd ⟨⟨p2, hp2, ez⟩, hxl.symm⟩ hbad⟩
      obtain rfl : p3 = p2 := inj_nat (e3.symm.trans ez)
      refine ⟨hd, zs, rfl, sX4 _ _ (S3 _ _ hd10), by omega, fun p4 hp4 e4 l5 X5 sX5 hl50 hl5 => ?_, fun hbad => absurd ⟨p3, hp3, ez⟩ hbad⟩
      obtain rfl : p4 = p3 := inj_nat (e4.symm.trans ez)
      have hbl : (Pap.bk p4).length = p4.length := Pap.bk_len _
      refine ⟨l4, l5, _, (Pap.bk p4).map fun x : Nat => (x : Int), rfl, sX5 _ _ hl4, hl5, by rw [List.length_map]; omega, fun p5 hp5 e5 hlen5 l6 X6 sX6 hl60 hl6 => ?_, fun hbad => absurd ⟨⟨_, hp4.bk, rfl⟩, by rw [List.length_map, List.length_map, hbl]⟩ hbad⟩
      obtain rfl : p5 = Pap.bk p4 := (inj_nat e5).symm
      have S6 := S3.trans (sX4.trans (sX5.trans sX6))
      have hth6 := hthL.laid (p := Pap.bk p4) (fun x hx => by have := hp4.bk.lt hx; omega)
      rw [show ((Pap.bk p4).map fun i => p4.getD i 0) = List.range zs.length by rw [← hpz]; exact Pap.cmp_bk hp4] at hth6
      refine (hth6.mono S6).ne (hth.mono S6) hl6 (S6 _ _ h10) ⟨_, rfl, ?_⟩
      rw [if_neg (by decide)]
      exact tailp X6 S6
    · rw [if_neg hb]
      have hn : ¬ isP zs := fun z => hb (hdue.mpr z)
      refine ⟨0, .ref hd, .non, rfl, .inl ⟨rfl, hd, zs, rfl, hd10, by omega, hn⟩, fun X1 sX1 => ⟨_, rfl, ?_⟩⟩
      rw [if_neg (by decide)]
      refine ⟨1, .ref rw', .ref hd, rfl, .inr (.inl ⟨rfl, rw', hd, xs, zs, rfl, rfl, sX1 _ _ h10, sX1 _ _ hd10, by omega, fun z => hn z.1⟩), fun X2 sX2 => ⟨_, rfl, ?_⟩⟩
      rw [if_neg (by decide)]
      have S2 := sX1.trans sX2
      have rng : ∀ {Y Z : Hp} {rl : Addr}, Same Y Z → Z rl = none → Same Y (upd Z rl (.lst ((rints 0 (zs.length : Int)).map V.int))) ∧ upd Z rl (.lst ((rints 0 (zs.length : Int)).map V.int)) rl = some (.lst (((List.range zs.length).map fun x : Nat => (x : Int)).map V.int)) := fun {Y Z rl} sYZ h => ⟨sYZ.new h, by rw [upd_same, rints_range]⟩
      have hrl : ((List.range zs.length).map fun x : Nat => (x : Int)).length < 64 := by rw [List.length_map, List.length_range]; omega
      refine ⟨(zs.length : Int), rfl, fun pr hpr => ⟨pr, 0, zs.length, rfl, upd_same, by omega, fun rl hrl0 => ?_⟩⟩
      obtain ⟨S4, h4⟩ := rng (S2.new hpr) hrl0
      generalize upd (upd X2 pr (.rng 0 (zs.length : Int))) rl (.lst ((rints 0 (zs.length : Int)).map V.int)) = X4 at S4 h4 ⊢
      refine ⟨2, .ref hd, .ref rl, rfl, .inr (.inr ⟨rfl, hd, rl, zs, _, rfl, rfl, S4 _ _ hd10, h4, by omega, hrl, fun z => hn z.1⟩), fun X5 sX5 => ⟨_, rfl, ?_⟩⟩
      rw [if_neg (by decide)]
      have S5 := S4.trans sX5
      refine ⟨(zs.length : Int), rfl, fun pr2 hpr2 => ⟨pr2, 0, zs.length, rfl, upd_same, by omega, fun rl2 hrl2 => ?_⟩⟩
      obtain ⟨S6, h6⟩ := rng (S5.new hpr2) hrl2
      generalize upd (upd X5 pr2 (.rng 0 (zs.length : Int))) rl2 (.lst ((rints 0 (zs.length : Int)).map V.int)) = X6 at S6 h6 ⊢
      refine ⟨2, .ref rl2, .ref hd, rfl, .inr (.inr ⟨rfl, rl2, hd, _, zs, rfl, rfl, h6, S6 _ _ hd10, hrl, by omega, fun z => hn z.2.1⟩), fun X7 sX7 => ⟨_, rfl, ?_⟩⟩
      rw [if_neg (by decide)]
      exact tailp X7 (S6.trans sX7)
  intro X sX
  have hppX := sX _ _ hpp10
  have hdX := sX _ _ hd10
  have hspX := sX _ _ hsp10
  have hpL : ((p.map fun x : Nat => (x : Int))).length = p.length := List.length_map ..
  clear hth hxl h10 hdue hb1 hperm hsort
  refine cut_of ?_
  walk_at "rd"
  refine compR1_of (by omega) (fun i ys σ Y => ∃ v, σ = [v] ∧ Same X Y ∧ Thg Y (List.range i) ys) ⟨_, rfl, .refl _, .nil⟩ (fun i ys σ Y ⟨_, _, _, e⟩ => by rw [e.1, List.length_range]; exact Nat.le_refl _) ?_ ?_
  · rintro i ys σ Y hi ⟨v, rfl, sY, hth⟩
    walk_at "rd"
    rw [show (0 + (i : Int)) = i by omega]
    refine ⟨le_line (by decide), fun t ht => ?_⟩
    refine Nxt.of hi ⟨_, rfl, sY.new ht, ?_⟩
    rw [List.range_succ]
    exact (hth.mono (same_new ht _)).snoc upd_same
  rintro ys σ X1 ⟨v, rfl, sX1, hth⟩ rw2 hrw2
  rw [Int.toNat_natCast] at hth
  obtain ⟨X2, g2, sX2, hX2⟩ := newH hrw2 (.lst ys)
  rw [g2]; clear g2
  have hyl : ys.length = p.length := by rw [hth.1, List.length_range]
  have S2 := sX1.trans sX2
  have hpp2 := S2 _ _ hppX
  refine cut_of ?_
  walk_at "rd"
  refine ⟨le_line (by decide), fun t ht => ⟨by decide, fun k1 hk1 => ?_⟩⟩
  obtain ⟨X3, g3, sX3, hX3⟩ := newH ht (.tup [.str "thing", .int (p.length : Int)])
  rw [g3] at hk1 ⊢; clear g3
  obtain ⟨X4, g4, sX4, hX4⟩ := newH hk1 (.lst [.ref t])
  rw [g4]; clear g4
  have S4 := sX3.trans sX4
  refine ⟨rw2, k1, _, _, rfl, rfl, S4 _ _ hX2, hX4, by rw [hyl, sizeLine_eq]; show p.length + 1 ≤ _; omega, fun k2 hk2 => ?_⟩
  obtain ⟨X5, g5, sX5, hX5⟩ := newH hk2 (.lst (ys ++ [.ref t]))
  rw [g5]; clear g5
  have S5 := S4.trans sX5
  refine ⟨pp, _, rfl, .inl (SqL.of (S5 _ _ hpp2)), fun k3 hk3 => ?_⟩
  obtain ⟨X6, g6, sX6, hX6⟩ := newH hk3 (.lst (NL p))
  rw [g6]; clear g6
  refine ⟨1, .ref k2, .ref k3, rfl, .inr (.inl ⟨rfl, k2, k3, _, _, rfl, rfl, sX6 _ _ hX5, hX6, by omega, fun z => ?_⟩), fun X7 sX7 => ⟨_, rfl, ?_⟩⟩
  · have := z.2
    rw [hpL, List.length_append, hyl] at this
    have : p.length = p.length + 1 := this
    omega
  rw [if_neg (by decide)]
  have S7 := S5.trans (sX6.trans sX7)
  have hpp7 := S7 _ _ hpp2
  have hd7 := S7 _ _ (S2 _ _ hdX)
  have hsp7 := S7 _ _ (S2 _ _ hspX)
  have hrw7 := S7 _ _ hX2
  clear hX3 hX4 hX5 hX6
  refine cut_of ?_
  walk_at "rd"
  apply onceX (α := Hp) (fun _ => [some (.ref a), some (.ref pp), some (.int (p.length : Int)), some (.ref sp), some (.int (zs.length : Int)), some (.bl b1), some (.ref hd), some (.bl b1), some (.ref rw2), none]) (fun Y => Y) (fun Y => Same X7 Y)
  · intro tailp
    by_cases hm : 0 < (p.length : Int)
    · rw [if_pos hm]
      refine slL_of (SqL.of hrw7) fun k4 hk4 => ?_
      rw [show (1 : Int) = ((1 : Nat) : Int) from rfl, cutV_from _ 1 (by omega)]
      obtain ⟨Y1, f1, sY1, hY1⟩ := newH hk4 (.lst (ys.drop 1))
      rw [f1]; clear f1
      refine ⟨pp, _, rfl, .inl (SqL.of (sY1 _ _ hpp7)), fun k5 hk5 => ?_⟩
      obtain ⟨Y2, f2, sY2, hY2⟩ := newH hk5 (.lst (NL p))
      rw [f2]; clear f2
      refine ⟨1, .ref k4, .ref k5, rfl, .inr (.inl ⟨rfl, k4, k5, _, _, rfl, rfl, sY2 _ _ hY1, hY2, by omega, fun z => ?_⟩), fun Y3 sY3 => ⟨_, rfl, ?_⟩⟩
      · have := z.2
        rw [hpL, List.length_drop, hyl] at this
        omega
      rw [if_neg (by decide)]
      exact tailp Y3 (sY1.trans (sY2.trans sY3))
    · rw [if_neg hm]
      exact tailp X7 (.refl _)
  intro Y sY
  have hpp8 := sY _ _ hpp7
  refine cut_of ?_
  walk_at "rd"
  refine ⟨(p.length : Int) + 1, rfl, fun pr hpr => ⟨pr, 0, (p.length : Int) + 1, rfl, upd_same, by omega, fun lg hlg => ?_⟩⟩
  obtain ⟨Y1, f1, sY1, hY1⟩ := newH hpr (.rng 0 ((p.length : Int) + 1))
  rw [f1] at hlg ⊢; clear f1
  rw [show ((p.length : Int) + 1) = ((p.length + 1 : Nat) : Int) by omega, show (rints 0 ((p.length + 1 : Nat) : Int)).map V.int = NL (List.range (p.length + 1)) from rints_range _]
  obtain ⟨Y2, f2, sY2, hY2⟩ := newH hlg (.lst (NL (List.range (p.length + 1))))
  rw [f2]; clear f2
  have T2 := sY1.trans sY2
  have hrl : ((List.range (p.length + 1)).map fun x : Nat => (x : Int)).length = p.length + 1 := by rw [List.length_map, List.length_range]
  refine cut_of ?_
  walk_at "rd"
  refine ⟨pp, _, rfl, .inl (SqL.of (T2 _ _ hpp8)), fun k6 hk6 => ?_⟩
  obtain ⟨Y3, f3, sY3, hY3⟩ := newH hk6 (.lst (NL p))
  rw [f3]; clear f3
  refine ⟨2, .ref k6, .ref lg, rfl, .inr (.inr ⟨rfl, k6, lg, _, _, rfl, rfl, hY3, sY3 _ _ hY2, by omega, by omega, fun z => ?_⟩), fun Y4 sY4 => ⟨_, rfl, ?_⟩⟩
  · have := z.2.2
    rw [hpL, hrl] at this
    omega
  rw [if_neg (by decide)]
  have T4 := sY3.trans sY4
  refine ⟨pp, _, rfl, .inl (SqL.of (T4 _ _ (T2 _ _ hpp8))), fun k7 hk7 => ?_⟩
  obtain ⟨Y5, f5, sY5, hY5⟩ := newH hk7 (.lst (NL p))
  rw [f5]; clear f5
  refine ⟨2, .ref lg, .ref k7, rfl, .inr (.inr ⟨rfl, lg, k7, _, _, rfl, rfl, sY5 _ _ (T4 _ _ hY2), hY5, by omega, by omega, fun z => ?_⟩), fun Y6 sY6 => ⟨_, rfl, ?_⟩⟩
  · have := z.2.2
    rw [hpL, hrl] at this
    omega
  rw [if_neg (by decide)]
  have T6 := sY.trans (T2.trans (T4.trans (sY5.trans sY6)))
  refine cut_of ?_
  walk_at "rd"
  refine eqD_of Enc.int.list (by decide) (dp_ints (SqL.of (T6 _ _ hd7))) (dp_ints (SqL.of (T6 _ _ hsp7))) ?_
  rw [decide_eq_true rfl]
  refine ⟨_, rfl, ?_⟩
  rw [if_pos rfl]
  refine ⟨pp, _, rfl, T6 _ _ hpp7, by omega, fun b Z hb sZ => ⟨b, true, rfl, rfl, ?_⟩⟩
  rw [hb.mpr ⟨p, hp, rfl⟩]
  exact q _
end
theorem all_mk {l : PySem.W.OpenLaw} {w : World} {K : PySem.W.Frag} {h : Heap} {mg : Str → Option Value} {fa C_HallError C_NoRule C_NoPaper C_NoPlace C_NoKey C_NoRow C_NoOrder C_TooFar C_Spent f_straight f_is_number f_is_paper f_check_paper f_laid f_back f_behind f_cell_at f_paper_by f_spoiled f_refused f_law : Addr} (X : K.In h) (G : h.Ns mainGlobals mg) (hfa : mg "law" = some (.ref fa))
    {od_straight an_straight : Option Addr} {sl_straight : Array (Option Value)} {oc_straight kV_straight dc_straight pm_straight cd_straight ct_straight : Value}
    {od_is_number an_is_number : Option Addr} {sl_is_number : Array (Option Value)} {oc_is_number kV_is_number dc_is_number pm_is_number cd_is_number ct_is_number : Value}
    {od_is_paper an_is_paper : Option Addr} {sl_is_paper : Array (Option Value)} {oc_is_paper kV_is_paper dc_is_paper pm_is_paper cd_is_paper ct_is_paper : Value}
    {od_check_paper an_check_paper : Option Addr} {sl_check_paper : Array (Option Value)} {oc_check_paper kV_check_paper dc_check_paper pm_check_paper cd_check_paper ct_check_paper : Value}
    {od_laid an_laid : Option Addr} {sl_laid : Array (Option Value)} {oc_laid kV_laid dc_laid pm_laid cd_laid ct_laid : Value}
    {od_back an_back : Option Addr} {sl_back : Array (Option Value)} {oc_back kV_back dc_back pm_back cd_back ct_back : Value}
    {od_behind an_behind : Option Addr} {sl_behind : Array (Option Value)} {oc_behind kV_behind dc_behind pm_behind cd_behind ct_behind : Value}
    {od_cell_at an_cell_at : Option Addr} {sl_cell_at : Array (Option Value)} {oc_cell_at kV_cell_at dc_cell_at pm_cell_at cd_cell_at ct_cell_at : Value}
    {od_paper_by an_paper_by : Option Addr} {sl_paper_by : Array (Option Value)} {oc_paper_by kV_paper_by dc_paper_by pm_paper_by cd_paper_by ct_paper_by : Value}
    {od_spoiled an_spoiled : Option Addr} {sl_spoiled : Array (Option Value)} {oc_spoiled kV_spoiled dc_spoiled pm_spoiled cd_spoiled ct_spoiled : Value}
    {od_refused an_refused : Option Addr} {sl_refused : Array (Option Value)} {oc_refused kV_refused dc_refused pm_refused cd_refused ct_refused : Value}
    {od_law an_law : Option Addr} {sl_law : Array (Option Value)} {oc_law kV_law dc_law pm_law cd_law ct_law : Value}
    (a_HallError : PySem.W.nsIn K mainGlobals "HallError" = some (some (.ref C_HallError)))
    (a_NoRule : PySem.W.nsIn K mainGlobals "NoRule" = some (some (.ref C_NoRule)))
    (a_NoPaper : PySem.W.nsIn K mainGlobals "NoPaper" = some (some (.ref C_NoPaper)))
    (a_NoPlace : PySem.W.nsIn K mainGlobals "NoPlace" = some (some (.ref C_NoPlace)))
    (a_NoKey : PySem.W.nsIn K mainGlobals "NoKey" = some (some (.ref C_NoKey)))
    (a_NoRow : PySem.W.nsIn K mainGlobals "NoRow" = some (some (.ref C_NoRow)))
    (a_NoOrder : PySem.W.nsIn K mainGlobals "NoOrder" = some (some (.ref C_NoOrder)))
    (a_TooFar : PySem.W.nsIn K mainGlobals "TooFar" = some (some (.ref C_TooFar)))
    (a_Spent : PySem.W.nsIn K mainGlobals "Spent" = some (some (.ref C_Spent)))
    (xq_NoPaper : PySem.W.excIn K C_NoPaper bmV "ValueError.__new__" = true)
    (xg_NoPaper : PySem.W.findIn K (.ref C_NoPaper) "__getattribute__" = some (some (.builtin "BaseException.__getattribute__")))
    (xh_NoPaper : PySem.W.findIn K (.ref C_NoPaper) "__getattr__" = some none)
    (xa_NoPaper : PySem.W.findIn K (.ref C_NoPaper) "__class__" = some (some (.builtin "object.__class__")))
    (xs_NoPaper : PySem.W.specialIn K (.builtin "object.__class__") "__get__" = some (some (.builtin "getset_descriptor.__get__")))
    (xt_NoPaper : PySem.W.takesIn K (.builtin "object.__class__") = some true)
    (xo_NoPaper : PySem.W.mroIn K C_NoPaper (.type "object") = some true)
    (xb_NoPaper : PySem.W.mroIn K C_NoPaper (.type "BaseException") = some true)
    (xd_NoPaper : PySem.W.hasDictIn K C_NoPaper = true)
    (xm_NoPaper_HallError : PySem.W.exmOne K (.ref C_NoPaper) (.ref C_HallError) = some true)
    (a_straight : PySem.W.nsIn K mainGlobals "straight" = some (some (.ref f_straight)))
    (l_straight : K.lookup f_straight = some ⟨oc_straight, od_straight, .func (PySem.W.fnOf "straight" "straight" (defArgs s_straight) (defBody s_straight) (defScope s_straight) .none kV_straight dc_straight pm_straight an_straight cd_straight ct_straight), sl_straight⟩)
    (c_straight : PySem.W.codeIn K cd_straight "straight" = true)
    (k_straight : PySem.W.keepIn K (.ref f_straight) = true)
    (a_is_number : PySem.W.nsIn K mainGlobals "is_number" = some (some (.ref f_is_number)))
    (l_is_number : K.lookup f_is_number = some ⟨oc_is_number, od_is_number, .func (PySem.W.fnOf "is_number" "is_number" (defArgs s_is_number) (defBody s_is_number) (defScope s_is_number) .none kV_is_number dc_is_number pm_is_number an_is_number cd_is_number ct_is_number), sl_is_number⟩)
    (c_is_number : PySem.W.codeIn K cd_is_number "is_number" = true)
    (k_is_number : PySem.W.keepIn K (.ref f_is_number) = true)
    (a_is_paper : PySem.W.nsIn K mainGlobals "is_paper" = some (some (.ref f_is_paper)))
    (l_is_paper : K.lookup f_is_paper = some ⟨oc_is_paper, od_is_paper, .func (PySem.W.fnOf "is_paper" "is_paper" (defArgs s_is_paper) (defBody s_is_paper) (defScope s_is_paper) .none kV_is_paper dc_is_paper pm_is_paper an_is_paper cd_is_paper ct_is_paper), sl_is_paper⟩)
    (c_is_paper : PySem.W.codeIn K cd_is_paper "is_paper" = true)
    (k_is_paper : PySem.W.keepIn K (.ref f_is_paper) = true)
    (a_check_paper : PySem.W.nsIn K mainGlobals "check_paper" = some (some (.ref f_check_paper)))
    (l_check_paper : K.lookup f_check_paper = some ⟨oc_check_paper, od_check_paper, .func (PySem.W.fnOf "check_paper" "check_paper" (defArgs s_check_paper) (defBody s_check_paper) (defScope s_check_paper) .none kV_check_paper dc_check_paper pm_check_paper an_check_paper cd_check_paper ct_check_paper), sl_check_paper⟩)
    (c_check_paper : PySem.W.codeIn K cd_check_paper "check_paper" = true)
    (k_check_paper : PySem.W.keepIn K (.ref f_check_paper) = true)
    (a_laid : PySem.W.nsIn K mainGlobals "laid" = some (some (.ref f_laid)))
    (l_laid : K.lookup f_laid = some ⟨oc_laid, od_laid, .func (PySem.W.fnOf "laid" "laid" (defArgs s_laid) (defBody s_laid) (defScope s_laid) .none kV_laid dc_laid pm_laid an_laid cd_laid ct_laid), sl_laid⟩)
    (c_laid : PySem.W.codeIn K cd_laid "laid" = true)
    (k_laid : PySem.W.keepIn K (.ref f_laid) = true)
    (a_back : PySem.W.nsIn K mainGlobals "back" = some (some (.ref f_back)))
    (l_back : K.lookup f_back = some ⟨oc_back, od_back, .func (PySem.W.fnOf "back" "back" (defArgs s_back) (defBody s_back) (defScope s_back) .none kV_back dc_back pm_back an_back cd_back ct_back), sl_back⟩)
    (c_back : PySem.W.codeIn K cd_back "back" = true)
    (k_back : PySem.W.keepIn K (.ref f_back) = true)
    (a_behind : PySem.W.nsIn K mainGlobals "behind" = some (some (.ref f_behind)))
    (l_behind : K.lookup f_behind = some ⟨oc_behind, od_behind, .func (PySem.W.fnOf "behind" "behind" (defArgs s_behind) (defBody s_behind) (defScope s_behind) .none kV_behind dc_behind pm_behind an_behind cd_behind ct_behind), sl_behind⟩)
    (c_behind : PySem.W.codeIn K cd_behind "behind" = true)
    (k_behind : PySem.W.keepIn K (.ref f_behind) = true)
    (a_cell_at : PySem.W.nsIn K mainGlobals "_law_cell_at" = some (some (.ref f_cell_at)))
    (l_cell_at : K.lookup f_cell_at = some ⟨oc_cell_at, od_cell_at, .func (PySem.W.fnOf "_law_cell_at" "_law_cell_at" (defArgs s_cell_at) (defBody s_cell_at) (defScope s_cell_at) .none kV_cell_at dc_cell_at pm_cell_at an_cell_at cd_cell_at ct_cell_at), sl_cell_at⟩)
    (c_cell_at : PySem.W.codeIn K cd_cell_at "_law_cell_at" = true)
    (k_cell_at : PySem.W.keepIn K (.ref f_cell_at) = true)
    (a_paper_by : PySem.W.nsIn K mainGlobals "_law_paper_by" = some (some (.ref f_paper_by)))
    (l_paper_by : K.lookup f_paper_by = some ⟨oc_paper_by, od_paper_by, .func (PySem.W.fnOf "_law_paper_by" "_law_paper_by" (defArgs s_paper_by) (defBody s_paper_by) (defScope s_paper_by) .none kV_paper_by dc_paper_by pm_paper_by an_paper_by cd_paper_by ct_paper_by), sl_paper_by⟩)
    (c_paper_by : PySem.W.codeIn K cd_paper_by "_law_paper_by" = true)
    (k_paper_by : PySem.W.keepIn K (.ref f_paper_by) = true)
    (a_spoiled : PySem.W.nsIn K mainGlobals "_law_spoiled" = some (some (.ref f_spoiled)))
    (l_spoiled : K.lookup f_spoiled = some ⟨oc_spoiled, od_spoiled, .func (PySem.W.fnOf "_law_spoiled" "_law_spoiled" (defArgs s_spoiled) (defBody s_spoiled) (defScope s_spoiled) .none kV_spoiled dc_spoiled pm_spoiled an_spoiled cd_spoiled ct_spoiled), sl_spoiled⟩)
    (c_spoiled : PySem.W.codeIn K cd_spoiled "_law_spoiled" = true)
    (k_spoiled : PySem.W.keepIn K (.ref f_spoiled) = true)
    (a_refused : PySem.W.nsIn K mainGlobals "_law_refused" = some (some (.ref f_refused)))
    (l_refused : K.lookup f_refused = some ⟨oc_refused, od_refused, .func (PySem.W.fnOf "_law_refused" "_law_refused" (defArgs s_refused) (defBody s_refused) (defScope s_refused) .none kV_refused dc_refused pm_refused an_refused cd_refused ct_refused), sl_refused⟩)
    (c_refused : PySem.W.codeIn K cd_refused "_law_refused" = true)
    (k_refused : PySem.W.keepIn K (.ref f_refused) = true)
    (a_law : PySem.W.nsIn K mainGlobals "law" = some (some (.ref f_law)))
    (l_law : K.lookup f_law = some ⟨oc_law, od_law, .func (PySem.W.fnOf "law" "law" (defArgs s_law) (defBody s_law) (defScope s_law) .none kV_law dc_law pm_law an_law cd_law ct_law), sl_law⟩)
    (c_law : PySem.W.codeIn K cd_law "law" = true)
    (k_law : PySem.W.keepIn K (.ref f_law) = true)
    (z_len : PySem.W.nsIn K mainGlobals "len" = some none)
    (z_range : PySem.W.nsIn K mainGlobals "range" = some none)
    (z_list : PySem.W.nsIn K mainGlobals "list" = some none)
    (z_isinstance : PySem.W.nsIn K mainGlobals "isinstance" = some none)
    (z_bool : PySem.W.nsIn K mainGlobals "bool" = some none)
    (z_int : PySem.W.nsIn K mainGlobals "int" = some none)
    (z_all : PySem.W.nsIn K mainGlobals "all" = some none)
    (z_sorted : PySem.W.nsIn K mainGlobals "sorted" = some none)
    (z_enumerate : PySem.W.nsIn K mainGlobals "enumerate" = some none)
    (z_ValueError : PySem.W.nsIn K mainGlobals "ValueError" = some none)
    (kit_int_bool : PySem.W.kitOne K (.type "int") (.type "bool") = some false)
    (kit_NoPaper_ValueError : PySem.W.kitOne K (.ref C_NoPaper) (.type "ValueError") = some true)
    (kit_NoPaper_NoPaper : PySem.W.kitOne K (.ref C_NoPaper) (.ref C_NoPaper) = some true)
    (kit_NoPaper_NoRule : PySem.W.kitOne K (.ref C_NoPaper) (.ref C_NoRule) = some false)
    (kit_NoPaper_NoPlace : PySem.W.kitOne K (.ref C_NoPaper) (.ref C_NoPlace) = some false)
    (kit_NoPaper_NoKey : PySem.W.kitOne K (.ref C_NoPaper) (.ref C_NoKey) = some false)
    (kit_NoPaper_NoRow : PySem.W.kitOne K (.ref C_NoPaper) (.ref C_NoRow) = some false)
    (kit_NoPaper_NoOrder : PySem.W.kitOne K (.ref C_NoPaper) (.ref C_NoOrder) = some false)
    (kit_NoPaper_TooFar : PySem.W.kitOne K (.ref C_NoPaper) (.ref C_TooFar) = some false)
    (kit_NoPaper_Spent : PySem.W.kitOne K (.ref C_NoPaper) (.ref C_Spent) = some false) :
    ∃ fd : FuncData, (∀ (s : Shared) (v : Value), BindsTo s fd ⟨[v], []⟩ [("_law_script", v)]) ∧ ∀ base : Heap, K.In base → base.Ns mainGlobals mg → FnOk l.prog w K mg base CX0 7 fa fd ["_law_script"] (spLaw K) := by
  have e := hfa.symm.trans (PySem.W.mg_of X G a_law)
  cases e
  have F_straight := fun_mk (st := s_straight) l_straight c_straight k_straight
  have b_straight := F_straight.binds (ps := ["many"]) fun _ _ _ _ _ _ us hl => by obtain ⟨_, rfl⟩ := us1 hl; rfl
  have F_is_number := fun_mk (st := s_is_number) l_is_number c_is_number k_is_number
  have b_is_number := F_is_number.binds (ps := ["some"]) fun _ _ _ _ _ _ us hl => by obtain ⟨_, rfl⟩ := us1 hl; rfl
  have F_is_paper := fun_mk (st := s_is_paper) l_is_paper c_is_paper k_is_paper
  have b_is_paper := F_is_paper.binds (ps := ["some"]) fun _ _ _ _ _ _ us hl => by obtain ⟨_, rfl⟩ := us1 hl; rfl
  have F_check_paper := fun_mk (st := s_check_paper) l_check_paper c_check_paper k_check_paper
  have b_check_paper := F_check_paper.binds (ps := ["some", "many"]) fun _ _ _ _ _ _ us hl => by obtain ⟨_, _, rfl⟩ := us2 hl; rfl
  have F_laid := fun_mk (st := s_laid) l_laid c_laid k_laid
  have b_laid := F_laid.binds (ps := ["row", "paper"]) fun _ _ _ _ _ _ us hl => by obtain ⟨_, _, rfl⟩ := us2 hl; rfl
  have F_back := fun_mk (st := s_back) l_back c_back k_back
  have b_back := F_back.binds (ps := ["paper"]) fun _ _ _ _ _ _ us hl => by obtain ⟨_, rfl⟩ := us1 hl; rfl
  have F_behind := fun_mk (st := s_behind) l_behind c_behind k_behind
  have b_behind := F_behind.binds (ps := ["first", "second"]) fun _ _ _ _ _ _ us hl => by obtain ⟨_, _, rfl⟩ := us2 hl; rfl
  have F_cell_at := fun_mk (st := s_cell_at) l_cell_at c_cell_at k_cell_at
  have b_cell_at := F_cell_at.binds (ps := ["_law_script", "_law_k"]) fun _ _ _ _ _ _ us hl => by obtain ⟨_, _, rfl⟩ := us2 hl; rfl
  have F_paper_by := fun_mk (st := s_paper_by) l_paper_by c_paper_by k_paper_by
  have b_paper_by := F_paper_by.binds (ps := ["_law_cells"]) fun _ _ _ _ _ _ us hl => by obtain ⟨_, rfl⟩ := us1 hl; rfl
  have F_spoiled := fun_mk (st := s_spoiled) l_spoiled c_spoiled k_spoiled
  have b_spoiled := F_spoiled.binds (ps := ["_law_paper", "_law_cell", "_law_number"]) fun _ _ _ _ _ _ us hl => by obtain ⟨_, _, _, rfl⟩ := us3 hl; rfl
  have F_refused := fun_mk (st := s_refused) l_refused c_refused k_refused
  have b_refused := F_refused.binds (ps := ["_law_way", "_law_first", "_law_second"]) fun _ _ _ _ _ _ us hl => by obtain ⟨_, _, _, rfl⟩ := us3 hl; rfl
  have F_law := fun_mk (st := s_law) l_law c_law k_law
  have b_law := F_law.binds (ps := ["_law_script"]) fun _ _ _ _ _ _ us hl => by obtain ⟨_, rfl⟩ := us1 hl; rfl
  have T : Bt K mg C_HallError C_NoRule C_NoPaper C_NoPlace C_NoKey C_NoRow C_NoOrder C_TooFar C_Spent := ⟨PySem.W.mg_none_of X G z_len, PySem.W.mg_none_of X G z_range, PySem.W.mg_none_of X G z_list, PySem.W.mg_none_of X G z_isinstance, PySem.W.mg_none_of X G z_bool, PySem.W.mg_none_of X G z_int, PySem.W.mg_none_of X G z_all, PySem.W.mg_none_of X G z_sorted, PySem.W.mg_none_of X G z_enumerate, PySem.W.mg_none_of X G z_ValueError, PySem.W.mg_of X G a_HallError, PySem.W.mg_of X G a_NoRule, PySem.W.mg_of X G a_NoPaper, PySem.W.mg_of X G a_NoPlace, PySem.W.mg_of X G a_NoKey, PySem.W.mg_of X G a_NoRow, PySem.W.mg_of X G a_NoOrder, PySem.W.mg_of X G a_TooFar, PySem.W.mg_of X G a_Spent, xq_NoPaper, ⟨xg_NoPaper, xh_NoPaper, xa_NoPaper, xs_NoPaper, xt_NoPaper, xo_NoPaper, xb_NoPaper⟩, xd_NoPaper, xm_NoPaper_HallError, kit_int_bool, kit_NoPaper_ValueError, kit_NoPaper_NoPaper, kit_NoPaper_NoRule, kit_NoPaper_NoPlace, kit_NoPaper_NoKey, kit_NoPaper_NoRow, kit_NoPaper_NoOrder, kit_NoPaper_TooFar, kit_NoPaper_Spent⟩
  refine ⟨PySem.W.fnOf "law" "law" (defArgs s_law) (defBody s_law) (defScope s_law) .none kV_law dc_law pm_law an_law cd_law ct_law, fun s v => .of_eq rfl, fun base _ _ => ?_⟩
  have f_paper_by' : Fn l.prog w K mg base CX0 "_law_paper_by" 1 ["_law_cells"] (spPaperBy) := ⟨_, _, ok_paper_by F_paper_by T , b_paper_by, k_paper_by, PySem.W.mg_of X G a_paper_by⟩
  have f_spoiled' : Fn l.prog w K mg base CX0 "_law_spoiled" 1 ["_law_paper", "_law_cell", "_law_number"] (spSpoiled) := ⟨_, _, ok_spoiled F_spoiled T , b_spoiled, k_spoiled, PySem.W.mg_of X G a_spoiled⟩
  have f_straight' : Fn l.prog w K mg base CX0 "straight" 1 ["many"] (spStraight) := ⟨_, _, ok_straight F_straight T , b_straight, k_straight, PySem.W.mg_of X G a_straight⟩
  have f_is_number' : Fn l.prog w K mg base CX0 "is_number" 1 ["some"] (spIsNumber) := ⟨_, _, ok_is_number F_is_number T , b_is_number, k_is_number, PySem.W.mg_of X G a_is_number⟩
  have f_is_paper' : Fn l.prog w K mg base CX0 "is_paper" 2 ["some"] (spIsPaper) := ⟨_, _, ok_is_paper F_is_paper T f_straight' f_is_number', b_is_paper, k_is_paper, PySem.W.mg_of X G a_is_paper⟩
  have f_cell_at' : Fn l.prog w K mg base CX0 "_law_cell_at" 1 ["_law_script", "_law_k"] (spCell K) := ⟨_, _, ok_cell_at F_cell_at T , b_cell_at, k_cell_at, PySem.W.mg_of X G a_cell_at⟩
  have f_check_paper' : Fn l.prog w K mg base (CXE l.prog w) "check_paper" 3 ["some", "many"] (spCheckPaper C_NoPaper) := ⟨_, _, ok_check_paper F_check_paper T f_is_paper', b_check_paper, k_check_paper, PySem.W.mg_of X G a_check_paper⟩
  have f_back' : Fn l.prog w K mg base (CXE l.prog w) "back" 4 ["paper"] (spBack C_NoPaper) := ⟨_, _, ok_back F_back T f_check_paper' f_straight', b_back, k_back, PySem.W.mg_of X G a_back⟩
  have f_laid' : Fn l.prog w K mg base (CXE l.prog w) "laid" 4 ["row", "paper"] (spLaid C_NoPaper) := ⟨_, _, ok_laid F_laid T f_check_paper', b_laid, k_laid, PySem.W.mg_of X G a_laid⟩
  have f_behind' : Fn l.prog w K mg base (CXE l.prog w) "behind" 5 ["first", "second"] (spBehind C_NoPaper) := ⟨_, _, ok_behind F_behind T f_check_paper' f_laid', b_behind, k_behind, PySem.W.mg_of X G a_behind⟩
  have f_refused' : Fn l.prog w K mg base CX0 "_law_refused" 6 ["_law_way", "_law_first", "_law_second"] (spRefused) := ⟨_, _, ok_refused F_refused T f_back' f_laid' f_behind', b_refused, k_refused, PySem.W.mg_of X G a_refused⟩
  exact ok_law F_law T f_paper_by' f_spoiled' f_is_paper' f_cell_at' f_refused' f_laid' f_back'
theorem walk {l : PySem.W.OpenLaw} {q : Program} {loose : List Str} {XP : (Str → Option Value) → Heap → Prop} {YP : World → Heap → Prop} {d : DefRec} {K : Params → PySem.W.Frag} (hn : l.most = some 63) (hdf : d.params.defaults = [])
    (hY : ∀ (w : World) (h : Heap), YP w h → (K w.params).In h)
    (F : ∀ (w : World) (mg : Str → Option Value) (fa : Addr) (h : Heap), (K w.params).In h → h.Ns mainGlobals mg → mg d.name = some (.ref fa) →
      ∃ fd : FuncData, (∀ (s : Shared) (u : Value), BindsTo s fd ⟨[u], []⟩ [("_law_script", u)]) ∧ ∀ base : Heap, (K w.params).In base → base.Ns mainGlobals mg → FnOk l.prog w (K w.params) mg base CX0 7 fa fd ["_law_script"] (spLaw (K w.params))) :
    PySem.W.WalkO q loose XP YP l.row.toRowW d [] (fun f vs => PySem.call f vs) :=
  L2.walk_of (n := 63) (k := 7) (x := "_law_script") (CX := fun _ => CX0) (sp := fun w => spLaw (K w.params)) hn (by decide) hdf ⟨rfl, by decide, by decide⟩ hY F (fun _ _ a ns hl _ hS => ⟨a, ns, rfl, hS, hl, fun _ => rfl⟩) fun _ _ _ _ _ z => z
end Law
open PySem PySem.W PyProof.Rows
set_option maxRecDepth 100000 in
set_option maxHeartbeats 0 in
theorem PySem.Challenge.cw_sorthall_k23_no_paper_holds : PySem.Challenge.rw_sorthall_k23_no_paper.Holds := by
  refine L2.hd0 ?_
  k_fill
  refine Law.walk (l := PySem.Challenge.rw_sorthall_k23_no_paper) rfl rfl (fun w h Y => PySem.W.kIn_of Y) ?F
  case F =>
    intro w mg fa h KX G hmg
    refine' Law.all_mk KX G hmg ?a_HallError ?a_NoRule ?a_NoPaper ?a_NoPlace ?a_NoKey ?a_NoRow ?a_NoOrder ?a_TooFar ?a_Spent ?xq_NoPaper ?xg_NoPaper ?xh_NoPaper ?xa_NoPaper ?xs_NoPaper ?xt_NoPaper ?xo_NoPaper ?xb_NoPaper ?xd_NoPaper ?xm_NoPaper_HallError ?a_straight ?l_straight ?c_straight ?k_straight ?a_is_number ?l_is_number ?c_is_number ?k_is_number ?a_is_paper ?l_is_paper ?c_is_paper ?k_is_paper ?a_check_paper ?l_check_paper ?c_check_paper ?k_check_paper ?a_laid ?l_laid ?c_laid ?k_laid ?a_back ?l_back ?c_back ?k_back ?a_behind ?l_behind ?c_behind ?k_behind ?a_cell_at ?l_cell_at ?c_cell_at ?k_cell_at ?a_paper_by ?l_paper_by ?c_paper_by ?k_paper_by ?a_spoiled ?l_spoiled ?c_spoiled ?k_spoiled ?a_refused ?l_refused ?c_refused ?k_refused ?a_law ?l_law ?c_law ?k_law ?z_len ?z_range ?z_list ?z_isinstance ?z_bool ?z_int ?z_all ?z_sorted ?z_enumerate ?z_ValueError ?kit_int_bool ?kit_NoPaper_ValueError ?kit_NoPaper_NoPaper ?kit_NoPaper_NoRule ?kit_NoPaper_NoPlace ?kit_NoPaper_NoKey ?kit_NoPaper_NoRow ?kit_NoPaper_NoOrder ?kit_NoPaper_TooFar ?kit_NoPaper_Spent
    (case a_HallError => k_is)
    (case a_NoRule => k_is)
    (case a_NoPaper => k_is)
    (case a_NoPlace => k_is)
    (case a_NoKey => k_is)
    (case a_NoRow => k_is)
    (case a_NoOrder => k_is)
    (case a_TooFar => k_is)
    (case a_Spent => k_is)
    (case xq_NoPaper => k_exc)
    (case xg_NoPaper => k_is)
    (case xh_NoPaper => k_is)
    (case xa_NoPaper => k_is)
    (case xs_NoPaper => k_is)
    (case xt_NoPaper => k_is)
    (case xo_NoPaper => k_is)
    (case xb_NoPaper => k_is)
    (case xd_NoPaper => k_is)
    (case xm_NoPaper_HallError => kts_exm)
    (case a_straight => k_is)
    (case l_straight => k_is)
    (case c_straight => k_is)
    (case k_straight => k_is)
    (case a_is_number => k_is)
    (case l_is_number => k_is)
    (case c_is_number => k_is)
    (case k_is_number => k_is)
    (case a_is_paper => k_is)
    (case l_is_paper => k_is)
    (case c_is_paper => k_is)
    (case k_is_paper => k_is)
    (case a_check_paper => k_is)
    (case l_check_paper => k_is)
    (case c_check_paper => k_is)
    (case k_check_paper => k_is)
    (case a_laid => k_is)
    (case l_laid => k_is)
    (case c_laid => k_is)
    (case k_laid => k_is)
    (case a_back => k_is)
    (case l_back => k_is)
    (case c_back => k_is)
    (case k_back => k_is)
    (case a_behind => k_is)
    (case l_behind => k_is)
    (case c_behind => k_is)
    (case k_behind => k_is)
    (case a_cell_at => k_is)
    (case l_cell_at => k_is)
    (case c_cell_at => k_is)
    (case k_cell_at => k_is)
    (case a_paper_by => k_is)
    (case l_paper_by => k_is)
    (case c_paper_by => k_is)
    (case k_paper_by => k_is)
    (case a_spoiled => k_is)
    (case l_spoiled => k_is)
    (case c_spoiled => k_is)
    (case k_spoiled => k_is)
    (case a_refused => k_is)
    (case l_refused => k_is)
    (case c_refused => k_is)
    (case k_refused => k_is)
    (case a_law => k_is)
    (case l_law => k_is)
    (case c_law => k_is)
    (case k_law => k_is)
    (case z_len => k_is)
    (case z_range => k_is)
    (case z_list => k_is)
    (case z_isinstance => k_is)
    (case z_bool => k_is)
    (case z_int => k_is)
    (case z_all => k_is)
    (case z_sorted => k_is)
    (case z_enumerate => k_is)
    (case z_ValueError => k_is)
    (case kit_int_bool => kit_is)
    (case kit_NoPaper_ValueError => kit_is)
    (case kit_NoPaper_NoPaper => kit_is)
    (case kit_NoPaper_NoRule => kit_is)
    (case kit_NoPaper_NoPlace => kit_is)
    (case kit_NoPaper_NoKey => kit_is)
    (case kit_NoPaper_NoRow => kit_is)
    (case kit_NoPaper_NoOrder => kit_is)
    (case kit_NoPaper_TooFar => kit_is)
    (case kit_NoPaper_Spent => kit_is)
