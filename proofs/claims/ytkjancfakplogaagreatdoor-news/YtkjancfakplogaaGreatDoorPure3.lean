import Derived.Test.YtkjancfakplogaaGreatDoorPure2
namespace Go.Proofs.YtkjancfakplogaaGreatDoor
open Go.RowKit
/-- The first number from lo on, below n, that has p; else n. -/
def scan (p : Nat → Bool) (lo n : Nat) : Nat := ((List.range' lo (n - lo)).find? p).getD n
theorem scan_hit {p : Nat → Bool} {lo n k : Nat} (h1 : lo ≤ k) (h2 : k < n) (hp : p k = true) (hno : ∀ j, lo ≤ j → j < k → p j = false) : scan p lo n = k := by
  unfold scan
  have : (List.range' lo (n - lo)).find? p = some k := by
    rw [List.find?_range'_eq_some]
    exact ⟨hp, by rw [List.mem_range'_1]; omega, fun j hj hk => by simp [hno j hj hk]⟩
  rw [this]; rfl
theorem scan_none {p : Nat → Bool} {lo n : Nat} (hno : ∀ j, lo ≤ j → j < n → p j = false) : scan p lo n = n := by
  unfold scan
  have : (List.range' lo (n - lo)).find? p = none := by
    rw [List.find?_eq_none]
    intro x hx
    rw [List.mem_range'_1] at hx
    simp [hno x hx.1 (by omega)]
  rw [this]; rfl
theorem scan_le (p : Nat → Bool) (lo n : Nat) : scan p lo n ≤ n := by
  unfold scan
  cases h : (List.range' lo (n - lo)).find? p with
  | none => simp
  | some k => have := List.mem_of_find?_eq_some h; rw [List.mem_range'_1] at this; simp; omega
def ndAt (ns : List Nd) (i : Nat) : Nd := ns.getD i nd0
theorem ndAt_get (ns : List Nd) (i : Nat) (h : i < ns.length) : ndAt ns i = ns[i] := by simp [ndAt, h]
def unordered (ns : List Nd) (i : Nat) : Bool := decide ((ndAt ns i).id ≤ (ndAt ns (i - 1)).id)
abbrev Tr := Nat → Option Nd
def TrOk (t : Tr) : Prop := t 0 = none ∧ ∀ i n, t i = some n → n.id = i ∧ 1 ≤ i ∧ i ≤ 99 ∧ 0 ≤ n.parent ∧ n.parent ≤ 99 ∧ isName n.name n.id = true
def trPut (t : Tr) (n : Nd) : Tr := fun i => if (i : Int) = n.id then some n else t i
def tr0 : Tr := fun _ => none
def gather (ns : List Nd) : Tr := ns.foldl trPut tr0
theorem trOk_0 : TrOk tr0 := ⟨rfl, fun i n h => by cases h⟩
theorem trOk_put {t : Tr} (h : TrOk t) {n : Nd} (hn : 1 ≤ n.id ∧ n.id ≤ 99 ∧ 0 ≤ n.parent ∧ n.parent ≤ 99 ∧ isName n.name n.id = true) : TrOk (trPut t n) := by
  refine ⟨?_, fun i m hm => ?_⟩
  · unfold trPut; rw [if_neg (by omega)]; exact h.1
  · unfold trPut at hm
    split at hm
    · cases hm; rename_i e; exact ⟨e.symm, by omega, by omega, hn.2.2.1, hn.2.2.2.1, hn.2.2.2.2⟩
    · exact h.2 i m hm
def hasT (t : Tr) (id : Int) : Bool := (t id.toNat).isSome
def isParentT (t : Tr) (id : Int) : Bool := id == 0 || (id % 2 == 0 && hasT t id)
def meetsF (t : Tr) : Nat → Int → Int → Bool
  | 0, _, _ => false
  | f + 1, id, goal => if id = goal then true else match t id.toNat with
    | none => false
    | some n => meetsF t f n.parent goal
def meetsT (t : Tr) (id goal : Int) : Bool := meetsF t 100 id goal
def orphan (t : Tr) (ns : List Nd) (i : Nat) : Bool := !isParentT t (ndAt ns i).parent
def looped (t : Tr) (ns : List Nd) (i : Nat) : Bool := !meetsT t (ndAt ns i).id 0
def samePlace (ns : List Nd) (i j : Nat) : Bool := ((ndAt ns j).parent == (ndAt ns i).parent) && ((ndAt ns j).name == (ndAt ns i).name)
def twice (ns : List Nd) (i : Nat) : Bool := decide (∃ j, j < i ∧ samePlace ns i j = true)
/-- What Read answers: the error and the place. -/
def misplaced (t : Tr) (ns : List Nd) : Int × Nat :=
  if scan (orphan t ns) 0 ns.length < ns.length then (4, scan (orphan t ns) 0 ns.length)
  else if scan (looped t ns) 0 ns.length < ns.length then (5, scan (looped t ns) 0 ns.length)
  else if scan (twice ns) 0 ns.length < ns.length then (6, scan (twice ns) 0 ns.length)
  else (0, 0)
def checkT (l : Str) : Int × Nat :=
  if 4000 < l.length then (1, 0) else
  let rs := cut l
  let ns := readNodes rs
  if ns.length < rs.length then (2, ns.length) else
  if scan (unordered ns) 1 ns.length < ns.length then (3, scan (unordered ns) 1 ns.length) else
  misplaced (gather ns) ns
theorem gather_ok_aux : ∀ (ns : List Nd) (t : Tr), TrOk t → (∀ n ∈ ns, 1 ≤ n.id ∧ n.id ≤ 99 ∧ 0 ≤ n.parent ∧ n.parent ≤ 99 ∧ isName n.name n.id = true) → TrOk (ns.foldl trPut t) := by
  intro ns
  induction ns with
  | nil => intro t h _; exact h
  | cons n ns ih => intro t h hn; exact ih _ (trOk_put h (hn n (by simp))) (fun m hm => hn m (by simp [hm]))
theorem gather_ok (l : List Str) : TrOk (gather (readNodes l)) := gather_ok_aux _ _ trOk_0 (readNodes_bd l)
end Go.Proofs.YtkjancfakplogaaGreatDoor
