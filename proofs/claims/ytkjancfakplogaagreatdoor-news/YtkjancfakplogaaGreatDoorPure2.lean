import Derived.Test.YtkjancfakplogaaGreatDoorPure1
namespace Go.Proofs.YtkjancfakplogaaGreatDoor
open Go.RowKit
/-- A node and its place. -/
structure Nd where
  id : Int
  parent : Int
  name : Str
def nd0 : Nd := ⟨0, 0, []⟩
def ndEq (a b : Nd) : Bool := a.id == b.id && (a.parent == b.parent && a.name == b.name)
theorem ndEq_iff {a b : Nd} : ndEq a b = true ↔ a = b := by
  cases a; cases b; simp [ndEq]
def readNode (l : Str) : Option Nd :=
  match parts l with
  | [a, b, c] => if (number a 1 99).2 && (number b 0 99).2 && isName c (number a 1 99).1 then some ⟨(number a 1 99).1, (number b 0 99).1, c⟩ else none
  | _ => none
theorem numGo_bd (most : Int) : ∀ (l : Str) (n m : Int), 0 ≤ n → n ≤ most → numGo most n l = some m → 0 ≤ m ∧ m ≤ most := by
  intro l
  induction l with
  | nil => intro n m h0 h1 h; simp [numGo] at h; omega
  | cons c r ih =>
    intro n m h0 h1 h
    rw [numGo] at h
    split at h
    · split at h
      · cases h
      · exact ih _ m (by omega) (by omega) h
    · cases h
theorem number_bd (l : Str) (a b : Int) (hb : 0 ≤ b) : 0 ≤ (number l a b).1 ∧ (number l a b).1 ≤ b := by
  unfold number
  split
  · simp; exact hb
  · cases h : numGo b 0 l with
    | none => simp; exact hb
    | some n => exact numGo_bd b l 0 n (by omega) hb h
theorem number_lo (l : Str) (a b : Int) (h : (number l a b).2 = true) : a ≤ (number l a b).1 := by
  unfold number at h ⊢
  split at h
  · cases h
  · rename_i hb
    rw [if_neg hb]
    split at h
    · cases h
    · simp only []; simpa using h
theorem part_len (l : Str) : ∀ x ∈ parts l, x.length ≤ l.length := by
  have key : (∀ x ∈ (partTo l).1, x.length ≤ l.length) ∧ (partTo l).2.length ≤ l.length := by
    refine snoc_ind (P := fun l => (∀ x ∈ (partTo l).1, x.length ≤ l.length) ∧ (partTo l).2.length ≤ l.length) (by simp [partTo]) ?_ l
    rintro l c ⟨h1, h2⟩
    rw [partTo_snoc]; unfold partStep
    split
    · refine ⟨?_, by simp⟩
      intro x hx
      rcases List.mem_append.1 hx with hx | hx
      · have := h1 x hx; simp; omega
      · simp at hx; subst hx; simp; omega
    · refine ⟨fun x hx => by have := h1 x hx; simp; omega, by simp; omega⟩
  intro x hx
  rcases List.mem_append.1 hx with hx | hx
  · exact key.1 x hx
  · simp at hx; subst hx; exact key.2
theorem cut_mem_len (l : Str) : ∀ x ∈ cut l, x.length ≤ l.length := by
  have key : (∀ x ∈ (cutTo l).1, x.length ≤ l.length) ∧ (cutTo l).2.length ≤ l.length := by
    refine snoc_ind (P := fun l => (∀ x ∈ (cutTo l).1, x.length ≤ l.length) ∧ (cutTo l).2.length ≤ l.length) (by simp [cutTo]) ?_ l
    rintro l c ⟨h1, h2⟩
    rw [cutTo_snoc]; unfold cutStep
    split
    · refine ⟨?_, by simp⟩
      intro x hx
      rcases List.mem_append.1 hx with hx | hx
      · have := h1 x hx; simp; omega
      · simp at hx; subst hx; simp; omega
    · refine ⟨fun x hx => by have := h1 x hx; simp; omega, by simp; omega⟩
  intro x hx
  unfold cut at hx
  split at hx
  · exact key.1 x hx
  · rcases List.mem_append.1 hx with hx | hx
    · exact key.1 x hx
    · simp at hx; subst hx; exact key.2
theorem cut_length_le (l : Str) : (cut l).length ≤ l.length := by
  have := cutTo_len l
  unfold cut
  split
  · omega
  · rename_i h
    have : 0 < (cutTo l).2.length := List.length_pos_iff.2 h
    simp; omega
theorem bodyS_len (l : Str) : (bodyS l).length ≤ l.length := by unfold bodyS; split <;> simp
theorem readNode_bd {l : Str} {n : Nd} (h : readNode l = some n) : 1 ≤ n.id ∧ n.id ≤ 99 ∧ 0 ≤ n.parent ∧ n.parent ≤ 99 ∧ isName n.name n.id = true := by
  unfold readNode at h
  split at h
  · rename_i a b c _
    split at h
    · rename_i hh
      simp only [Bool.and_eq_true] at hh
      cases h
      exact ⟨number_lo a 1 99 hh.1.1, (number_bd a 1 99 (by omega)).2, (number_bd b 0 99 (by omega)).1, (number_bd b 0 99 (by omega)).2, hh.2⟩
    · cases h
  · cases h
/-- A record of a tree. -/
def recNode (r : Str) : Option Nd := if bodyB r then readNode (bodyS r) else none
/-- The nodes up to the first record that has not the form. -/
def readNodes : List Str → List Nd
  | [] => []
  | r :: l => match recNode r with
    | none => []
    | some n => n :: readNodes l
theorem readNodes_length (l : List Str) : (readNodes l).length ≤ l.length := by
  induction l with
  | nil => simp [readNodes]
  | cons r l ih => unfold readNodes; split <;> simp; omega
theorem readNodes_bd (l : List Str) : ∀ n ∈ readNodes l, 1 ≤ n.id ∧ n.id ≤ 99 ∧ 0 ≤ n.parent ∧ n.parent ≤ 99 ∧ isName n.name n.id = true := by
  induction l with
  | nil => intro n h; simp [readNodes] at h
  | cons r l ih =>
    intro n h
    unfold readNodes at h
    split at h
    · simp at h
    · rename_i m hm
      rcases List.mem_cons.1 h with rfl | h
      · unfold recNode at hm; split at hm
        · exact readNode_bd hm
        · cases hm
      · exact ih n h
end Go.Proofs.YtkjancfakplogaaGreatDoor
