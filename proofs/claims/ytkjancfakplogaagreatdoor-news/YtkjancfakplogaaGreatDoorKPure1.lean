import Derived.Test.YtkjancfakplogaaGreatDoorPure4
import Derived.Test.YtkjancfakplogaaGreatDoorRPure4
namespace Go.Proofs.YtkjancfakplogaaGreatDoor
open Go.RowKit
/-! Cutting texts that are put together of records. -/
theorem cutFold (L : List Str) : ∀ (l c : Str), l.foldl cutStep (L, c) = (L ++ (l.foldl cutStep ([], c)).1, (l.foldl cutStep ([], c)).2) := by
  intro l
  induction l generalizing L with
  | nil => intro c; simp
  | cons x l ih =>
    intro c
    simp only [List.foldl_cons, cutStep]
    by_cases h : x = 59
    · rw [if_pos h, if_pos h, ih (L ++ [c ++ [x]]), ih ([] ++ [c ++ [x]])]; simp
    · rw [if_neg h, if_neg h, ih L]
theorem cutRec : ∀ (a c : Str), (∀ x ∈ a, x ≠ 59) → (a ++ [59]).foldl cutStep ([], c) = ([c ++ a ++ [59]], []) := by
  intro a
  induction a with
  | nil => intro c _; simp [cutStep]
  | cons x a ih =>
    intro c h
    rw [List.cons_append, List.foldl_cons, cutStep, if_neg (h x (by simp)), ih _ (fun y hy => h y (by simp [hy]))]
    simp
theorem cut_cons {a : Str} (h : ∀ x ∈ a, x ≠ 59) (rest : Str) : cut (a ++ [59] ++ rest) = (a ++ [59]) :: cut rest := by
  have e : cutTo (a ++ [59] ++ rest) = ((a ++ [59]) :: (cutTo rest).1, (cutTo rest).2) := by
    unfold cutTo
    rw [List.foldl_append, cutRec a [] h, cutFold]; simp
  unfold cut
  rw [e]
  split
  · rfl
  · simp
theorem cut_nil : cut [] = [] := rfl
theorem cut_flat (l : Str) : (cut l).flatten = l := by
  have key : (cutTo l).1.flatten ++ (cutTo l).2 = l := by
    refine snoc_ind (P := fun l => (cutTo l).1.flatten ++ (cutTo l).2 = l) rfl ?_ l
    intro l c h
    rw [cutTo_snoc]; unfold cutStep
    split
    · simp; rw [← List.append_assoc, h]
    · simp; rw [← List.append_assoc, h]
  unfold cut
  split
  · rename_i h; rw [h] at key; simpa using key
  · rw [List.flatten_append]; simpa using key
/-- A text whose records all end with their semicolon: what is cut of it and of what follows. -/
theorem cut_app {s : Str} (h : ∀ r ∈ cut s, bodyB r = true) (t : Str) : cut (s ++ t) = cut s ++ cut t := by
  have hc : (cutTo s).2 = [] := by
    cases he : (cutTo s).2 with
    | nil => rfl
    | cons x r =>
      exfalso
      have hm : (cutTo s).2 ∈ cut s := by unfold cut; rw [if_neg (by rw [he]; simp)]; simp
      have hb := h _ hm
      -- the rest behind the last semicolon holds none
      have hno : ∀ l : Str, ∀ y ∈ (cutTo l).2, y ≠ 59 := by
        intro l
        refine snoc_ind (P := fun l => ∀ y ∈ (cutTo l).2, y ≠ 59) (by simp [cutTo]) ?_ l
        intro l c ih
        rw [cutTo_snoc]; unfold cutStep
        split
        · simp
        · rename_i hne
          intro y hy
          rcases List.mem_append.1 hy with hy | hy
          · exact ih y hy
          · simp at hy; rw [hy]; exact hne
      unfold bodyB at hb
      have hl : (cutTo s).2.getLast? = some 59 := by simpa using hb
      exact hno s 59 (List.mem_of_getLast? hl) rfl
  have e : cutTo (s ++ t) = ((cutTo s).1 ++ (cutTo t).1, (cutTo t).2) := by
    have : cutTo s = ((cutTo s).1, []) := by rw [← hc]
    unfold cutTo at this ⊢
    rw [List.foldl_append, this, cutFold]
  unfold cut
  rw [e, hc]
  split
  · rw [if_pos rfl]
  · rw [if_pos rfl]; simp
/-! Parts. -/
theorem partFold (L : List Str) : ∀ (l c : Str), l.foldl partStep (L, c) = (L ++ (l.foldl partStep ([], c)).1, (l.foldl partStep ([], c)).2) := by
  intro l
  induction l generalizing L with
  | nil => intro c; simp
  | cons x l ih =>
    intro c
    simp only [List.foldl_cons, partStep]
    by_cases h : x = 32
    · rw [if_pos h, if_pos h, ih (L ++ [c]), ih ([] ++ [c])]; simp
    · rw [if_neg h, if_neg h, ih L]
theorem partNo : ∀ (a c : Str), (∀ x ∈ a, x ≠ 32) → a.foldl partStep ([], c) = ([], c ++ a) := by
  intro a
  induction a with
  | nil => intro c _; simp
  | cons x a ih =>
    intro c h
    rw [List.foldl_cons, partStep, if_neg (h x (by simp)), ih _ (fun y hy => h y (by simp [hy]))]
    simp
theorem parts_cons {a : Str} (h : ∀ x ∈ a, x ≠ 32) (rest : Str) : parts (a ++ [32] ++ rest) = a :: parts rest := by
  have e : partTo (a ++ [32] ++ rest) = (a :: (partTo rest).1, (partTo rest).2) := by
    unfold partTo
    rw [List.foldl_append, List.foldl_append, partNo a [] h]
    simp only [List.foldl_cons, List.foldl_nil, partStep, if_pos, List.nil_append]
    rw [partFold]; simp
  unfold parts; rw [e]; rfl
theorem parts_one {a : Str} (h : ∀ x ∈ a, x ≠ 32) : parts a = [a] := by
  unfold parts partTo; rw [partNo a [] h]; rfl
/-- The parts, with blanks between, are the text. -/
def joined : List Str → Str
  | [] => []
  | [a] => a
  | a :: b :: l => a ++ [32] ++ joined (b :: l)
theorem joined_snoc : ∀ (L : List Str) (a b : Str), joined (L ++ [a] ++ [b]) = joined (L ++ [a]) ++ [32] ++ b := by
  intro L
  induction L with
  | nil => intro a b; simp [joined]
  | cons x L ih =>
    intro a b
    cases L with
    | nil => simp [joined]
    | cons y L =>
      have := ih a b
      simp only [List.cons_append, joined] at this ⊢
      rw [this]; simp
theorem joined_last : ∀ (L : List Str) (a : Str) (c : UInt8), joined (L ++ [a ++ [c]]) = joined (L ++ [a]) ++ [c] := by
  intro L
  induction L with
  | nil => intro a c; simp [joined]
  | cons x L ih =>
    intro a c
    cases L with
    | nil => simp [joined]
    | cons y L =>
      have := ih a c
      simp only [List.cons_append, joined] at this ⊢
      rw [this]; simp
theorem joined_parts (l : Str) : joined (parts l) = l := by
  unfold parts
  refine snoc_ind (P := fun l => joined ((partTo l).1 ++ [(partTo l).2]) = l) rfl ?_ l
  intro l c h
  rw [partTo_snoc]; unfold partStep
  split
  · rename_i hc
    rw [joined_snoc, h, hc]; simp
  · rw [joined_last, h]
/-! Numbers and names. -/
theorem digs_no : ∀ n : Nat, n < 100 → ∀ x ∈ digs (n : Int), x ≠ 59 ∧ x ≠ 32 := by decide +kernel
theorem digs_num1 : ∀ n : Nat, n < 100 → 1 ≤ n → number (digs (n : Int)) 1 99 = ((n : Int), true) := by decide +kernel
theorem digs_num0 : ∀ n : Nat, n < 100 → number (digs (n : Int)) 0 99 = ((n : Int), true) := by decide +kernel
theorem number_digs {a : Str} {lo : Int} (h : (number a lo 99).2 = true) : digs (number a lo 99).1 = a := by
  have hb : numBad a = false := by
    cases hb : numBad a
    · rfl
    · rw [number_bad hb] at h; cases h
  have ha : a.all digB = true := by
    cases ha : a.all digB
    · rw [number_none (numGo_bad 99 a 0 ha)] at h; cases h
    · rfl
  have hr : numR a lo 99 = (number a lo 99).1 := by unfold numR; rw [h]; rfl
  rw [numR_digits ha hb (by omega)] at hr
  have bd := number_bd a lo 99 (by omega)
  split at hr
  · rename_i hh
    rw [← hr, digs_dec (val a) (by omega), val_dec a ha hb]
  · omega
theorem takeWhile_all {p : UInt8 → Bool} : ∀ (l : Str), ∀ x ∈ l.takeWhile p, p x = true := by
  intro l
  induction l with
  | nil => intro x hx; simp at hx
  | cons a l ih =>
    intro x hx
    rw [List.takeWhile_cons] at hx
    split at hx
    · rcases List.mem_cons.1 hx with rfl | hx
      · assumption
      · exact ih x hx
    · simp at hx
theorem take_plain (l : Str) : l.take (plainLen l) = l.takeWhile plainB := by
  induction l with
  | nil => rfl
  | cons a l ih =>
    unfold plainLen at ih ⊢
    rw [List.takeWhile_cons]
    split
    · simp [ih]
    · rfl
theorem plain_no {x : UInt8} (h : plainB x = true) : x ≠ 59 ∧ x ≠ 32 := by
  constructor <;> (intro e; subst e; revert h; decide)
theorem name_no {l : Str} {id : Int} (h : isName l id = true) (h0 : 0 ≤ id) (h1 : id ≤ 99) : ∀ x ∈ l, x ≠ 59 ∧ x ≠ 32 := by
  intro x hx
  rw [← List.take_append_drop (plainLen l) l] at hx
  rcases List.mem_append.1 hx with hx | hx
  · rw [take_plain] at hx; exact plain_no (takeWhile_all l x hx)
  · unfold isName at h
    simp only [Bool.and_eq_true, decide_eq_true_eq, Bool.or_eq_true, beq_iff_eq] at h
    rcases h.2 with h2 | h2
    · rw [h2, List.drop_length] at hx; simp at hx
    · rw [h2] at hx
      rcases List.mem_cons.1 hx with rfl | hx
      · exact ⟨by decide, by decide⟩
      · obtain ⟨m, rfl⟩ := Int.eq_ofNat_of_zero_le h0
        exact digs_no m (by omega) x hx
def NdOk (n : Nd) : Prop := 1 ≤ n.id ∧ n.id ≤ 99 ∧ 0 ≤ n.parent ∧ n.parent ≤ 99 ∧ isName n.name n.id = true
def ndBody (n : Nd) : Str := digs n.id ++ [32] ++ (digs n.parent ++ [32] ++ n.name)
theorem nodeText_body (n : Nd) : nodeText n = ndBody n ++ [59] := by simp [nodeText, ndBody]
theorem digs_noI {n : Int} (h0 : 0 ≤ n) (h1 : n ≤ 99) : ∀ x ∈ digs n, x ≠ 59 ∧ x ≠ 32 := by
  obtain ⟨m, rfl⟩ := Int.eq_ofNat_of_zero_le h0
  exact digs_no m (by omega)
theorem body_no {n : Nd} (h : NdOk n) : ∀ x ∈ ndBody n, x ≠ 59 := by
  intro x hx
  have h1 := digs_noI (n := n.id) (by have := h.1; omega) h.2.1
  have h2 := digs_noI h.2.2.1 h.2.2.2.1
  have h3 := name_no h.2.2.2.2 (by have := h.1; omega) h.2.1
  simp only [ndBody, List.mem_append, List.mem_singleton] at hx
  rcases hx with (hx | rfl) | (hx | rfl) | hx
  · exact (h1 x hx).1
  · decide
  · exact (h2 x hx).1
  · decide
  · exact (h3 x hx).1
theorem readNode_body {n : Nd} (h : NdOk n) : readNode (ndBody n) = some n := by
  have h1 := digs_noI (n := n.id) (by have := h.1; omega) h.2.1
  have h2 := digs_noI h.2.2.1 h.2.2.2.1
  have h3 := name_no h.2.2.2.2 (by have := h.1; omega) h.2.1
  have hp : parts (ndBody n) = [digs n.id, digs n.parent, n.name] := by
    unfold ndBody
    rw [parts_cons (fun x hx => (h1 x hx).2), parts_cons (fun x hx => (h2 x hx).2), parts_one (fun x hx => (h3 x hx).2)]
  obtain ⟨id, parent, name⟩ := n
  simp only [NdOk] at h hp ⊢
  obtain ⟨i, rfl⟩ := Int.eq_ofNat_of_zero_le (show 0 ≤ id by omega)
  obtain ⟨p, rfl⟩ := Int.eq_ofNat_of_zero_le h.2.2.1
  unfold readNode
  rw [hp]
  simp only
  rw [digs_num1 i (by omega) (by omega), digs_num0 p (by omega)]
  simp [h.2.2.2.2]
theorem recNode_text {n : Nd} (h : NdOk n) : recNode (nodeText n) = some n := by
  rw [nodeText_body]
  unfold recNode bodyS bodyB
  simp [readNode_body h]
theorem recNode_canon {r : Str} {n : Nd} (h : recNode r = some n) : r = nodeText n := by
  unfold recNode at h
  split at h
  · rename_i hb
    have hr : r = bodyS r ++ [59] := by
      unfold bodyS; rw [if_pos hb]
      unfold bodyB at hb
      have hl : r.getLast? = some 59 := by simpa using hb
      obtain ⟨ys, hy⟩ := List.getLast?_eq_some_iff.1 hl
      rw [hy]; simp
    rw [nodeText_body]
    conv => lhs; rw [hr]
    congr 1
    generalize bodyS r = b at h
    unfold readNode at h
    split at h
    · rename_i x y z hp
      split at h
      · rename_i hh
        simp only [Bool.and_eq_true] at hh
        cases h
        have hj := joined_parts b
        rw [hp] at hj
        simp only [joined] at hj
        unfold ndBody
        simp only
        rw [number_digs hh.1.1, number_digs hh.1.2]
        exact hj.symm
      · cases h
    · cases h
  · cases h
end Go.Proofs.YtkjancfakplogaaGreatDoor
