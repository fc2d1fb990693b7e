import Derived.Test.YtdcjimlhaklhfaaDoorHu4
import Derived.Test.YtdcjimlhaklhfaaDoorHu3
import Derived.Laws.StructEq
namespace Go.Proofs.YtdcjimlhaklhfaaDoor
open Go.RowKit
theorem below_grown {w w1 w2 : World} {b : Nat} (h : Below w.heap.size w w1) (hg : w1.grownBy w2 (some b)) (hb : w.heap.size ≤ b) : Below w.heap.size w w2 :=
  h.grown hg h.size (fun k hk => by cases hk; exact hb)
theorem doAllT_ok : ∀ (ss : List St) (t : Tr), TrOk t → (∀ s ∈ ss, StOk s) → TrOk (doAllT ss t) := by
  intro ss
  induction ss with
  | nil => intro t h _; exact h
  | cons s ss ih =>
    intro t h hs
    unfold doAllT
    split
    · exact ih _ (stepT_ok h (hs s (by simp))) (fun x hx => hs x (by simp [hx]))
    · exact h
theorem ret_sii {a : Str} {n : Nat} {e : Int} {r : Str × Nat × Int} (h : r = (a, n, e)) : Ending.returned (.tuple #[.string (bs a), .int .i64 n, .int .i64 e]) = .returned (.tuple #[.string (bs r.1), .int .i64 r.2.1, .int .i64 r.2.2]) := by rw [h]
theorem applyT_long {l sc : Str} (h : 4000 < l.length ∨ 4000 < sc.length) : applyT l sc = ([], 0, 1) := by unfold applyT; rw [if_pos h]
theorem applyT_check {l sc : Str} (h : ¬ (4000 < l.length ∨ 4000 < sc.length)) (h2 : (checkT l).1 ≠ 0) : applyT l sc = ([], (checkT l).2, (checkT l).1) := by unfold applyT; rw [if_neg h, if_pos h2]
theorem applyT_step {l sc : Str} (h : ¬ (4000 < l.length ∨ 4000 < sc.length)) (h2 : ¬ (checkT l).1 ≠ 0) (h3 : (readSteps (cut sc)).length < (cut sc).length) : applyT l sc = ([], (readSteps (cut sc)).length, 7) := by unfold applyT; rw [if_neg h, if_neg h2, if_pos h3]
theorem applyT_do {l sc : Str} (h : ¬ (4000 < l.length ∨ 4000 < sc.length)) (h2 : ¬ (checkT l).1 ≠ 0) (h3 : ¬ (readSteps (cut sc)).length < (cut sc).length) (h4 : (doAllE (readSteps (cut sc)) (gather (readNodes (cut l))) 0).1 ≠ 0) : applyT l sc = ([], (doAllE (readSteps (cut sc)) (gather (readNodes (cut l))) 0).2, (doAllE (readSteps (cut sc)) (gather (readNodes (cut l))) 0).1) := by unfold applyT; rw [if_neg h, if_neg h2, if_neg h3, if_pos h4]
theorem applyT_ok {l sc : Str} (h : ¬ (4000 < l.length ∨ 4000 < sc.length)) (h2 : ¬ (checkT l).1 ≠ 0) (h3 : ¬ (readSteps (cut sc)).length < (cut sc).length) (h4 : ¬ (doAllE (readSteps (cut sc)) (gather (readNodes (cut l))) 0).1 ≠ 0) : applyT l sc = (textT (doAllT (readSteps (cut sc)) (gather (readNodes (cut l)))), 0, 0) := by unfold applyT; rw [if_neg h, if_neg h2, if_neg h3, if_neg h4]
set_option maxHeartbeats 2000000 in
theorem apply_any (s sc : ByteArray) (w : World) :
    Calls Tryd.prog 9 #[.string s, .string sc] w fun e w' => e = .returned (.tuple #[.string (bs (applyT (sl s) (sl sc)).1), .int .i64 (applyT (sl s) (sl sc)).2.1, .int .i64 (applyT (sl s) (sl sc)).2.2]) ∧ Below w.heap.size w w' := by
  by_cases hL : 4000 < s.size ∨ 4000 < sc.size
  · have HA := hide (applyT_long (l := sl s) (sc := sl sc) (by rw [sl_length, sl_length]; exact hL))
    generalize applyT (sl s) (sl sc) = A at *
    have hL' : 4000 < s.size ∨ (¬ 4000 < s.size ∧ 4000 < sc.size) := by omega
    clear hL
    rcases hL' with h | ⟨h, h'⟩
    all_goals
      go_enter Tryd.func9, Tryd.ntmps9
      go_wp2
      go_ret3
      exact ⟨ret_sii (unhide HA), Below.refl _ _⟩
  · have hLl : ¬ (4000 < (sl s).length ∨ 4000 < (sl sc).length) := by rw [sl_length, sl_length]; exact hL
    have h4 : ¬ 4000 < s.size := by omega
    have h5 : ¬ 4000 < sc.size := by omega
    have HRD := hide (fun W => read_any s W)
    by_cases hC : (checkT (sl s)).1 ≠ 0
    · have HA := hide (applyT_check hLl hC)
      have hC' : ((checkT (sl s)).1 != 0) = true := by rw [bne_iff_ne]; exact hC
      generalize applyT (sl s) (sl sc) = A at *
      generalize checkT (sl s) = c at *
      generalize readT (sl s) = T at *
      clear hC hL hLl
      go_enter Tryd.func9, Tryd.ntmps9
      go_wp2_with fail
      refine (unhide HRD _).mono ?_
      rintro e w1 ⟨rfl, hb1⟩
      have HN := hide (treeAt_new w1)
      have HB1 := hide hb1; clear hb1
      go_wp2_with (refine wpList_store_mid (by rfl) 59 (.tmp 7) (.tmp 23) (by rfl) w1.heap.size 0 (treeCells T).toArray (by rfl) (by rfl) (by exact treeAt_there (unhide HN) T) (treeSize' T) (treeOne T) ?_)
      go_ret3
      exact ⟨ret_sii (unhide HA), below_setCells ((unhide HB1).alloc (unhide HB1).size _) (unhide HB1).size (by have := (unhide HB1).size; simp; omega) _ _⟩
    · have hc0 : (checkT (sl s)).1 = 0 := Classical.not_not.1 hC
      have hTG : readT (sl s) = gather (readNodes (cut (sl s))) := by unfold readT; rw [if_pos hc0]
      have hOK := gather_ok (cut (sl s))
      rw [hc0, hTG] at HRD
      have HSR := hide (fun W => stepsRead_any sc W (by omega))
      have HSO := hide (readSteps_ok (cut (sl sc)))
      have hsl := readSteps_length (cut (sl sc))
      have hcl : (cut (sl sc)).length ≤ 4000 := by have := cut_length_le (sl sc); rw [sl_length] at this; omega
      by_cases hS : (readSteps (cut (sl sc))).length < (cut (sl sc)).length
      · have HA := hide (applyT_step hLl hC hS)
        have hd : decide ((readSteps (cut (sl sc))).length = (cut (sl sc)).length) = false := decide_eq_false (by omega)
        rw [hd] at HSR
        generalize applyT (sl s) (sl sc) = A at *
        generalize gather (readNodes (cut (sl s))) = T at *
        generalize (checkT (sl s)).2 = c2 at *
        generalize readSteps (cut (sl sc)) = ss at *
        clear hC hL hLl hc0 hTG hd
        go_enter Tryd.func9, Tryd.ntmps9
        go_wp2_with fail
        refine (unhide HRD _).mono ?_
        rintro e w1 ⟨rfl, hb1⟩
        have HN := hide (treeAt_new w1)
        have HB1 := hide hb1; clear hb1
        have HB2 : Hid (Below w.heap.size w ((w1.alloc (.cells Tryd.zeroCells59 59)).setCells w1.heap.size 0 (treeCells T))) := hide (below_setCells ((unhide HB1).alloc (unhide HB1).size _) (unhide HB1).size (by have := (unhide HB1).size; simp; omega) _ _)
        go_wp2_with (refine wpList_store_mid (by rfl) 59 (.tmp 7) (.tmp 23) (by rfl) w1.heap.size 0 (treeCells T).toArray (by rfl) (by rfl) (by exact treeAt_there (unhide HN) T) (treeSize' T) (treeOne T) ?_)
        refine (unhide HSR _).mono ?_
        rintro e w3 ⟨⟨ao, cap, rfl, hrow, hge⟩, hb3⟩
        have HB3 := hide ((unhide HB2).trans (hb3.mono (unhide HB2).size))
        clear hrow hge hb3
        go_wp2
        go_ret3
        exact ⟨ret_sii (unhide HA), unhide HB3⟩
      · have hd : decide ((readSteps (cut (sl sc))).length = (cut (sl sc)).length) = true := decide_eq_true (by omega)
        rw [hd] at HSR
        have HDA := hide (fun b ao cap W h1 h2 h3 => doAll_any (x := ext0) (gather (readNodes (cut (sl s)))) b (readSteps (cut (sl sc))) ao cap W hOK h1 h2 h3 (unhide HSO) (by omega))
        have HTO := hide (doAllT_ok (readSteps (cut (sl sc))) _ hOK (unhide HSO))
        have HTX := hide (fun b W h => text_any (x := ext0) (doAllT (readSteps (cut (sl sc))) (gather (readNodes (cut (sl s))))) b W (unhide HTO) h)
        by_cases hE : (doAllE (readSteps (cut (sl sc))) (gather (readNodes (cut (sl s)))) 0).1 ≠ 0
        · have HA := hide (applyT_do hLl hC hS hE)
          have hE' : ((doAllE (readSteps (cut (sl sc))) (gather (readNodes (cut (sl s)))) 0).1 != 0) = true := by rw [bne_iff_ne]; exact hE
          generalize applyT (sl s) (sl sc) = A at *
          generalize doAllE (readSteps (cut (sl sc))) (gather (readNodes (cut (sl s)))) 0 = E at *
          generalize doAllT (readSteps (cut (sl sc))) (gather (readNodes (cut (sl s)))) = T2 at *
          generalize gather (readNodes (cut (sl s))) = T at *
          generalize (checkT (sl s)).2 = c2 at *
          generalize readSteps (cut (sl sc)) = ss at *
          clear hC hL hLl hc0 hTG hd hE hS
          go_enter Tryd.func9, Tryd.ntmps9
          go_wp2_with fail
          refine (unhide HRD _).mono ?_
          rintro e w1 ⟨rfl, hb1⟩
          have HN := hide (treeAt_new w1)
          have HB1 := hide hb1; clear hb1
          have HB2 : Hid (Below w.heap.size w ((w1.alloc (.cells Tryd.zeroCells59 59)).setCells w1.heap.size 0 (treeCells T))) := hide (below_setCells ((unhide HB1).alloc (unhide HB1).size _) (unhide HB1).size (by have := (unhide HB1).size; simp; omega) _ _)
          have HT2 : Hid (TreeAt ext0 ((w1.alloc (.cells Tryd.zeroCells59 59)).setCells w1.heap.size 0 (treeCells T)) w1.heap.size T) := hide (treeAt_stored (unhide HN) T)
          go_wp2_with (refine wpList_store_mid (by rfl) 59 (.tmp 7) (.tmp 23) (by rfl) w1.heap.size 0 (treeCells T).toArray (by rfl) (by rfl) (by exact treeAt_there (unhide HN) T) (treeSize' T) (treeOne T) ?_)
          refine (unhide HSR _).mono ?_
          rintro e w3 ⟨⟨ao, cap, rfl, hrow, hge⟩, hb3⟩
          have HB3 := hide ((unhide HB2).trans (hb3.mono (unhide HB2).size))
          have HT3 := hide ((unhide HT2).below hb3)
          have HR3 := hide hrow
          have HNE : Hid (∀ g, ao = some ⟨g, 0, none⟩ → g ≠ w1.heap.size) := hide (fun g hg => by have h1 := hge g hg; have h2 := (unhide HT2).lt; omega)
          clear hrow hge hb3
          go_wp2_with fail
          refine (unhide HDA _ _ _ _ (unhide HT3) (unhide HR3) (unhide HNE)).mono ?_
          rintro e w4 ⟨rfl, hT4, hg4⟩
          have HB4 := hide (below_grown (unhide HB3) hg4 (unhide HB1).size)
          clear hT4 hg4
          go_wp2
          go_ret3
          exact ⟨ret_sii (unhide HA), unhide HB4⟩
        · have HA := hide (applyT_ok hLl hC hS hE)
          have hE' : ((doAllE (readSteps (cut (sl sc))) (gather (readNodes (cut (sl s)))) 0).1 != 0) = false := by rw [bne_eq_false_iff_eq]; exact Classical.not_not.1 hE
          generalize applyT (sl s) (sl sc) = A at *
          generalize doAllE (readSteps (cut (sl sc))) (gather (readNodes (cut (sl s)))) 0 = E at *
          generalize doAllT (readSteps (cut (sl sc))) (gather (readNodes (cut (sl s)))) = T2 at *
          generalize gather (readNodes (cut (sl s))) = T at *
          generalize (checkT (sl s)).2 = c2 at *
          generalize readSteps (cut (sl sc)) = ss at *
          clear hC hL hLl hc0 hTG hd hE hS
          go_enter Tryd.func9, Tryd.ntmps9
          go_wp2_with fail
          refine (unhide HRD _).mono ?_
          rintro e w1 ⟨rfl, hb1⟩
          have HN := hide (treeAt_new w1)
          have HB1 := hide hb1; clear hb1
          have HB2 : Hid (Below w.heap.size w ((w1.alloc (.cells Tryd.zeroCells59 59)).setCells w1.heap.size 0 (treeCells T))) := hide (below_setCells ((unhide HB1).alloc (unhide HB1).size _) (unhide HB1).size (by have := (unhide HB1).size; simp; omega) _ _)
          have HT2 : Hid (TreeAt ext0 ((w1.alloc (.cells Tryd.zeroCells59 59)).setCells w1.heap.size 0 (treeCells T)) w1.heap.size T) := hide (treeAt_stored (unhide HN) T)
          go_wp2_with (refine wpList_store_mid (by rfl) 59 (.tmp 7) (.tmp 23) (by rfl) w1.heap.size 0 (treeCells T).toArray (by rfl) (by rfl) (by exact treeAt_there (unhide HN) T) (treeSize' T) (treeOne T) ?_)
          refine (unhide HSR _).mono ?_
          rintro e w3 ⟨⟨ao, cap, rfl, hrow, hge⟩, hb3⟩
          have HB3 := hide ((unhide HB2).trans (hb3.mono (unhide HB2).size))
          have HT3 := hide ((unhide HT2).below hb3)
          have HR3 := hide hrow
          have HNE : Hid (∀ g, ao = some ⟨g, 0, none⟩ → g ≠ w1.heap.size) := hide (fun g hg => by have h1 := hge g hg; have h2 := (unhide HT2).lt; omega)
          clear hrow hge hb3
          go_wp2_with fail
          refine (unhide HDA _ _ _ _ (unhide HT3) (unhide HR3) (unhide HNE)).mono ?_
          rintro e w4 ⟨rfl, hT4, hg4⟩
          have HT4 := hide hT4
          have HB4 := hide (below_grown (unhide HB3) hg4 (unhide HB1).size)
          clear hT4 hg4
          go_wp2_with fail
          refine (unhide HTX _ _ (unhide HT4)).mono ?_
          rintro e w5 ⟨rfl, hb5⟩
          have HB5 := hide ((unhide HB4).trans (hb5.mono (unhide HB4).size))
          clear hb5
          go_wp2
          go_ret3
          exact ⟨ret_sii (unhide HA), unhide HB5⟩
end Go.Proofs.YtdcjimlhaklhfaaDoor

namespace Go.Proofs.YtdcjimlhaklhfaaDoor
open Go.RowKit
/-! Cutting texts that are put together of records. -/
theorem cutFold (L : List Str) : ∀ (l c : Str), l.foldl cutStep (L, c) = (L ++ (l.foldl cutStep ([], c)).1, (l.foldl cutStep ([], c)).2) := by
  intro l
  induction l generalizing L with
  | nil => intro c; simp
  | cons x l ih =>
    intro c
    simp only [List.foldl_cons, cutStep]
    by_cases h : x = 59
    · rw [if_pos h, if_pos h, ih (L ++ [c ++ [x]]), ih ([] ++ [c ++ [x]])]; simp
    · rw [if_neg h, if_neg h, ih L]
theorem cutRec : ∀ (a c : Str), (∀ x ∈ a, x ≠ 59) → (a ++ [59]).foldl cutStep ([], c) = ([c ++ a ++ [59]], []) := by
  intro a
  induction a with
  | nil => intro c _; simp [cutStep]
  | cons x a ih =>
    intro c h
    rw [List.cons_append, List.foldl_cons, cutStep, if_neg (h x (by simp)), ih _ (fun y hy => h y (by simp [hy]))]
    simp
theorem cut_cons {a : Str} (h : ∀ x ∈ a, x ≠ 59) (rest : Str) : cut (a ++ [59] ++ rest) = (a ++ [59]) :: cut rest := by
  have e : cutTo (a ++ [59] ++ rest) = ((a ++ [59]) :: (cutTo rest).1, (cutTo rest).2) := by
    unfold cutTo
    rw [List.foldl_append, cutRec a [] h, cutFold]; simp
  unfold cut
  rw [e]
  split
  · rfl
  · simp
theorem cut_nil : cut [] = [] := rfl
theorem cut_flat (l : Str) : (cut l).flatten = l := by
  have key : (cutTo l).1.flatten ++ (cutTo l).2 = l := by
    refine snoc_ind (P := fun l => (cutTo l).1.flatten ++ (cutTo l).2 = l) rfl ?_ l
    intro l c h
    rw [cutTo_snoc]; unfold cutStep
    split
    · simp; rw [← List.append_assoc, h]
    · simp; rw [← List.append_assoc, h]
  unfold cut
  split
  · rename_i h; rw [h] at key; simpa using key
  · rw [List.flatten_append]; simpa using key
/-- A text whose records all end with their semicolon: what is cut of it and of what follows. -/
theorem cut_app {s : Str} (h : ∀ r ∈ cut s, bodyB r = true) (t : Str) : cut (s ++ t) = cut s ++ cut t := by
  have hc : (cutTo s).2 = [] := by
    cases he : (cutTo s).2 with
    | nil => rfl
    | cons x r =>
      exfalso
      have hm : (cutTo s).2 ∈ cut s := by unfold cut; rw [if_neg (by rw [he]; simp)]; simp
      have hb := h _ hm
      -- the rest behind the last semicolon holds none
      have hno : ∀ l : Str, ∀ y ∈ (cutTo l).2, y ≠ 59 := by
        intro l
        refine snoc_ind (P := fun l => ∀ y ∈ (cutTo l).2, y ≠ 59) (by simp [cutTo]) ?_ l
        intro l c ih
        rw [cutTo_snoc]; unfold cutStep
        split
        · simp
        · rename_i hne
          intro y hy
          rcases List.mem_append.1 hy with hy | hy
          · exact ih y hy
          · simp at hy; rw [hy]; exact hne
      unfold bodyB at hb
      have hl : (cutTo s).2.getLast? = some 59 := by simpa using hb
      exact hno s 59 (List.mem_of_getLast? hl) rfl
  have e : cutTo (s ++ t) = ((cutTo s).1 ++ (cutTo t).1, (cutTo t).2) := by
    have : cutTo s = ((cutTo s).1, []) := by rw [← hc]
    unfold cutTo at this ⊢
    rw [List.foldl_append, this, cutFold]
  unfold cut
  rw [e, hc]
  split
  · rw [if_pos rfl]
  · rw [if_pos rfl]; simp
/-! Parts. -/
theorem partFold (L : List Str) : ∀ (l c : Str), l.foldl partStep (L, c) = (L ++ (l.foldl partStep ([], c)).1, (l.foldl partStep ([], c)).2) := by
  intro l
  induction l generalizing L with
  | nil => intro c; simp
  | cons x l ih =>
    intro c
    simp only [List.foldl_cons, partStep]
    by_cases h : x = 32
    · rw [if_pos h, if_pos h, ih (L ++ [c]), ih ([] ++ [c])]; simp
    · rw [if_neg h, if_neg h, ih L]
theorem partNo : ∀ (a c : Str), (∀ x ∈ a, x ≠ 32) → a.foldl partStep ([], c) = ([], c ++ a) := by
  intro a
  induction a with
  | nil => intro c _; simp
  | cons x a ih =>
    intro c h
    rw [List.foldl_cons, partStep, if_neg (h x (by simp)), ih _ (fun y hy => h y (by simp [hy]))]
    simp
theorem parts_cons {a : Str} (h : ∀ x ∈ a, x ≠ 32) (rest : Str) : parts (a ++ [32] ++ rest) = a :: parts rest := by
  have e : partTo (a ++ [32] ++ rest) = (a :: (partTo rest).1, (partTo rest).2) := by
    unfold partTo
    rw [List.foldl_append, List.foldl_append, partNo a [] h]
    simp only [List.foldl_cons, List.foldl_nil, partStep, if_pos, List.nil_append]
    rw [partFold]; simp
  unfold parts; rw [e]; rfl
theorem parts_one {a : Str} (h : ∀ x ∈ a, x ≠ 32) : parts a = [a] := by
  unfold parts partTo; rw [partNo a [] h]; rfl
/-- The parts, with blanks between, are the text. -/
def joined : List Str → Str
  | [] => []
  | [a] => a
  | a :: b :: l => a ++ [32] ++ joined (b :: l)
theorem joined_snoc : ∀ (L : List Str) (a b : Str), joined (L ++ [a] ++ [b]) = joined (L ++ [a]) ++ [32] ++ b := by
  intro L
  induction L with
  | nil => intro a b; simp [joined]
  | cons x L ih =>
    intro a b
    cases L with
    | nil => simp [joined]
    | cons y L =>
      have := ih a b
      simp only [List.cons_append, joined] at this ⊢
      rw [this]; simp
theorem joined_last : ∀ (L : List Str) (a : Str) (c : UInt8), joined (L ++ [a ++ [c]]) = joined (L ++ [a]) ++ [c] := by
  intro L
  induction L with
  | nil => intro a c; simp [joined]
  | cons x L ih =>
    intro a c
    cases L with
    | nil => simp [joined]
    | cons y L =>
      have := ih a c
      simp only [List.cons_append, joined] at this ⊢
      rw [this]; simp
theorem joined_parts (l : Str) : joined (parts l) = l := by
  unfold parts
  refine snoc_ind (P := fun l => joined ((partTo l).1 ++ [(partTo l).2]) = l) rfl ?_ l
  intro l c h
  rw [partTo_snoc]; unfold partStep
  split
  · rename_i hc
    rw [joined_snoc, h, hc]; simp
  · rw [joined_last, h]
/-! Numbers and names. -/
theorem digs_no : ∀ n : Nat, n < 100 → ∀ x ∈ digs (n : Int), x ≠ 59 ∧ x ≠ 32 := by decide +kernel
theorem digs_num1 : ∀ n : Nat, n < 100 → 1 ≤ n → number (digs (n : Int)) 1 99 = ((n : Int), true) := by decide +kernel
theorem digs_num0 : ∀ n : Nat, n < 100 → number (digs (n : Int)) 0 99 = ((n : Int), true) := by decide +kernel
theorem number_digs {a : Str} {lo : Int} (h : (number a lo 99).2 = true) : digs (number a lo 99).1 = a := by
  have hb : numBad a = false := by
    cases hb : numBad a
    · rfl
    · rw [number_bad hb] at h; cases h
  have ha : a.all digB = true := by
    cases ha : a.all digB
    · rw [number_none (numGo_bad 99 a 0 ha)] at h; cases h
    · rfl
  have hr : numR a lo 99 = (number a lo 99).1 := by unfold numR; rw [h]; rfl
  rw [numR_digits ha hb (by omega)] at hr
  have bd := number_bd a lo 99 (by omega)
  split at hr
  · rename_i hh
    rw [← hr, digs_dec (val a) (by omega), val_dec a ha hb]
  · omega
theorem takeWhile_all {p : UInt8 → Bool} : ∀ (l : Str), ∀ x ∈ l.takeWhile p, p x = true := by
  intro l
  induction l with
  | nil => intro x hx; simp at hx
  | cons a l ih =>
    intro x hx
    rw [List.takeWhile_cons] at hx
    split at hx
    · rcases List.mem_cons.1 hx with rfl | hx
      · assumption
      · exact ih x hx
    · simp at hx
theorem take_plain (l : Str) : l.take (plainLen l) = l.takeWhile plainB := by
  induction l with
  | nil => rfl
  | cons a l ih =>
    unfold plainLen at ih ⊢
    rw [List.takeWhile_cons]
    split
    · simp [ih]
    · rfl
theorem plain_no {x : UInt8} (h : plainB x = true) : x ≠ 59 ∧ x ≠ 32 := by
  constructor <;> (intro e; subst e; revert h; decide)
theorem name_no {l : Str} {id : Int} (h : isName l id = true) (h0 : 0 ≤ id) (h1 : id ≤ 99) : ∀ x ∈ l, x ≠ 59 ∧ x ≠ 32 := by
  intro x hx
  rw [← List.take_append_drop (plainLen l) l] at hx
  rcases List.mem_append.1 hx with hx | hx
  · rw [take_plain] at hx; exact plain_no (takeWhile_all l x hx)
  · unfold isName at h
    simp only [Bool.and_eq_true, decide_eq_true_eq, Bool.or_eq_true, beq_iff_eq] at h
    rcases h.2 with h2 | h2
    · rw [h2, List.drop_length] at hx; simp at hx
    · rw [h2] at hx
      rcases List.mem_cons.1 hx with rfl | hx
      · exact ⟨by decide, by decide⟩
      · obtain ⟨m, rfl⟩ := Int.eq_ofNat_of_zero_le h0
        exact digs_no m (by omega) x hx
def NdOk (n : Nd) : Prop := 1 ≤ n.id ∧ n.id ≤ 99 ∧ 0 ≤ n.parent ∧ n.parent ≤ 99 ∧ isName n.name n.id = true
def ndBody (n : Nd) : Str := digs n.id ++ [32] ++ (digs n.parent ++ [32] ++ n.name)
theorem nodeText_body (n : Nd) : nodeText n = ndBody n ++ [59] := by simp [nodeText, ndBody]
theorem digs_noI {n : Int} (h0 : 0 ≤ n) (h1 : n ≤ 99) : ∀ x ∈ digs n, x ≠ 59 ∧ x ≠ 32 := by
  obtain ⟨m, rfl⟩ := Int.eq_ofNat_of_zero_le h0
  exact digs_no m (by omega)
theorem body_no {n : Nd} (h : NdOk n) : ∀ x ∈ ndBody n, x ≠ 59 := by
  intro x hx
  have h1 := digs_noI (n := n.id) (by have := h.1; omega) h.2.1
  have h2 := digs_noI h.2.2.1 h.2.2.2.1
  have h3 := name_no h.2.2.2.2 (by have := h.1; omega) h.2.1
  simp only [ndBody, List.mem_append, List.mem_singleton] at hx
  rcases hx with (hx | rfl) | (hx | rfl) | hx
  · exact (h1 x hx).1
  · decide
  · exact (h2 x hx).1
  · decide
  · exact (h3 x hx).1
theorem readNode_body {n : Nd} (h : NdOk n) : readNode (ndBody n) = some n := by
  have h1 := digs_noI (n := n.id) (by have := h.1; omega) h.2.1
  have h2 := digs_noI h.2.2.1 h.2.2.2.1
  have h3 := name_no h.2.2.2.2 (by have := h.1; omega) h.2.1
  have hp : parts (ndBody n) = [digs n.id, digs n.parent, n.name] := by
    unfold ndBody
    rw [parts_cons (fun x hx => (h1 x hx).2), parts_cons (fun x hx => (h2 x hx).2), parts_one (fun x hx => (h3 x hx).2)]
  obtain ⟨id, parent, name⟩ := n
  simp only [NdOk] at h hp ⊢
  obtain ⟨i, rfl⟩ := Int.eq_ofNat_of_zero_le (show 0 ≤ id by omega)
  obtain ⟨p, rfl⟩ := Int.eq_ofNat_of_zero_le h.2.2.1
  unfold readNode
  rw [hp]
  simp only
  rw [digs_num1 i (by omega) (by omega), digs_num0 p (by omega)]
  simp [h.2.2.2.2]
theorem recNode_text {n : Nd} (h : NdOk n) : recNode (nodeText n) = some n := by
  rw [nodeText_body]
  unfold recNode bodyS bodyB
  simp [readNode_body h]
theorem recNode_canon {r : Str} {n : Nd} (h : recNode r = some n) : r = nodeText n := by
  unfold recNode at h
  split at h
  · rename_i hb
    have hr : r = bodyS r ++ [59] := by
      unfold bodyS; rw [if_pos hb]
      unfold bodyB at hb
      have hl : r.getLast? = some 59 := by simpa using hb
      obtain ⟨ys, hy⟩ := List.getLast?_eq_some_iff.1 hl
      rw [hy]; simp
    rw [nodeText_body]
    conv => lhs; rw [hr]
    congr 1
    generalize bodyS r = b at h
    unfold readNode at h
    split at h
    · rename_i x y z hp
      split at h
      · rename_i hh
        simp only [Bool.and_eq_true] at hh
        cases h
        have hj := joined_parts b
        rw [hp] at hj
        simp only [joined] at hj
        unfold ndBody
        simp only
        rw [number_digs hh.1.1, number_digs hh.1.2]
        exact hj.symm
      · cases h
    · cases h
  · cases h
end Go.Proofs.YtdcjimlhaklhfaaDoor

namespace Go.Proofs.YtdcjimlhaklhfaaDoor
open Go.RowKit
/-! A tree's nodes in the order of their numbers. -/
def nodesOf (t : Tr) : List Nd := (List.range' 1 99).filterMap t
theorem flat_filter {t : Tr} : ∀ (l : List Nat), l.flatMap (textAt t) = (l.filterMap t).flatMap nodeText := by
  intro l
  induction l with
  | nil => rfl
  | cons i l ih =>
    rw [List.flatMap_cons, ih]
    unfold textAt
    cases h : t i with
    | none => simp [h]
    | some n => simp [h]
theorem textT_nodes (t : Tr) : textT t = (nodesOf t).flatMap nodeText := flat_filter _
theorem nodesOf_mem {t : Tr} (ht : TrOk t) {n : Nd} : n ∈ nodesOf t ↔ t n.id.toNat = some n ∧ 1 ≤ n.id := by
  unfold nodesOf
  rw [List.mem_filterMap]
  constructor
  · rintro ⟨i, hi, h⟩
    have := ht.2 i n h
    rw [show n.id.toNat = i by omega]; exact ⟨h, by omega⟩
  · rintro ⟨h, h1⟩
    have := ht.2 _ n h
    exact ⟨n.id.toNat, by rw [List.mem_range'_1]; omega, h⟩
theorem nodesOf_ok {t : Tr} (ht : TrOk t) : ∀ n ∈ nodesOf t, NdOk n := by
  intro n hn
  obtain ⟨h, h1⟩ := (nodesOf_mem ht).1 hn
  have := ht.2 _ n h
  exact ⟨h1, by omega, this.2.2.2.1, this.2.2.2.2.1, this.2.2.2.2.2⟩
theorem nodesOf_len (t : Tr) : (nodesOf t).length ≤ 99 := by
  have := List.length_filterMap_le t (List.range' 1 99)
  simpa [nodesOf] using this
/-- strictly rising -/
def Rises (l : List Nd) : Prop := l.Pairwise (fun a b => a.id < b.id)
theorem rises_filter {t : Tr} (ht : TrOk t) : ∀ (k lo : Nat), Rises ((List.range' lo k).filterMap t) ∧ ∀ n ∈ (List.range' lo k).filterMap t, (lo : Int) ≤ n.id := by
  intro k
  induction k with
  | zero => intro lo; exact ⟨List.Pairwise.nil, by simp⟩
  | succ k ih =>
    intro lo
    obtain ⟨h1, h2⟩ := ih (lo + 1)
    rw [List.range'_succ]
    cases h : t lo with
    | none =>
      rw [List.filterMap_cons_none h]
      exact ⟨h1, fun n hn => by have := h2 n hn; omega⟩
    | some n =>
      rw [List.filterMap_cons_some h]
      have hid := (ht.2 lo n h).1
      refine ⟨List.Pairwise.cons (fun m hm => by have := h2 m hm; omega) h1, fun m hm => ?_⟩
      rcases List.mem_cons.1 hm with rfl | hm
      · omega
      · have := h2 m hm; omega
theorem rises_ordered {l : List Nd} (h : Rises l) : Ordered l := by
  intro i j hij hj
  rw [ndAt_get _ _ hj, ndAt_get _ _ (by omega)]
  exact List.pairwise_iff_getElem.1 h i j (by omega) hj hij
theorem ordered_rises {l : List Nd} (h : Ordered l) : Rises l := by
  refine List.pairwise_iff_getElem.2 (fun i j hi hj hij => ?_)
  have := h i j hij hj
  rwa [ndAt_get _ _ hj, ndAt_get _ _ hi] at this
theorem nodesOf_ordered {t : Tr} (ht : TrOk t) : Ordered (nodesOf t) := rises_ordered (rises_filter ht 99 1).1
/-- Two rising lists with the same members are one. -/
theorem rises_eq : ∀ (a b : List Nd), Rises a → Rises b → (∀ n, n ∈ a ↔ n ∈ b) → a = b := by
  intro a
  induction a with
  | nil =>
    intro b _ _ h
    cases b with
    | nil => rfl
    | cons m b => have := (h m).2 (by simp); simp at this
  | cons n a ih =>
    intro b ha hb h
    cases b with
    | nil => have := (h n).1 (by simp); simp at this
    | cons m b =>
      have ha' := List.pairwise_cons.1 ha
      have hb' := List.pairwise_cons.1 hb
      have hnm : n = m := by
        rcases List.mem_cons.1 ((h n).1 (by simp)) with e | e
        · exact e
        · rcases List.mem_cons.1 ((h m).2 (by simp)) with e2 | e2
          · exact e2.symm
          · have := ha'.1 m e2; have := hb'.1 n e; omega
      subst hnm
      congr 1
      refine ih b ha'.2 hb'.2 (fun x => ?_)
      constructor
      · intro hx
        rcases List.mem_cons.1 ((h x).1 (by simp [hx])) with rfl | e
        · have := ha'.1 x hx; omega
        · exact e
      · intro hx
        rcases List.mem_cons.1 ((h x).2 (by simp [hx])) with rfl | e
        · have := hb'.1 x hx; omega
        · exact e
theorem gather_mem {ns : List Nd} (hu : Unique ns) (hb : ∀ n ∈ ns, 1 ≤ n.id) {n : Nd} : gather ns n.id.toNat = some n ∧ 1 ≤ n.id ↔ n ∈ ns := by
  rw [gather_look hu hb]
  constructor
  · rintro ⟨h, _⟩; exact (lookR_mem h).1
  · intro h; exact ⟨lookR_of hu h, hb n h⟩
theorem gather_trOk {ns : List Nd} (h : ∀ n ∈ ns, NdOk n) : TrOk (gather ns) := gather_ok_aux ns tr0 trOk_0 h
theorem nodesOf_gather {ns : List Nd} (ho : Ordered ns) (h : ∀ n ∈ ns, NdOk n) : nodesOf (gather ns) = ns := by
  refine rises_eq _ _ (rises_filter (gather_trOk h) 99 1).1 (ordered_rises ho) (fun n => ?_)
  rw [nodesOf_mem (gather_trOk h), gather_mem (ordered_unique ho) (fun n hn => (h n hn).1)]
theorem gather_nodesOf {t : Tr} (ht : TrOk t) : gather (nodesOf t) = t := by
  funext i
  have ho := nodesOf_ordered ht
  have hk := nodesOf_ok ht
  have := gather_look (ordered_unique ho) (fun n hn => (hk n hn).1) (i : Int)
  rw [Int.toNat_natCast] at this
  rw [this]
  cases h : t i with
  | some n =>
    have hn := ht.2 i n h
    have hm : n ∈ nodesOf t := (nodesOf_mem ht).2 ⟨by rw [show n.id.toNat = i by omega]; exact h, by omega⟩
    have := lookR_of (ordered_unique ho) hm
    rw [hn.1] at this; exact this
  | none =>
    cases hl : lookR (nodesOf t) (i : Int) with
    | none => rfl
    | some m =>
      obtain ⟨h1, h2⟩ := lookR_mem hl
      obtain ⟨h3, h4⟩ := (nodesOf_mem ht).1 h1
      rw [show m.id.toNat = i by omega, h] at h3; cases h3
/-! What is read of a text that was written. -/
theorem cut_nodes : ∀ (ns : List Nd), (∀ n ∈ ns, NdOk n) → cut (ns.flatMap nodeText) = ns.map nodeText := by
  intro ns
  induction ns with
  | nil => intro _; rfl
  | cons n ns ih =>
    intro h
    rw [List.flatMap_cons, nodeText_body, cut_cons (body_no (h n (by simp))), ih (fun m hm => h m (by simp [hm]))]
    rw [List.map_cons, nodeText_body]
theorem readNodes_map : ∀ (ns : List Nd), (∀ n ∈ ns, NdOk n) → readNodes (ns.map nodeText) = ns := by
  intro ns
  induction ns with
  | nil => intro _; rfl
  | cons n ns ih =>
    intro h
    rw [List.map_cons, readNodes, recNode_text (h n (by simp)), ih (fun m hm => h m (by simp [hm]))]
theorem readNodes_text {t : Tr} (ht : TrOk t) : readNodes (cut (textT t)) = nodesOf t ∧ (cut (textT t)).length = (nodesOf t).length := by
  rw [textT_nodes, cut_nodes _ (nodesOf_ok ht), readNodes_map _ (nodesOf_ok ht)]; simp
theorem readNodes_all : ∀ (rs : List Str), ¬ (readNodes rs).length < rs.length → rs = (readNodes rs).map nodeText := by
  intro rs
  induction rs with
  | nil => intro _; rfl
  | cons r rs ih =>
    intro h
    unfold readNodes at h ⊢
    cases hr : recNode r with
    | none => rw [hr] at h; simp at h
    | some n =>
      rw [hr] at h
      simp only [List.length_cons] at h
      simp only [List.map_cons]
      rw [← ih (by omega), ← recNode_canon hr]
/-- What Check lets pass is written again as it was. -/
theorem check_parts {l : Str} (h : (checkT l).1 = 0) : checkT l = (0, 0) ∧ l.length ≤ 4000 ∧ ¬ (readNodes (cut l)).length < (cut l).length ∧ Ordered (readNodes (cut l)) ∧ misplaced (gather (readNodes (cut l))) (readNodes (cut l)) = (0, 0) := by
  unfold checkT at h ⊢
  split at h
  · simp at h
  · rename_i h1
    simp only [] at h ⊢
    split at h
    · simp at h
    · rename_i h2
      split at h
      · simp at h
      · rename_i h3
        have hm : misplaced (gather (readNodes (cut l))) (readNodes (cut l)) = (0, 0) := by
          unfold misplaced at h ⊢
          split <;> (try split) <;> (try split) <;> simp_all
        rw [if_neg h1, if_neg h2, if_neg h3, hm]
        exact ⟨rfl, by omega, h2, ordered_of h3, rfl⟩
theorem text_check {l : Str} (h : (checkT l).1 = 0) : textT (gather (readNodes (cut l))) = l := by
  obtain ⟨_, _, h2, h3, _⟩ := check_parts h
  have hk := readNodes_bd (cut l)
  rw [textT_nodes, nodesOf_gather h3 hk]
  have := readNodes_all (cut l) h2
  have hf := cut_flat l
  rw [this] at hf
  rw [List.flatMap_def]
  conv => rhs; rw [← hf]
end Go.Proofs.YtdcjimlhaklhfaaDoor

namespace Go.Proofs.YtdcjimlhaklhfaaDoor
open Go.RowKit
/-! A way up of whatever length. -/
def Goes (t : Tr) (x goal : Int) : Prop := ∃ f, meetsF t f x goal = true
theorem meets_up (t : Tr) (goal : Int) {f : Nat} {x : Int} (h : meetsF t f x goal = true) : meetsF t (f + 1) x goal = true := by
  induction f generalizing x with
  | zero => simp [meetsF] at h
  | succ f ih =>
    rw [meetsF] at h ⊢
    by_cases e : x = goal
    · rw [if_pos e]
    · rw [if_neg e] at h ⊢
      cases ht : t x.toNat with
      | none => rw [ht] at h; simp at h
      | some n => rw [ht] at h; simp only at h ⊢; exact ih h
theorem goes_meets {t : Tr} (ht : TrOk t) {x goal : Int} : meetsT t x goal = true ↔ Goes t x goal := by
  constructor
  · intro h; exact ⟨100, h⟩
  · rintro ⟨f, h⟩
    have h1 := meets_up t goal h
    rw [meets_below] at h1
    unfold meetsT
    rw [show (100 : Nat) = 99 + 1 from rfl, meets_below]
    rw [Bool.or_eq_true] at h1 ⊢
    rcases h1 with h1 | h1
    · exact .inl h1
    · right
      have hs := below_stop (ns := nodesOf t) (look := fun x : Int => t x.toNat) (fun y n hn => by
        have := ht.2 _ n hn
        refine ⟨(nodesOf_mem ht).2 ⟨by rw [show n.id.toNat = y.toNat by omega]; exact hn, by omega⟩, by omega⟩) f x h1
      exact below_le (nodesOf_len t) x hs
theorem goes_here (t : Tr) (x : Int) : Goes t x x := ⟨1, by simp [meetsF]⟩
theorem goes_up {t : Tr} {x goal : Int} {n : Nd} (h : t x.toNat = some n) (hg : Goes t n.parent goal) : Goes t x goal := by
  obtain ⟨f, hf⟩ := hg
  refine ⟨f + 1, ?_⟩
  rw [meetsF, h]
  split
  · rfl
  · exact hf
/-- A tree as Check wants it. -/
structure Valid (t : Tr) : Prop where
  ok : TrOk t
  parent : ∀ i n, t i = some n → isParentT t n.parent = true
  goes : ∀ i n, t i = some n → Goes t n.id 0
  apart : ∀ i j n m, t i = some n → t j = some m → n.parent = m.parent → n.name = m.name → i = j
theorem valid_of_check {l : Str} (h : (checkT l).1 = 0) : Valid (gather (readNodes (cut l))) := by
  obtain ⟨_, _, _, ho, hm⟩ := check_parts h
  have hk := readNodes_bd (cut l)
  generalize readNodes (cut l) = ns at *
  have hok := gather_trOk hk
  have hmem : ∀ i n, gather ns i = some n → n ∈ ns := by
    intro i n hn
    have := hok.2 i n hn
    exact (gather_mem (ordered_unique ho) (fun n hn => (hk n hn).1)).1 ⟨by rw [show n.id.toNat = i by omega]; exact hn, by omega⟩
  unfold misplaced at hm
  split at hm
  · simp at hm
  · rename_i h1
    split at hm
    · simp at hm
    · rename_i h2
      split at hm
      · simp at hm
      · rename_i h3
        have n1 : ∀ j, j < ns.length → orphan (gather ns) ns j = false := by
          rcases scan_cases (orphan (gather ns) ns) 0 ns.length with ⟨e, _⟩ | ⟨_, e⟩
          · exact absurd e h1
          · exact fun j hj => e j (by omega) hj
        have n2 : ∀ j, j < ns.length → looped (gather ns) ns j = false := by
          rcases scan_cases (looped (gather ns) ns) 0 ns.length with ⟨e, _⟩ | ⟨_, e⟩
          · exact absurd e h2
          · exact fun j hj => e j (by omega) hj
        have n3 : ∀ j, j < ns.length → twice ns j = false := by
          rcases scan_cases (twice ns) 0 ns.length with ⟨e, _⟩ | ⟨_, e⟩
          · exact absurd e h3
          · exact fun j hj => e j (by omega) hj
        refine ⟨hok, ?_, ?_, ?_⟩
        · intro i n hn
          obtain ⟨j, hj, rfl⟩ := mem_ndAt (hmem i n hn)
          have := n1 j hj; unfold orphan at this; simpa using this
        · intro i n hn
          obtain ⟨j, hj, rfl⟩ := mem_ndAt (hmem i n hn)
          have := n2 j hj; unfold looped at this
          exact (goes_meets hok).1 (by simpa using this)
        · intro i j n m hn hm' hp hnm
          obtain ⟨a, ha, rfl⟩ := mem_ndAt (hmem i n hn)
          obtain ⟨b, hb, rfl⟩ := mem_ndAt (hmem j m hm')
          have hid1 := (hok.2 i _ hn).1
          have hid2 := (hok.2 j _ hm').1
          have hno : ∀ x y, x < y → y < ns.length → (ndAt ns x).parent = (ndAt ns y).parent → (ndAt ns x).name = (ndAt ns y).name → False := by
            intro x y hxy hy h4 h5
            have := n3 y hy
            unfold twice at this
            have := of_decide_eq_false this
            exact this ⟨x, hxy, by unfold samePlace; rw [h4, h5]; simp⟩
          rcases Nat.lt_trichotomy a b with h6 | rfl | h6
          · exact (hno a b h6 hb hp hnm).elim
          · omega
          · exact (hno b a h6 ha hp.symm hnm.symm).elim
/-- A tree that is right, written and read, passes. -/
theorem check_text {t : Tr} (hv : Valid t) : checkT (textT t) = (0, 0) ∧ gather (readNodes (cut (textT t))) = t := by
  obtain ⟨e1, e2⟩ := readNodes_text hv.ok
  have ho := nodesOf_ordered hv.ok
  have hk := nodesOf_ok hv.ok
  have hg := gather_nodesOf hv.ok
  have hlen : (textT t).length ≤ 4000 := by have := textTo_len hv.ok 99; unfold textT; omega
  refine ⟨?_, by rw [e1, hg]⟩
  unfold checkT
  rw [if_neg (by omega)]
  simp only []
  rw [e1, e2, if_neg (by omega), hg]
  have h3 : ¬ scan (unordered (nodesOf t)) 1 (nodesOf t).length < (nodesOf t).length := by
    rw [scan_none]
    · omega
    · intro j h1 h2
      unfold unordered
      have := ho (j - 1) j (by omega) h2
      exact decide_eq_false (by omega)
  rw [if_neg h3]
  have hat : ∀ j, j < (nodesOf t).length → t (ndAt (nodesOf t) j).id.toNat = some (ndAt (nodesOf t) j) := fun j hj => ((nodesOf_mem hv.ok).1 (ndAt_mem hj)).1
  unfold misplaced
  rw [scan_none (p := orphan t (nodesOf t)) (fun j _ hj => by unfold orphan; rw [hv.parent _ _ (hat j hj)]; rfl), if_neg (by omega)]
  rw [scan_none (p := looped t (nodesOf t)) (fun j _ hj => by unfold looped; rw [(goes_meets hv.ok).2 (hv.goes _ _ (hat j hj))]; rfl), if_neg (by omega)]
  rw [scan_none (p := twice (nodesOf t)) (fun j _ hj => by
    unfold twice
    apply decide_eq_false
    rintro ⟨x, hx, hs⟩
    unfold samePlace at hs
    simp only [Bool.and_eq_true, beq_iff_eq] at hs
    have h4 := hv.apart _ _ _ _ (hat x (by omega)) (hat j hj) hs.1 hs.2
    have h5 := ho x j hx hj
    have h6 := (hk _ (ndAt_mem (ns := nodesOf t) (i := x) (by omega))).1
    omega), if_neg (by omega)]
/-! The steps keep trees right. -/
theorem hasT_iff {t : Tr} {id : Int} : hasT t id = true ↔ ∃ n, t id.toNat = some n := by unfold hasT; exact Option.isSome_iff_exists
theorem isParent_iff {t : Tr} {p : Int} : isParentT t p = true ↔ p = 0 ∨ (p % 2 = 0 ∧ ∃ n, t p.toNat = some n) := by
  unfold isParentT; rw [Bool.or_eq_true, Bool.and_eq_true, beq_iff_eq, beq_iff_eq, hasT_iff]
theorem atT_none {t : Tr} {p : Int} {s : Str} (h : atT t p s = 0) : ∀ i n, 1 ≤ i → i ≤ 99 → t i = some n → n.parent = p → n.name = s → False := by
  intro i n h1 h2 hn hp hs
  rcases scan_cases (spotIs t p s) 1 100 with ⟨e1, e2, _, _⟩ | ⟨_, e⟩
  · unfold atT at h; rw [if_pos e1] at h; omega
  · have := e i h1 (by omega)
    unfold spotIs at this; rw [hn] at this; simp [hp, hs] at this
theorem atT_some {t : Tr} {p : Int} {s : Str} (hv : Valid t) (h : atT t p s ≠ 0) : ∀ i n, t i = some n → n.parent = p → n.name = s → (i : Int) = atT t p s := by
  intro i n hn hp hs
  rcases scan_cases (spotIs t p s) 1 100 with ⟨e1, e2, e3, _⟩ | ⟨e, _⟩
  · unfold atT; rw [if_pos e1]
    generalize scan (spotIs t p s) 1 100 = k at *
    unfold spotIs at e3
    cases hk : t k with
    | none => rw [hk] at e3; simp at e3
    | some m =>
      rw [hk] at e3; simp at e3
      have := hv.apart i k n m hn hk (by rw [hp, e3.1]) (by rw [hs, e3.2])
      omega
  · unfold atT at h; rw [if_neg (by omega)] at h; exact absurd rfl h
theorem put_at {t : Tr} {n : Nd} {i : Nat} : trPut t n i = if (i : Int) = n.id then some n else t i := rfl
theorem valid_put {t : Tr} (hv : Valid t) {n : Nd} (hn : NdOk n) (hp : isParentT t n.parent = true) (hlo : hasT t n.id = true → ¬ Goes t n.parent n.id) (hat : ∀ i m, t i = some m → m.parent = n.parent → m.name = n.name → (i : Int) = n.id) : Valid (trPut t n) := by
  have hok := trOk_put hv.ok hn
  have hself : trPut t n n.id.toNat = some n := by rw [put_at, if_pos (by have := hn.1; omega)]
  have hoth : ∀ i : Nat, (i : Int) ≠ n.id → trPut t n i = t i := fun i hi => by rw [put_at, if_neg hi]
  have hhas : ∀ (p : Int) m, t p.toNat = some m → ∃ m', trPut t n p.toNat = some m' := by
    intro p m hm
    by_cases e : (p.toNat : Int) = n.id
    · exact ⟨n, by rw [put_at, if_pos e]⟩
    · exact ⟨m, by rw [hoth _ e]; exact hm⟩
  have hpar : ∀ p, isParentT t p = true → isParentT (trPut t n) p = true := by
    intro p h
    rw [isParent_iff] at h ⊢
    rcases h with h | ⟨h1, m, h2⟩
    · exact .inl h
    · exact .inr ⟨h1, hhas p m h2⟩
  -- the way from the new parent does not meet the node itself
  have havoid : ¬ Goes t n.parent n.id := by
    cases hh : hasT t n.id
    · rintro ⟨f, hf⟩
      have hne : t n.id.toNat = none := by
        cases hq : t n.id.toNat with
        | none => rfl
        | some m => exact absurd (hasT_iff.2 ⟨m, hq⟩) (by rw [hh]; simp)
      -- all met are parents; the node is none
      have key : ∀ f x, isParentT t x = true → meetsF t f x n.id = true → False := by
        intro f
        induction f with
        | zero => intro x _ h; simp [meetsF] at h
        | succ f ih =>
          intro x hx h
          rw [meetsF] at h
          by_cases e : x = n.id
          · rw [isParent_iff] at hx
            rcases hx with hx | ⟨_, m, hm⟩
            · have := hn.1; omega
            · rw [e, hne] at hm; cases hm
          · rw [if_neg e] at h
            cases hx2 : t x.toNat with
            | none => rw [hx2] at h; simp at h
            | some m => rw [hx2] at h; exact ih m.parent (hv.parent _ m hx2) h
      exact key f n.parent hp hf
    · exact hlo hh
  have hgp : Goes (trPut t n) n.parent 0 := by
    have h0 : Goes t n.parent 0 := by
      rw [isParent_iff] at hp
      rcases hp with hp | ⟨_, m, hm⟩
      · rw [hp]; exact goes_here t 0
      · have := hv.goes _ m hm
        have hid := (hv.ok.2 _ m hm)
        rwa [show m.id = n.parent by have := hn.2.2.1; omega] at this
    obtain ⟨f, hf⟩ := h0
    have key : ∀ f x, ¬ Goes t x n.id → meetsF t f x 0 = true → Goes (trPut t n) x 0 := by
      intro f
      induction f with
      | zero => intro x _ h; simp [meetsF] at h
      | succ f ih =>
        intro x hx h
        rw [meetsF] at h
        by_cases e : x = 0
        · rw [e]; exact goes_here _ 0
        · rw [if_neg e] at h
          cases hx2 : t x.toNat with
          | none => rw [hx2] at h; simp at h
          | some m =>
            rw [hx2] at h
            have hxn : (x.toNat : Int) ≠ n.id := by
              intro e2
              have hid := hv.ok.2 _ m hx2
              apply hx
              rw [show x = n.id by omega]; exact goes_here t _
            exact goes_up (by rw [hoth _ hxn]; exact hx2) (ih m.parent (fun hg => hx (goes_up hx2 hg)) h)
    exact key f n.parent havoid hf
  have hgn : Goes (trPut t n) n.id 0 := goes_up hself hgp
  have hall : ∀ f x, meetsF t f x 0 = true → Goes (trPut t n) x 0 := by
    intro f
    induction f with
    | zero => intro x h; simp [meetsF] at h
    | succ f ih =>
      intro x h
      rw [meetsF] at h
      by_cases e : x = 0
      · rw [e]; exact goes_here _ 0
      · rw [if_neg e] at h
        cases hx2 : t x.toNat with
        | none => rw [hx2] at h; simp at h
        | some m =>
          rw [hx2] at h
          by_cases e2 : (x.toNat : Int) = n.id
          · have hid := hv.ok.2 _ m hx2
            rw [show x = n.id by omega]; exact hgn
          · exact goes_up (by rw [hoth _ e2]; exact hx2) (ih m.parent h)
  refine ⟨hok, ?_, ?_, ?_⟩
  · intro i m hm
    by_cases e : (i : Int) = n.id
    · rw [put_at, if_pos e] at hm; cases hm; exact hpar _ hp
    · rw [hoth _ e] at hm; exact hpar _ (hv.parent i m hm)
  · intro i m hm
    by_cases e : (i : Int) = n.id
    · rw [put_at, if_pos e] at hm; cases hm; exact hgn
    · rw [hoth _ e] at hm
      obtain ⟨f, hf⟩ := hv.goes i m hm
      exact hall f _ hf
  · intro i j a b ha hb h1 h2
    by_cases e1 : (i : Int) = n.id
    · by_cases e2 : (j : Int) = n.id
      · omega
      · rw [put_at, if_pos e1] at ha; cases ha
        rw [hoth _ e2] at hb
        have := hat j b hb h1.symm h2.symm; omega
    · rw [hoth _ e1] at ha
      by_cases e2 : (j : Int) = n.id
      · rw [put_at, if_pos e2] at hb; cases hb
        have := hat i a ha h1 h2; omega
      · rw [hoth _ e2] at hb
        exact hv.apart i j a b ha hb h1 h2
theorem valid_remove {t : Tr} (hv : Valid t) {id : Int} (hk : kidsT t id = false) : Valid (trRemove t id) := by
  have hoth : ∀ i : Nat, (i : Int) ≠ id → trRemove t id i = t i := fun i hi => by unfold trRemove; rw [if_neg hi]
  have hgone : ∀ i n, trRemove t id i = some n → t i = some n ∧ (i : Int) ≠ id := by
    intro i n h
    unfold trRemove at h
    split at h
    · cases h
    · exact ⟨h, by assumption⟩
  have hno : ∀ i n, t i = some n → n.parent ≠ id := by
    intro i n hn e
    have hi := hv.ok.2 i n hn
    rcases scan_cases (kidIs t id) 1 100 with ⟨e1, _⟩ | ⟨_, e2⟩
    · unfold kidsT at hk; exact absurd e1 (of_decide_eq_false hk)
    · have := e2 i hi.2.1 (by omega)
      unfold kidIs at this; rw [hn] at this; simp [e] at this
  have hall : ∀ f x, x ≠ id → meetsF t f x 0 = true → Goes (trRemove t id) x 0 := by
    intro f
    induction f with
    | zero => intro x _ h; simp [meetsF] at h
    | succ f ih =>
      intro x hx h
      rw [meetsF] at h
      by_cases e : x = 0
      · rw [e]; exact goes_here _ 0
      · rw [if_neg e] at h
        cases hx2 : t x.toNat with
        | none => rw [hx2] at h; simp at h
        | some m =>
          rw [hx2] at h
          have hid := hv.ok.2 _ m hx2
          exact goes_up (by rw [hoth _ (by omega)]; exact hx2) (ih m.parent (hno _ m hx2) h)
  refine ⟨trOk_remove hv.ok id, ?_, ?_, ?_⟩
  · intro i n hn
    obtain ⟨h1, h2⟩ := hgone i n hn
    have hp := hv.parent i n h1
    rw [isParent_iff] at hp ⊢
    rcases hp with hp | ⟨hp, m, hm⟩
    · exact .inl hp
    · refine .inr ⟨hp, m, ?_⟩
      have := hno i n h1
      have hid := hv.ok.2 _ m hm
      rw [hoth _ (by omega)]; exact hm
  · intro i n hn
    obtain ⟨h1, h2⟩ := hgone i n hn
    obtain ⟨f, hf⟩ := hv.goes i n h1
    have hid := hv.ok.2 i n h1
    exact hall f n.id (by omega) hf
  · intro i j a b ha hb h1 h2
    exact hv.apart i j a b (hgone i a ha).1 (hgone j b hb).1 h1 h2
theorem valid_step {t : Tr} (hv : Valid t) {s : St} (hs : StOk s) : Valid (stepT t s) := by
  unfold stepT
  by_cases hE : stepE t s = 0
  · rw [if_pos hE]
    rcases hs with ⟨hk, hn⟩ | ⟨hk, hn⟩
    · have h45 : ¬ s.kind = 45 := by rcases hk with h | h <;> rw [h] <;> decide
      rw [if_neg h45]
      have hN : NdOk s.node := hn
      rcases hk with h | h
      · have e : createE t s.node = 0 := by unfold stepE at hE; rwa [if_pos h] at hE
        unfold createE at e
        cases h1 : hasT t s.node.id
        · rw [h1] at e
          cases h2 : isParentT t s.node.parent
          · rw [h2] at e; simp at e
          · rw [h2] at e
            cases h3 : (atT t s.node.parent s.node.name != 0)
            · have h3' : atT t s.node.parent s.node.name = 0 := by simpa using h3
              refine valid_put hv hN h2 (fun hh => by rw [h1] at hh; cases hh) (fun i m hm hp hnm => ?_)
              have hi := hv.ok.2 i m hm
              exact (atT_none h3' i m hi.2.1 hi.2.2.1 hm hp hnm).elim
            · rw [h3] at e; simp at e
        · rw [h1] at e; simp at e
      · have e : moveE t s.node = 0 := by unfold stepE at hE; rwa [if_neg (by rw [h]; decide), if_pos h] at hE
        unfold moveE at e
        cases h1 : hasT t s.node.id
        · rw [h1] at e; simp at e
        · rw [h1] at e
          cases h2 : isParentT t s.node.parent
          · rw [h2] at e; simp at e
          · rw [h2] at e
            cases h3 : meetsT t s.node.parent s.node.id
            · rw [h3] at e
              refine valid_put hv hN h2 (fun _ hg => by rw [(goes_meets hv.ok).2 hg] at h3; cases h3) (fun i m hm hp hnm => ?_)
              have hi := hv.ok.2 i m hm
              cases h4 : (atT t s.node.parent s.node.name != 0)
              · exact (atT_none (by simpa using h4) i m hi.2.1 hi.2.2.1 hm hp hnm).elim
              · have h4' : atT t s.node.parent s.node.name ≠ 0 := by simpa using h4
                have := atT_some hv h4' i m hm hp hnm
                cases h5 : (atT t s.node.parent s.node.name != s.node.id)
                · have : atT t s.node.parent s.node.name = s.node.id := by simpa using h5
                  omega
                · rw [h4, h5] at e; simp at e
            · rw [h3] at e; simp at e
    · rw [if_pos hk]
      have e : deleteE t s.node.id = 0 := by unfold stepE at hE; rwa [if_neg (by rw [hk]; decide), if_neg (by rw [hk]; decide), if_pos hk] at hE
      unfold deleteE at e
      cases h1 : hasT t s.node.id
      · rw [h1] at e; simp at e
      · rw [h1] at e
        cases h2 : kidsT t s.node.id
        · exact valid_remove hv h2
        · rw [h2] at e; simp at e
  · rw [if_neg hE]; exact hv
theorem valid_all : ∀ (ss : List St) (t : Tr), Valid t → (∀ s ∈ ss, StOk s) → Valid (doAllT ss t) := by
  intro ss
  induction ss with
  | nil => intro t h _; exact h
  | cons s ss ih =>
    intro t h hs
    unfold doAllT
    split
    · exact ih _ (valid_step h (hs s (by simp))) (fun x hx => hs x (by simp [hx]))
    · exact h
end Go.Proofs.YtdcjimlhaklhfaaDoor

namespace Go.Proofs.YtdcjimlhaklhfaaDoor
open Go.RowKit
def otherB (x : Nd) (n : Nd) : Bool := n.id != x.id
def layR (ns : List Nd) (x : Nd) (b : Bool) : List Nd := ns.filter (otherB x) ++ (if b then [x] else [])
def LayInv (ns : List Nd) (x : Nd) (k : Nat) (ns' : List Nd) : Prop := ns' = (ns.take k).filter (otherB x)
theorem layInv_yes {ns : List Nd} {x : Nd} {k : Nat} {ns' : List Nd} (h : LayInv ns x k ns') (hk : k < ns.length) (hq : ((ns[k]).id != x.id) = true) : LayInv ns x (k + 1) (ns' ++ [ns[k]]) := by
  unfold LayInv at *
  rw [List.take_succ_eq_append_getElem hk, List.filter_append, ← h]
  congr 1
  rw [List.filter_cons, if_pos (show otherB x ns[k] = true from hq)]; rfl
theorem layInv_no {ns : List Nd} {x : Nd} {k : Nat} {ns' : List Nd} (h : LayInv ns x k ns') (hk : k < ns.length) (hq : ((ns[k]).id != x.id) = false) : LayInv ns x (k + 1) ns' := by
  unfold LayInv at *
  rw [List.take_succ_eq_append_getElem hk, List.filter_append, ← h]
  rw [List.filter_cons, if_neg (show ¬ otherB x ns[k] = true by unfold otherB; rw [hq]; simp)]; simp
theorem layInv_end {ns : List Nd} {x : Nd} {k : Nat} {ns' : List Nd} (h : LayInv ns x k ns') (hk : ¬ k < ns.length) : layR ns x false = ns' ∧ layR ns x true = ns' ++ [x] := by
  unfold LayInv at h
  rw [List.take_of_length_le (by omega)] at h
  unfold layR; rw [← h]; simp
theorem layInv_len {ns : List Nd} {x : Nd} {k : Nat} {ns' : List Nd} (h : LayInv ns x k ns') : ns'.length ≤ k := by
  unfold LayInv at h; rw [h]
  refine Nat.le_trans (List.length_filter_le _ _) ?_
  rw [List.length_take]; omega
/-! A step, done in a list. -/
def kidAt (ns : List Nd) (id : Int) (i : Nat) : Bool := (ndAt ns i).parent == id
def kidsR (ns : List Nd) (id : Int) : Bool := decide (scan (kidAt ns id) 0 ns.length < ns.length)
def delR (ns : List Nd) (id : Int) : Int := if findR ns id < 0 then 9 else if kidsR ns id then 10 else 0
def putR (ns : List Nd) (x : Nd) : Int := if !folderR ns x.parent then 4 else if (x.parent == x.id || belowR ns x.parent x.id) then 5 else if (takenR ns x.parent x.name != 0 && takenR ns x.parent x.name != x.id) then 6 else 0
def doR (ns : List Nd) (s : St) : Int :=
  if s.kind = 45 then delR ns s.node.id
  else if s.kind = 43 ∧ 0 ≤ findR ns s.node.id then 8
  else if s.kind = 61 ∧ findR ns s.node.id < 0 then 9
  else putR ns s.node
end Go.Proofs.YtdcjimlhaklhfaaDoor

namespace Go.Proofs.YtdcjimlhaklhfaaDoor
open Go.RowKit
/-! Scripts between two trees, as the document looks at them: lists of steps. -/
/-- the step home of a node of the second tree -/
def homeB (a : List Nd) (n : Nd) : List St := match lookR a n.id with
  | none => [⟨43, n⟩]
  | some m => if ndEq m n then [] else [⟨61, n⟩]
/-- the step home of a node of the first tree -/
def homeA (b : List Nd) (n : Nd) : List St := match lookR b n.id with
  | none => [⟨45, ⟨n.id, 0, []⟩⟩]
  | some _ => []
def homesR (a b : List Nd) : List St := b.flatMap (homeB a) ++ a.flatMap (homeA b)
theorem flat_take_succ {α : Type} (f : Nd → List α) (l : List Nd) (k : Nat) (h : k < l.length) : (l.take (k + 1)).flatMap f = (l.take k).flatMap f ++ f l[k] := by
  rw [List.take_succ_eq_append_getElem h, List.flatMap_append]; simp
theorem homeB_len (a : List Nd) (n : Nd) : (homeB a n).length ≤ 1 := by
  unfold homeB; split
  · simp
  · split <;> simp
theorem homeA_len (b : List Nd) (n : Nd) : (homeA b n).length ≤ 1 := by
  unfold homeA; split <;> simp
theorem flat_len {α : Type} (f : Nd → List α) (hf : ∀ n, (f n).length ≤ 1) : ∀ l : List Nd, (l.flatMap f).length ≤ l.length := by
  intro l
  induction l with
  | nil => simp
  | cons n l ih => rw [List.flatMap_cons, List.length_append, List.length_cons]; have := hf n; omega
theorem homesR_len (a b : List Nd) : (homesR a b).length ≤ a.length + b.length := by
  unfold homesR; rw [List.length_append]
  have h1 := flat_len (homeB a) (homeB_len a) b
  have h2 := flat_len (homeA b) (homeA_len b) a
  omega
/-- Where a step stands. -/
def atIs (l : List St) (s : St) (i : Nat) : Bool := match l[i]? with
  | none => false
  | some x => stEq x s
/-- Where 'without' stands behind i steps. -/
def WoInv (l : List St) (k i : Nat) (out : List St) : Prop := out = (l.take i).eraseIdx k
theorem woInv_yes {l : List St} {k i : Nat} {out : List St} (h : WoInv l k i out) (hi : i < l.length) (hk : i ≠ k) : WoInv l k (i + 1) (out ++ [l[i]]) := by
  unfold WoInv at *
  rw [List.take_succ_eq_append_getElem hi, h]
  have hl : (l.take i).length = i := by rw [List.length_take]; omega
  rcases Nat.lt_or_ge k i with hlt | hge
  · rw [List.eraseIdx_append_of_lt_length (by omega)]
  · rw [List.eraseIdx_of_length_le (by omega), List.eraseIdx_of_length_le (by rw [List.length_append, hl]; simp; omega)]
theorem woInv_no {l : List St} {k : Nat} {out : List St} (h : WoInv l k k out) (hi : k < l.length) : WoInv l k (k + 1) out := by
  unfold WoInv at *
  have hl : (l.take k).length = k := by rw [List.length_take]; omega
  rw [List.take_succ_eq_append_getElem hi, h, List.eraseIdx_of_length_le (by omega), List.eraseIdx_append_of_length_le (by omega), hl]
  simp
theorem woInv_end {l : List St} {k i : Nat} {out : List St} (h : WoInv l k i out) (hi : ¬ i < l.length) : l.eraseIdx k = out := by
  unfold WoInv at h
  rw [List.take_of_length_le (by omega)] at h; exact h.symm
theorem woInv_len {l : List St} {k i : Nat} {out : List St} (h : WoInv l k i out) : out.length ≤ i := by
  unfold WoInv at h; rw [h]
  have h1 := List.length_eraseIdx_le (l.take i) k
  have h2 : (l.take i).length ≤ i := by rw [List.length_take]; omega
  omega
/-- Where the first loop of 'homes' stands behind i nodes. -/
def HbInv (a b : List Nd) (i : Nat) (out : List St) : Prop := out = (b.take i).flatMap (homeB a)
def HaInv (a b : List Nd) (i : Nat) (out : List St) : Prop := out = b.flatMap (homeB a) ++ (a.take i).flatMap (homeA b)
theorem hbInv_next {a b : List Nd} {i : Nat} {out : List St} (h : HbInv a b i out) (hi : i < b.length) {x : List St} (hx : homeB a b[i] = x) : HbInv a b (i + 1) (out ++ x) := by
  unfold HbInv at *; rw [flat_take_succ _ _ _ hi, h, hx]
theorem hbInv_end {a b : List Nd} {i : Nat} {out : List St} (h : HbInv a b i out) (hi : ¬ i < b.length) : HaInv a b 0 out := by
  unfold HbInv at h; unfold HaInv
  rw [List.take_of_length_le (by omega)] at h; rw [h]; simp
theorem haInv_next {a b : List Nd} {i : Nat} {out : List St} (h : HaInv a b i out) (hi : i < a.length) {x : List St} (hx : homeA b a[i] = x) : HaInv a b (i + 1) (out ++ x) := by
  unfold HaInv at *; rw [flat_take_succ _ _ _ hi, h, hx, List.append_assoc]
theorem haInv_end {a b : List Nd} {i : Nat} {out : List St} (h : HaInv a b i out) (hi : ¬ i < a.length) : homesR a b = out := by
  unfold HaInv at h
  rw [List.take_of_length_le (by omega)] at h; rw [h]; rfl
theorem hbInv_len {a b : List Nd} {i : Nat} {out : List St} (h : HbInv a b i out) (hi : i ≤ b.length) : out.length ≤ i := by
  unfold HbInv at h; rw [h]
  have := flat_len (homeB a) (homeB_len a) (b.take i)
  rw [List.length_take] at this; omega
theorem haInv_len {a b : List Nd} {i : Nat} {out : List St} (h : HaInv a b i out) (hi : i ≤ a.length) : out.length ≤ b.length + i := by
  unfold HaInv at h; rw [h, List.length_append]
  have h1 := flat_len (homeB a) (homeB_len a) b
  have h2 := flat_len (homeA b) (homeA_len b) (a.take i)
  rw [List.length_take] at h2; omega
theorem homeB_new {a : List Nd} {n : Nd} (h : lookR a n.id = none) : homeB a n = [⟨43, n⟩] := by unfold homeB; rw [h]
theorem homeB_same {a : List Nd} {n m : Nd} (h : lookR a n.id = some m) (he : ndEq m n = true) : homeB a n = [] := by unfold homeB; rw [h]; exact if_pos he
theorem homeB_else {a : List Nd} {n m : Nd} (h : lookR a n.id = some m) (he : ndEq m n = false) : homeB a n = [⟨61, n⟩] := by unfold homeB; rw [h]; exact if_neg (by rw [he]; decide)
theorem homeA_gone {b : List Nd} {n : Nd} (h : lookR b n.id = none) : homeA b n = [⟨45, ⟨n.id, 0, []⟩⟩] := by unfold homeA; rw [h]
theorem homeA_kept {b : List Nd} {n m : Nd} (h : lookR b n.id = some m) : homeA b n = [] := by unfold homeA; rw [h]
end Go.Proofs.YtdcjimlhaklhfaaDoor

namespace Go.Proofs.YtdcjimlhaklhfaaDoor
open Go.RowKit
theorem news_four {w : World} (a b c d : Value) (t : TypeId) : ∀ j x, [a, b, c, d][j]? = some x → (w.alloc (.cells #[a, b, c, d] t)).cell? ((⟨w.heap.size, 0, none⟩ : Addr).add j) = some x := by
  intro j x hx
  exact World.news_of_block (cs := #[a, b, c, d]) (heap_alloc_new w _) j x hx
/-- What Compile refuses. -/
def refusalT (f t : Str) : Int := if 4000 < f.length ∨ 4000 < t.length then 1 else if (checkT f).1 ≠ 0 then (checkT f).1 else (checkT t).1
theorem refusalT_long {f t : Str} (h : 4000 < f.length ∨ 4000 < t.length) : refusalT f t = 1 := by unfold refusalT; rw [if_pos h]
theorem refusalT_from {f t : Str} (h : ¬ (4000 < f.length ∨ 4000 < t.length)) (h2 : (checkT f).1 ≠ 0) : refusalT f t = (checkT f).1 := by unfold refusalT; rw [if_neg h, if_pos h2]
theorem refusalT_to {f t : Str} (h : ¬ (4000 < f.length ∨ 4000 < t.length)) (h2 : (checkT f).1 = 0) : refusalT f t = (checkT t).1 := by unfold refusalT; rw [if_neg h, if_neg (fun hh => hh h2)]
set_option maxHeartbeats 1000000 in
theorem refusal_any (s t : ByteArray) (w : World) :
    Calls Tryd.prog 25 #[.string s, .string t] w fun e w' => e = .returned (.int .i64 (refusalT (sl s) (sl t))) ∧ Below w.heap.size w w' := by
  by_cases hL : 4000 < s.size ∨ 4000 < t.size
  · have HA := hide (refusalT_long (f := sl s) (t := sl t) (by rw [sl_length, sl_length]; exact hL))
    generalize refusalT (sl s) (sl t) = A at *
    have hL' : 4000 < s.size ∨ (¬ 4000 < s.size ∧ 4000 < t.size) := by omega
    clear hL
    rcases hL' with h | ⟨h, h'⟩
    all_goals
      go_enter Tryd.func25, Tryd.ntmps25
      go_wp2
      go_ret
      exact ⟨ret_int (unhide HA).symm, Below.refl _ _⟩
  · have hLl : ¬ (4000 < (sl s).length ∨ 4000 < (sl t).length) := by rw [sl_length, sl_length]; exact hL
    have h4 : ¬ 4000 < s.size := by omega
    have h5 : ¬ 4000 < t.size := by omega
    have HC1 := hide (fun W => rcheck_any s W)
    have HC2 := hide (fun W => rcheck_any t W)
    rw [check_same] at HC1 HC2
    by_cases hC : (checkT (sl s)).1 ≠ 0
    · have HA := hide (refusalT_from hLl hC)
      have hC' : ((checkT (sl s)).1 != 0) = true := by rw [bne_iff_ne]; exact hC
      generalize refusalT (sl s) (sl t) = A at *
      generalize checkT (sl s) = c at *
      clear hC hL hLl HC2
      go_enter Tryd.func25, Tryd.ntmps25
      go_wp2_with fail
      refine (unhide HC1 _).mono ?_
      rintro e w1 ⟨rfl, hb1⟩
      go_wp2
      go_ret
      exact ⟨ret_int (unhide HA).symm, hb1⟩
    · have hc0 : (checkT (sl s)).1 = 0 := Classical.not_not.1 hC
      have HA := hide (refusalT_to hLl hc0)
      rw [hc0] at HC1
      generalize refusalT (sl s) (sl t) = A at *
      generalize (checkT (sl s)).2 = c2 at *
      generalize checkT (sl t) = d at *
      clear hC hL hLl hc0
      go_enter Tryd.func25, Tryd.ntmps25
      go_wp2_with fail
      refine (unhide HC1 _).mono ?_
      rintro e w1 ⟨rfl, hb1⟩
      go_wp2_with fail
      refine (unhide HC2 _).mono ?_
      rintro e w2 ⟨rfl, hb2⟩
      go_wp2
      go_ret
      exact ⟨ret_int (unhide HA).symm, hb1.trans (hb2.mono hb1.size)⟩
set_option maxHeartbeats 2000000 in
theorem without_any (ss : List St) (m : Nat) (ao : Option Addr) (cap : Nat) (w : World) (hrow : Row w ao ss.length 4 (stCells ss)) (hl : ss.length ≤ 8000) :
    Calls Tryd.prog 49 #[.slice ao ss.length cap, .int .i64 m] w fun e w' => (∃ ao' cap', e = .returned (.slice ao' (ss.eraseIdx m).length cap') ∧ Row w' ao' (ss.eraseIdx m).length 4 (stCells (ss.eraseIdx m))) ∧ Below w.heap.size w w' := by
  obtain ⟨i0, hi, hz0, hz1, hz2⟩ := info_parts Tryd.infoRStep
  have HROW := hide hrow
  clear hrow
  go_enter Tryd.func49, Tryd.ntmps49
  go_wp2
  go_loopw [5, 6] (fun v i wr => ∃ k : Nat, ∃ out : List St, k ≤ ss.length ∧ i = .int .i64 k ∧ wr.ownsRow w.heap.size 115 4 v out.length (stCells out) ∧ Below w.heap.size w wr ∧ Hid (WoInv ss m k out)) (fun _ i _ => ss.length - (intOf i).toNat)
  case atStart => exact ⟨0, [], Nat.zero_le _, rfl, World.ownsRow_nil _ _ _ _, Below.refl _ _, hide (by simp [WoInv])⟩
  case round =>
    obtain ⟨k, out, hk, rfl, hown, hbel, HI⟩ := hrel
    have hnl := woInv_len (unhide HI)
    have hsz := hbel.size
    by_cases hlt : k < ss.length
    · obtain ⟨g, hao, hg, c0, c1, c2, c3⟩ := st_cells ((unhide HROW).below hbel) hlt
      rw [hao]
      clear hao
      by_cases hq : k = m
      · subst hq
        have HI2 := hide (woInv_no (unhide HI) hlt)
        generalize ss[k] = st at *
        go_wp2
        go_roundw
        case rel => exact ⟨k + 1, out, by omega, by go_num, hown, hbel, HI2⟩
        case measure => simp [intOf]; omega
      · have HI2 := hide (woInv_yes (unhide HI) hlt hq)
        have hq' : ((k : Int) != (m : Int)) = true := by rw [bne_iff_ne]; omega
        have hq2 : ¬ (k : Int) = (m : Int) := by omega
        generalize ss[k] = st at *
        go_wp2_with (first
          | (at_builtin; (refine wpList_append_own _ rfl _ _ 92 rfl w.heap.size 115 i0 (.agg #[.int .u8 0, .int .i64 0, .int .i64 0, .string ByteArray.empty]) 4 40 Tryd.underlying92 hi hz0 hz1 hz2 rfl (by decide) _ _ _ rfl (own_below hown ((Below.refl _ _).alloc (by simp) _)) ⟨wr.heap.size, 0, none⟩ 1 1 [.int .u8 st.kind.toNat, .int .i64 st.node.id, .int .i64 st.node.parent, .string (bs st.node.name)] rfl rfl (news_four _ _ _ _ _) (by simp [Value.oneCell']) (by unfold maxLen; omega) (by omega) (by simp; omega) ?_))
          | go_in)
        intro v' w4 hown' hgrow _
        have hb4 : Below w.heap.size w w4 := (hbel.alloc (by omega) _).grown hgrow (by simp; omega) (own_ge hown)
        have hown2 : w4.ownsRow w.heap.size 115 4 v' (out ++ [st]).length (stCells (out ++ [st])) := by rw [stCells_snoc, List.length_append]; exact hown'
        clear hgrow hown hbel hown'
        go_wp2
        go_roundw
        case rel => exact ⟨k + 1, _, by omega, by go_num, hown2, hb4, HI2⟩
        case measure => simp [intOf]; omega
    · have HF := hide (woInv_end (unhide HI) hlt)
      go_wp2
      go_ret
      rw [unhide HF]
      obtain ⟨ao', cap', rfl, hr⟩ := row_of_owns hown
      exact ⟨⟨ao', cap', rfl, hr⟩, hbel⟩
end Go.Proofs.YtdcjimlhaklhfaaDoor

namespace Go.Proofs.YtdcjimlhaklhfaaDoor
open Go.RowKit
theorem nd_neq (m n : Nd) : ((m.id == n.id) && ((m.parent == n.parent) && ((bs m.name).toList == (bs n.name).toList))) = ndEq m n := by
  unfold ndEq; rw [names_eq]
theorem Tryd.nodeGuard : Tryd.prog.eqGuardType Tryd.prog.depth 110 = false := by kernel_rfl
theorem Tryd.nodeHeld : Tryd.prog.stoodInHeld 110 = false := by kernel_rfl
theorem node_eq_run (m n : Nd) (W : World) : (Op.equalIn 10000 110 (.agg #[.int .i64 m.id, .int .i64 m.parent, .string (bs m.name)]) (.agg #[.int .i64 n.id, .int .i64 n.parent, .string (bs n.name)])).run Tryd.prog W = .ok (ndEq m n) W := by
  rw [run_equalIn_agg W 9999 110 _ _ (by simp [Program.fieldsOf, Tryd.underlying110]) Tryd.nodeHeld]
  simp [Program.fieldsOf, Tryd.underlying110, Op.eqFields, go_sem]
  rw [← nd_neq]
  by_cases h1 : m.id = n.id <;> by_cases h2 : m.parent = n.parent <;> by_cases h3 : (bs m.name).toList = (bs n.name).toList <;> simp [h1, h2, h3]
set_option maxHeartbeats 4000000 in
set_option maxRecDepth 100000 in
theorem homes_any (a b : List Nd) (ao bo : Option Addr) (ca cb : Nat) (w : World) (ha : Row w ao a.length 3 (ndCells a)) (hb : Row w bo b.length 3 (ndCells b)) (hla : a.length ≤ 4000) (hlb : b.length ≤ 4000) :
    Calls Tryd.prog 47 #[.slice ao a.length ca, .slice bo b.length cb] w fun e w' => (∃ ao' cap', e = .returned (.slice ao' (homesR a b).length cap') ∧ Row w' ao' (homesR a b).length 4 (stCells (homesR a b))) ∧ Below w.heap.size w w' := by
  obtain ⟨i0, hi, hz0, hz1, hz2⟩ := info_parts Tryd.infoRStep
  have HA := hide ha
  have HB := hide hb
  clear ha hb
  go_enter Tryd.func47, Tryd.ntmps47
  go_wp2
  go_loopw [5, 6] (fun v i wr => ∃ k : Nat, ∃ out : List St, k ≤ b.length ∧ i = .int .i64 k ∧ wr.ownsRow w.heap.size 115 4 v out.length (stCells out) ∧ Below w.heap.size w wr ∧ Hid (HbInv a b k out)) (fun _ i _ => b.length - (intOf i).toNat)
  case atStart => exact ⟨0, [], Nat.zero_le _, rfl, World.ownsRow_nil _ _ _ _, Below.refl _ _, hide rfl⟩
  case round =>
    obtain ⟨k, out, hk, rfl, hown, hbel, HI⟩ := hrel
    have hnl := hbInv_len (unhide HI) hk
    have hsz := hbel.size
    by_cases hlt : k < b.length
    · obtain ⟨g, hao, hg, c0, c1, c2⟩ := nd_cells (unhide HB) hbel hlt
      have HF := hide (find_any a (b[k]).id ao ca wr ((unhide HA).below hbel) hla)
      rw [hao]
      clear hao
      by_cases hf : findN a (b[k]).id < a.length
      · obtain ⟨q1, q2⟩ := lookR_some hf
        obtain ⟨g2, hao2, hg2, d0, d1, d2⟩ := nd_cells (unhide HA) hbel hf
        rw [q2] at HF
        rw [hao2] at HF ⊢
        clear hao2 q2
        cases hq : ndEq (a[findN a (b[k]).id]) (b[k])
        · have HI2 := hide (hbInv_next (unhide HI) hlt (homeB_else q1 hq))
          have hq3 := (nd_neq (a[findN a (b[k]).id]) (b[k])).trans hq
          clear q1
          generalize hfn : findN a (b[k]).id = fn at *
          clear hfn
          have hfn0 : (0 : Int) ≤ fn := by omega
          have hfn1 : (fn : Int) < a.length := by omega
          generalize a[fn] = m at *
          generalize b[k] = n at *
          have hne := node_eq_run m n
          have hgd := Tryd.nodeGuard
          rw [hq] at hne
          go_wp2_with fail
          refine (unhide HF).mono ?_
          rintro e w' ⟨rfl, rfl⟩
          go_wp2
          go_quiet (fail)
          go_wp2_with (first
            | (at_builtin; (refine wpList_append_own _ rfl _ _ 92 rfl w.heap.size 115 i0 (.agg #[.int .u8 0, .int .i64 0, .int .i64 0, .string ByteArray.empty]) 4 40 Tryd.underlying92 hi hz0 hz1 hz2 rfl (by decide) _ _ _ rfl (own_below hown ((below_drewN (Below.refl _ _) _).alloc (by simp) _)) ⟨w'.heap.size, 0, none⟩ 1 1 [.int .u8 61, .int .i64 n.id, .int .i64 n.parent, .string (bs n.name)] rfl rfl (news_four _ _ _ _ _) (by simp [Value.oneCell']) (by unfold maxLen; omega) (by omega) (by simp; omega) ?_))
            | go_in)
          intro v' w4 hown' hgrow _
          have hb4 : Below w.heap.size w w4 := ((below_drewN hbel _).alloc (by simp; omega) _).grown hgrow (by simp; omega) (own_ge hown)
          have hown2 : w4.ownsRow w.heap.size 115 4 v' (out ++ [(⟨61, n⟩ : St)]).length (stCells (out ++ [(⟨61, n⟩ : St)])) := by rw [stCells_snoc, List.length_append]; exact hown'
          clear hgrow hown hbel hown'
          go_wp2
          go_roundw
          case rel => exact ⟨k + 1, _, by omega, by go_num, hown2, hb4, HI2⟩
          case measure => simp [intOf]; omega
        · have HI2 := hide (hbInv_next (unhide HI) hlt (homeB_same q1 hq))
          rw [List.append_nil] at HI2
          clear q1
          generalize hfn : findN a (b[k]).id = fn at *
          clear hfn
          have hfn0 : (0 : Int) ≤ fn := by omega
          have hfn1 : (fn : Int) < a.length := by omega
          generalize a[fn] = m at *
          generalize b[k] = n at *
          have hne := node_eq_run m n
          have hgd := Tryd.nodeGuard
          rw [hq] at hne
          go_wp2_with fail
          refine (unhide HF).mono ?_
          rintro e w' ⟨rfl, rfl⟩
          go_wp2
          go_quiet (fail)
          go_wp2
          go_roundw
          case rel => exact ⟨k + 1, out, by omega, by go_num, own_below hown (below_drewN (Below.refl _ _) _), below_drewN hbel _, HI2⟩
          case measure => simp [intOf]; omega
      · obtain ⟨q1, q2⟩ := lookR_none hf
        have HI2 := hide (hbInv_next (unhide HI) hlt (homeB_new q1))
        rw [q2] at HF
        clear q1 q2 hf
        generalize b[k] = n at *
        go_wp2_with fail
        refine (unhide HF).mono ?_
        rintro e w' ⟨rfl, rfl⟩
        go_wp2_with (first
          | (at_builtin; (refine wpList_append_own _ rfl _ _ 92 rfl w.heap.size 115 i0 (.agg #[.int .u8 0, .int .i64 0, .int .i64 0, .string ByteArray.empty]) 4 40 Tryd.underlying92 hi hz0 hz1 hz2 rfl (by decide) _ _ _ rfl (own_below hown ((Below.refl _ _).alloc (by simp) _)) ⟨w'.heap.size, 0, none⟩ 1 1 [.int .u8 43, .int .i64 n.id, .int .i64 n.parent, .string (bs n.name)] rfl rfl (news_four _ _ _ _ _) (by simp [Value.oneCell']) (by unfold maxLen; omega) (by omega) (by simp; omega) ?_))
          | go_in)
        intro v' w4 hown' hgrow _
        have hb4 : Below w.heap.size w w4 := (hbel.alloc (by omega) _).grown hgrow (by simp; omega) (own_ge hown)
        have hown2 : w4.ownsRow w.heap.size 115 4 v' (out ++ [(⟨43, n⟩ : St)]).length (stCells (out ++ [(⟨43, n⟩ : St)])) := by rw [stCells_snoc, List.length_append]; exact hown'
        clear hgrow hown hbel hown'
        go_wp2
        go_roundw
        case rel => exact ⟨k + 1, _, by omega, by go_num, hown2, hb4, HI2⟩
        case measure => simp [intOf]; omega
    · have HI2 := hide (hbInv_end (unhide HI) hlt)
      clear HI hk
      go_wp2
      clear hlt
      go_loopw [5, 8] (fun v i wr => ∃ k : Nat, ∃ out : List St, k ≤ a.length ∧ i = .int .i64 k ∧ wr.ownsRow w.heap.size 115 4 v out.length (stCells out) ∧ Below w.heap.size w wr ∧ Hid (HaInv a b k out)) (fun _ i _ => a.length - (intOf i).toNat)
      case atStart => exact ⟨0, out, Nat.zero_le _, rfl, hown, hbel, HI2⟩
      case round =>
        clear HI2 hbel hown hnl hsz
        obtain ⟨k, out, hk, rfl, hown, hbel, HI⟩ := hrel
        have hnl := haInv_len (unhide HI) hk
        have hsz := hbel.size
        by_cases hlt : k < a.length
        · obtain ⟨g, hao, hg, c0, c1, c2⟩ := nd_cells (unhide HA) hbel hlt
          have HF := hide (find_any b (a[k]).id bo cb wr ((unhide HB).below hbel) hlb)
          rw [hao]
          clear hao
          by_cases hf : findN b (a[k]).id < b.length
          · obtain ⟨q1, q2⟩ := lookR_some hf
            have HI2 := hide (haInv_next (unhide HI) hlt (homeA_kept q1))
            rw [List.append_nil] at HI2
            rw [q2] at HF
            clear q1 q2
            generalize findN b (a[k]).id = fn at *
            generalize a[k] = n at *
            go_wp2_with fail
            refine (unhide HF).mono ?_
            rintro e w' ⟨rfl, rfl⟩
            go_wp2
            go_roundw
            case rel => exact ⟨k + 1, out, by omega, by go_num, hown, hbel, HI2⟩
            case measure => simp [intOf]; omega
          · obtain ⟨q1, q2⟩ := lookR_none hf
            have HI2 := hide (haInv_next (unhide HI) hlt (homeA_gone q1))
            rw [q2] at HF
            clear q1 q2 hf
            generalize a[k] = n at *
            go_wp2_with fail
            refine (unhide HF).mono ?_
            rintro e w' ⟨rfl, rfl⟩
            go_wp2_with (first
              | (at_builtin; (refine wpList_append_own _ rfl _ _ 92 rfl w.heap.size 115 i0 (.agg #[.int .u8 0, .int .i64 0, .int .i64 0, .string ByteArray.empty]) 4 40 Tryd.underlying92 hi hz0 hz1 hz2 rfl (by decide) _ _ _ rfl (own_below hown ((Below.refl _ _).alloc (by simp) _)) ⟨w'.heap.size, 0, none⟩ 1 1 [.int .u8 45, .int .i64 n.id, .int .i64 0, .string ⟨#[]⟩] rfl rfl (news_four _ _ _ _ _) (by simp [Value.oneCell']) (by unfold maxLen; omega) (by omega) (by simp; omega) ?_))
              | go_in)
            intro v' w4 hown' hgrow _
            have hb4 : Below w.heap.size w w4 := (hbel.alloc (by omega) _).grown hgrow (by simp; omega) (own_ge hown)
            have hown2 : w4.ownsRow w.heap.size 115 4 v' (out ++ [(⟨45, ⟨n.id, 0, []⟩⟩ : St)]).length (stCells (out ++ [(⟨45, ⟨n.id, 0, []⟩⟩ : St)])) := by rw [stCells_snoc, List.length_append]; exact hown'
            clear hgrow hown hbel hown'
            go_wp2
            go_roundw
            case rel => exact ⟨k + 1, _, by omega, by go_num, hown2, hb4, HI2⟩
            case measure => simp [intOf]; omega
        · have HE := hide (haInv_end (unhide HI) hlt)
          go_wp2
          go_ret
          rw [unhide HE]
          obtain ⟨ao', cap', rfl, hr⟩ := row_of_owns hown
          exact ⟨⟨ao', cap', rfl, hr⟩, hbel⟩
end Go.Proofs.YtdcjimlhaklhfaaDoor
