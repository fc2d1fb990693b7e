import Derived.Test.YtkahmbpggdneoaaDoorW15
namespace Go.Proofs.YtkahmbpggdneoaaDoor
open Go.RowKit
theorem below_grown {w w1 w2 : World} {b : Nat} (h : Below w.heap.size w w1) (hg : w1.grownBy w2 (some b)) (hb : w.heap.size ≤ b) : Below w.heap.size w w2 :=
  h.grown hg h.size (fun k hk => by cases hk; exact hb)
theorem doAllT_ok : ∀ (ss : List St) (t : Tr), TrOk t → (∀ s ∈ ss, StOk s) → TrOk (doAllT ss t) := by
  intro ss
  induction ss with
  | nil => intro t h _; exact h
  | cons s ss ih =>
    intro t h hs
    unfold doAllT
    split
    · exact ih _ (stepT_ok h (hs s (by simp))) (fun x hx => hs x (by simp [hx]))
    · exact h
theorem ret_sii {a : Str} {n : Nat} {e : Int} {r : Str × Nat × Int} (h : r = (a, n, e)) : Ending.returned (.tuple #[.string (bs a), .int .i64 n, .int .i64 e]) = .returned (.tuple #[.string (bs r.1), .int .i64 r.2.1, .int .i64 r.2.2]) := by rw [h]
theorem applyT_long {l sc : Str} (h : 4000 < l.length ∨ 4000 < sc.length) : applyT l sc = ([], 0, 1) := by unfold applyT; rw [if_pos h]
theorem applyT_check {l sc : Str} (h : ¬ (4000 < l.length ∨ 4000 < sc.length)) (h2 : (checkT l).1 ≠ 0) : applyT l sc = ([], (checkT l).2, (checkT l).1) := by unfold applyT; rw [if_neg h, if_pos h2]
theorem applyT_step {l sc : Str} (h : ¬ (4000 < l.length ∨ 4000 < sc.length)) (h2 : ¬ (checkT l).1 ≠ 0) (h3 : (readSteps (cut sc)).length < (cut sc).length) : applyT l sc = ([], (readSteps (cut sc)).length, 7) := by unfold applyT; rw [if_neg h, if_neg h2, if_pos h3]
theorem applyT_do {l sc : Str} (h : ¬ (4000 < l.length ∨ 4000 < sc.length)) (h2 : ¬ (checkT l).1 ≠ 0) (h3 : ¬ (readSteps (cut sc)).length < (cut sc).length) (h4 : (doAllE (readSteps (cut sc)) (gather (readNodes (cut l))) 0).1 ≠ 0) : applyT l sc = ([], (doAllE (readSteps (cut sc)) (gather (readNodes (cut l))) 0).2, (doAllE (readSteps (cut sc)) (gather (readNodes (cut l))) 0).1) := by unfold applyT; rw [if_neg h, if_neg h2, if_neg h3, if_pos h4]
theorem applyT_ok {l sc : Str} (h : ¬ (4000 < l.length ∨ 4000 < sc.length)) (h2 : ¬ (checkT l).1 ≠ 0) (h3 : ¬ (readSteps (cut sc)).length < (cut sc).length) (h4 : ¬ (doAllE (readSteps (cut sc)) (gather (readNodes (cut l))) 0).1 ≠ 0) : applyT l sc = (textT (doAllT (readSteps (cut sc)) (gather (readNodes (cut l)))), 0, 0) := by unfold applyT; rw [if_neg h, if_neg h2, if_neg h3, if_neg h4]
set_option maxHeartbeats 2000000 in
theorem apply_any (s sc : ByteArray) (w : World) :
    Calls Tryd.prog 9 #[.string s, .string sc] w fun e w' => e = .returned (.tuple #[.string (bs (applyT (sl s) (sl sc)).1), .int .i64 (applyT (sl s) (sl sc)).2.1, .int .i64 (applyT (sl s) (sl sc)).2.2]) ∧ Below w.heap.size w w' := by
  by_cases hL : 4000 < s.size ∨ 4000 < sc.size
  · have HA := hide (applyT_long (l := sl s) (sc := sl sc) (by rw [sl_length, sl_length]; exact hL))
    generalize applyT (sl s) (sl sc) = A at *
    have hL' : 4000 < s.size ∨ (¬ 4000 < s.size ∧ 4000 < sc.size) := by omega
    clear hL
    rcases hL' with h | ⟨h, h'⟩
    all_goals
      go_enter Tryd.func9, Tryd.ntmps9
      go_wp2
      go_ret3
      exact ⟨ret_sii (unhide HA), Below.refl _ _⟩
  · have hLl : ¬ (4000 < (sl s).length ∨ 4000 < (sl sc).length) := by rw [sl_length, sl_length]; exact hL
    have h4 : ¬ 4000 < s.size := by omega
    have h5 : ¬ 4000 < sc.size := by omega
    have HRD := hide (fun W => read_any s W)
    by_cases hC : (checkT (sl s)).1 ≠ 0
    · have HA := hide (applyT_check hLl hC)
      have hC' : ((checkT (sl s)).1 != 0) = true := by rw [bne_iff_ne]; exact hC
      generalize applyT (sl s) (sl sc) = A at *
      generalize checkT (sl s) = c at *
      generalize readT (sl s) = T at *
      clear hC hL hLl
      go_enter Tryd.func9, Tryd.ntmps9
      go_wp2_with fail
      refine (unhide HRD _).mono ?_
      rintro e w1 ⟨rfl, hb1⟩
      have HN := hide (treeAt_new w1)
      have HB1 := hide hb1; clear hb1
      go_wp2_with (refine wpList_store_mid (by rfl) 59 (.tmp 7) (.tmp 23) (by rfl) w1.heap.size 0 (treeCells T).toArray (by rfl) (by rfl) (by exact treeAt_there (unhide HN) T) (treeSize' T) (treeOne T) ?_)
      go_ret3
      exact ⟨ret_sii (unhide HA), below_setCells ((unhide HB1).alloc (unhide HB1).size _) (unhide HB1).size (by have := (unhide HB1).size; simp; omega) _ _⟩
    · have hc0 : (checkT (sl s)).1 = 0 := Classical.not_not.1 hC
      have hTG : readT (sl s) = gather (readNodes (cut (sl s))) := by unfold readT; rw [if_pos hc0]
      have hOK := gather_ok (cut (sl s))
      rw [hc0, hTG] at HRD
      have HSR := hide (fun W => stepsRead_any sc W (by omega))
      have HSO := hide (readSteps_ok (cut (sl sc)))
      have hsl := readSteps_length (cut (sl sc))
      have hcl : (cut (sl sc)).length ≤ 4000 := by have := cut_length_le (sl sc); rw [sl_length] at this; omega
      by_cases hS : (readSteps (cut (sl sc))).length < (cut (sl sc)).length
      · have HA := hide (applyT_step hLl hC hS)
        have hd : decide ((readSteps (cut (sl sc))).length = (cut (sl sc)).length) = false := decide_eq_false (by omega)
        rw [hd] at HSR
        generalize applyT (sl s) (sl sc) = A at *
        generalize gather (readNodes (cut (sl s))) = T at *
        generalize (checkT (sl s)).2 = c2 at *
        generalize readSteps (cut (sl sc)) = ss at *
        clear hC hL hLl hc0 hTG hd
        go_enter Tryd.func9, Tryd.ntmps9
        go_wp2_with fail
        refine (unhide HRD _).mono ?_
        rintro e w1 ⟨rfl, hb1⟩
        have HN := hide (treeAt_new w1)
        have HB1 := hide hb1; clear hb1
        have HB2 : Hid (Below w.heap.size w ((w1.alloc (.cells Tryd.zeroCells59 59)).setCells w1.heap.size 0 (treeCells T))) := hide (below_setCells ((unhide HB1).alloc (unhide HB1).size _) (unhide HB1).size (by have := (unhide HB1).size; simp; omega) _ _)
        go_wp2_with (refine wpList_store_mid (by rfl) 59 (.tmp 7) (.tmp 23) (by rfl) w1.heap.size 0 (treeCells T).toArray (by rfl) (by rfl) (by exact treeAt_there (unhide HN) T) (treeSize' T) (treeOne T) ?_)
        refine (unhide HSR _).mono ?_
        rintro e w3 ⟨⟨ao, cap, rfl, hrow, hge⟩, hb3⟩
        have HB3 := hide ((unhide HB2).trans (hb3.mono (unhide HB2).size))
        clear hrow hge hb3
        go_wp2
        go_ret3
        exact ⟨ret_sii (unhide HA), unhide HB3⟩
      · have hd : decide ((readSteps (cut (sl sc))).length = (cut (sl sc)).length) = true := decide_eq_true (by omega)
        rw [hd] at HSR
        have HDA := hide (fun b ao cap W h1 h2 h3 => doAll_any (x := ext0) (gather (readNodes (cut (sl s)))) b (readSteps (cut (sl sc))) ao cap W hOK h1 h2 h3 (unhide HSO) (by omega))
        have HTO := hide (doAllT_ok (readSteps (cut (sl sc))) _ hOK (unhide HSO))
        have HTX := hide (fun b W h => text_any (x := ext0) (doAllT (readSteps (cut (sl sc))) (gather (readNodes (cut (sl s))))) b W (unhide HTO) h)
        by_cases hE : (doAllE (readSteps (cut (sl sc))) (gather (readNodes (cut (sl s)))) 0).1 ≠ 0
        · have HA := hide (applyT_do hLl hC hS hE)
          have hE' : ((doAllE (readSteps (cut (sl sc))) (gather (readNodes (cut (sl s)))) 0).1 != 0) = true := by rw [bne_iff_ne]; exact hE
          generalize applyT (sl s) (sl sc) = A at *
          generalize doAllE (readSteps (cut (sl sc))) (gather (readNodes (cut (sl s)))) 0 = E at *
          generalize doAllT (readSteps (cut (sl sc))) (gather (readNodes (cut (sl s)))) = T2 at *
          generalize gather (readNodes (cut (sl s))) = T at *
          generalize (checkT (sl s)).2 = c2 at *
          generalize readSteps (cut (sl sc)) = ss at *
          clear hC hL hLl hc0 hTG hd hE hS
          go_enter Tryd.func9, Tryd.ntmps9
          go_wp2_with fail
          refine (unhide HRD _).mono ?_
          rintro e w1 ⟨rfl, hb1⟩
          have HN := hide (treeAt_new w1)
          have HB1 := hide hb1; clear hb1
          have HB2 : Hid (Below w.heap.size w ((w1.alloc (.cells Tryd.zeroCells59 59)).setCells w1.heap.size 0 (treeCells T))) := hide (below_setCells ((unhide HB1).alloc (unhide HB1).size _) (unhide HB1).size (by have := (unhide HB1).size; simp; omega) _ _)
          have HT2 : Hid (TreeAt ext0 ((w1.alloc (.cells Tryd.zeroCells59 59)).setCells w1.heap.size 0 (treeCells T)) w1.heap.size T) := hide (treeAt_stored (unhide HN) T)
          go_wp2_with (refine wpList_store_mid (by rfl) 59 (.tmp 7) (.tmp 23) (by rfl) w1.heap.size 0 (treeCells T).toArray (by rfl) (by rfl) (by exact treeAt_there (unhide HN) T) (treeSize' T) (treeOne T) ?_)
          refine (unhide HSR _).mono ?_
          rintro e w3 ⟨⟨ao, cap, rfl, hrow, hge⟩, hb3⟩
          have HB3 := hide ((unhide HB2).trans (hb3.mono (unhide HB2).size))
          have HT3 := hide ((unhide HT2).below hb3)
          have HR3 := hide hrow
          have HNE : Hid (∀ g, ao = some ⟨g, 0, none⟩ → g ≠ w1.heap.size) := hide (fun g hg => by have h1 := hge g hg; have h2 := (unhide HT2).lt; omega)
          clear hrow hge hb3
          go_wp2_with fail
          refine (unhide HDA _ _ _ _ (unhide HT3) (unhide HR3) (unhide HNE)).mono ?_
          rintro e w4 ⟨rfl, hT4, hg4⟩
          have HB4 := hide (below_grown (unhide HB3) hg4 (unhide HB1).size)
          clear hT4 hg4
          go_wp2
          go_ret3
          exact ⟨ret_sii (unhide HA), unhide HB4⟩
        · have HA := hide (applyT_ok hLl hC hS hE)
          have hE' : ((doAllE (readSteps (cut (sl sc))) (gather (readNodes (cut (sl s)))) 0).1 != 0) = false := by rw [bne_eq_false_iff_eq]; exact Classical.not_not.1 hE
          generalize applyT (sl s) (sl sc) = A at *
          generalize doAllE (readSteps (cut (sl sc))) (gather (readNodes (cut (sl s)))) 0 = E at *
          generalize doAllT (readSteps (cut (sl sc))) (gather (readNodes (cut (sl s)))) = T2 at *
          generalize gather (readNodes (cut (sl s))) = T at *
          generalize (checkT (sl s)).2 = c2 at *
          generalize readSteps (cut (sl sc)) = ss at *
          clear hC hL hLl hc0 hTG hd hE hS
          go_enter Tryd.func9, Tryd.ntmps9
          go_wp2_with fail
          refine (unhide HRD _).mono ?_
          rintro e w1 ⟨rfl, hb1⟩
          have HN := hide (treeAt_new w1)
          have HB1 := hide hb1; clear hb1
          have HB2 : Hid (Below w.heap.size w ((w1.alloc (.cells Tryd.zeroCells59 59)).setCells w1.heap.size 0 (treeCells T))) := hide (below_setCells ((unhide HB1).alloc (unhide HB1).size _) (unhide HB1).size (by have := (unhide HB1).size; simp; omega) _ _)
          have HT2 : Hid (TreeAt ext0 ((w1.alloc (.cells Tryd.zeroCells59 59)).setCells w1.heap.size 0 (treeCells T)) w1.heap.size T) := hide (treeAt_stored (unhide HN) T)
          go_wp2_with (refine wpList_store_mid (by rfl) 59 (.tmp 7) (.tmp 23) (by rfl) w1.heap.size 0 (treeCells T).toArray (by rfl) (by rfl) (by exact treeAt_there (unhide HN) T) (treeSize' T) (treeOne T) ?_)
          refine (unhide HSR _).mono ?_
          rintro e w3 ⟨⟨ao, cap, rfl, hrow, hge⟩, hb3⟩
          have HB3 := hide ((unhide HB2).trans (hb3.mono (unhide HB2).size))
          have HT3 := hide ((unhide HT2).below hb3)
          have HR3 := hide hrow
          have HNE : Hid (∀ g, ao = some ⟨g, 0, none⟩ → g ≠ w1.heap.size) := hide (fun g hg => by have h1 := hge g hg; have h2 := (unhide HT2).lt; omega)
          clear hrow hge hb3
          go_wp2_with fail
          refine (unhide HDA _ _ _ _ (unhide HT3) (unhide HR3) (unhide HNE)).mono ?_
          rintro e w4 ⟨rfl, hT4, hg4⟩
          have HT4 := hide hT4
          have HB4 := hide (below_grown (unhide HB3) hg4 (unhide HB1).size)
          clear hT4 hg4
          go_wp2_with fail
          refine (unhide HTX _ _ (unhide HT4)).mono ?_
          rintro e w5 ⟨rfl, hb5⟩
          have HB5 := hide ((unhide HB4).trans (hb5.mono (unhide HB4).size))
          clear hb5
          go_wp2
          go_ret3
          exact ⟨ret_sii (unhide HA), unhide HB5⟩
end Go.Proofs.YtkahmbpggdneoaaDoor
