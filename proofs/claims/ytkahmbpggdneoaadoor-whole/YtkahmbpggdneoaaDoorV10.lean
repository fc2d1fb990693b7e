import Derived.Test.YtkahmbpggdneoaaDoorV9
import Derived.Deep.Cut
namespace Go.Proofs.YtkahmbpggdneoaaDoor
open Go.RowKit
theorem compileE_long {f t : Str} (h : 4000 < f.length ∨ 4000 < t.length) : compileE f t = 1 := by unfold compileE; rw [if_pos h]
theorem compileE_from {f t : Str} (h : ¬ (4000 < f.length ∨ 4000 < t.length)) (h2 : (checkT f).1 ≠ 0) : compileE f t = (checkT f).1 := by unfold compileE; rw [if_neg h, if_pos h2]
theorem compileE_to {f t : Str} (h : ¬ (4000 < f.length ∨ 4000 < t.length)) (h2 : (checkT f).1 = 0) : compileE f t = (checkT t).1 := by unfold compileE; rw [if_neg h, if_neg (fun hh => hh h2)]
set_option maxHeartbeats 4000000 in
set_option maxRecDepth 100000 in
theorem compile_any (s t : ByteArray) (w : World) :
    Calls Tryd.prog 15 #[.string s, .string t] w fun e w' => e = .returned (.tuple #[.string (bs (compileT (sl s) (sl t))), .int .i64 (compileE (sl s) (sl t))]) ∧ Below w.heap.size w w' := by
  by_cases hL : 4000 < s.size ∨ 4000 < t.size
  · have hE := compileE_long (f := sl s) (t := sl t) (by rw [sl_length, sl_length]; exact hL)
    rw [compileT_no (by rw [hE]; decide), hE]
    have hL' : 4000 < s.size ∨ (¬ 4000 < s.size ∧ 4000 < t.size) := by omega
    clear hL hE
    rcases hL' with h | ⟨h, h'⟩
    all_goals
      go_enter Tryd.func15, Tryd.ntmps15
      go_wp2
      go_ret2
      exact ⟨rfl, Below.refl _ _⟩
  · have hLl : ¬ (4000 < (sl s).length ∨ 4000 < (sl t).length) := by rw [sl_length, sl_length]; exact hL
    have h4 : ¬ 4000 < s.size := by omega
    have h5 : ¬ 4000 < t.size := by omega
    have HRS := hide (fun W => read_any s W)
    have HRT := hide (fun W => read_any t W)
    by_cases hC : (checkT (sl s)).1 ≠ 0
    · have hE := compileE_from hLl hC
      rw [compileT_no (by rw [hE]; exact hC), hE]
      have hC' : ((checkT (sl s)).1 != 0) = true := by rw [bne_iff_ne]; exact hC
      clear hE hC hLl hL
      generalize checkT (sl s) = c at *
      generalize readT (sl s) = T at *
      go_enter Tryd.func15, Tryd.ntmps15
      go_wp2_with fail
      refine (unhide HRS _).mono ?_
      rintro e w1 ⟨rfl, hb1⟩
      have HN := hide (treeAt_new w1)
      have HB1 := hide hb1; clear hb1
      go_wp2_with (refine wpList_store_mid (by rfl) 59 (.tmp 6) (.tmp 23) (by rfl) w1.heap.size 0 (treeCells T).toArray (by rfl) (by rfl) (by exact treeAt_there (unhide HN) T) (treeSize' T) (treeOne T) ?_)
      go_ret2
      exact ⟨rfl, below_setCells ((unhide HB1).alloc (unhide HB1).size _) (unhide HB1).size (by have := (unhide HB1).size; simp; omega) _ _⟩
    · have hc0 : (checkT (sl s)).1 = 0 := Classical.not_not.1 hC
      have hTS : readT (sl s) = gather (readNodes (cut (sl s))) := by unfold readT; rw [if_pos hc0]
      have hE := compileE_to hLl hc0
      rw [hc0] at HRS
      by_cases hD : (checkT (sl t)).1 ≠ 0
      · rw [compileT_no (by rw [hE]; exact hD), hE]
        have hD' : ((checkT (sl t)).1 != 0) = true := by rw [bne_iff_ne]; exact hD
        clear hE hC hLl hL hc0 hTS hD
        generalize checkT (sl t) = d at *
        generalize (checkT (sl s)).2 = c2 at *
        generalize readT (sl s) = T at *
        generalize readT (sl t) = U at *
        go_enter Tryd.func15, Tryd.ntmps15
        go_wp2_with fail
        refine (unhide HRS _).mono ?_
        rintro e w1 ⟨rfl, hb1⟩
        have HN := hide (treeAt_new w1)
        have HB1 := hide hb1; clear hb1
        have HB2 : Hid (Below w.heap.size w ((w1.alloc (.cells Tryd.zeroCells59 59)).setCells w1.heap.size 0 (treeCells T))) := hide (below_setCells ((unhide HB1).alloc (unhide HB1).size _) (unhide HB1).size (by have := (unhide HB1).size; simp; omega) _ _)
        go_wp2_with (refine wpList_store_mid (by rfl) 59 (.tmp 6) (.tmp 23) (by rfl) w1.heap.size 0 (treeCells T).toArray (by rfl) (by rfl) (by exact treeAt_there (unhide HN) T) (treeSize' T) (treeOne T) ?_)
        generalize Value.agg (treeCells T).toArray = vT
        refine (unhide HRT _).mono ?_
        rintro e w3 ⟨rfl, hb3⟩
        have HB3 := hide ((unhide HB2).trans (hb3.mono (unhide HB2).size))
        clear hb3
        have HN3 := hide (treeAt_new w3)
        go_wp2_with (refine wpList_store_mid (by rfl) 59 (.tmp 9) (.tmp 32) (by rfl) w3.heap.size 0 (treeCells U).toArray (by rfl) (by rfl) (by exact treeAt_there (unhide HN3) U) (treeSize' U) (treeOne U) ?_)
        go_ret2
        exact ⟨rfl, below_setCells ((unhide HB3).alloc (unhide HB3).size _) (unhide HB3).size (by have := (unhide HB3).size; simp; omega) _ _⟩
      · have hd0 : (checkT (sl t)).1 = 0 := Classical.not_not.1 hD
        have hTT : readT (sl t) = gather (readNodes (cut (sl t))) := by unfold readT; rw [if_pos hd0]
        rw [hd0] at HRT hE
        have hCT : compileT (sl s) (sl t) = scriptText (makeT (readT (sl s)) (readT (sl t))) := by unfold compileT; rw [if_pos hE, hTS, hTT]
        have hO1 : TrOk (readT (sl s)) := by rw [hTS]; exact gather_ok _
        have hO2 : TrOk (readT (sl t)) := by rw [hTT]; exact gather_ok _
        rw [hCT, hE]
        have HMK := hide (fun W => make_any (readT (sl s)) (readT (sl t)) W hO1 hO2)
        have hmo := makeT_ok hO2 hO1
        have HTX := hide (fun ao cap W (h : Row W ao (makeT (readT (sl s)) (readT (sl t))).length 4 (stCells (makeT (readT (sl s)) (readT (sl t))))) => script_any (makeT (readT (sl s)) (readT (sl t))) ao cap W h hmo.1 hmo.2)
        clear hE hC hLl hL hc0 hTS hD hTT hCT hO1 hO2 hmo hd0
        generalize (checkT (sl s)).2 = c2 at *
        generalize (checkT (sl t)).2 = d2 at *
        generalize makeT (readT (sl s)) (readT (sl t)) = M at *
        generalize readT (sl s) = T at *
        generalize readT (sl t) = U at *
        go_enter Tryd.func15, Tryd.ntmps15
        go_wp2_with fail
        refine (unhide HRS _).mono ?_
        rintro e w1 ⟨rfl, hb1⟩
        have HN := hide (treeAt_new w1)
        have HB1 := hide hb1; clear hb1
        have HB2 : Hid (Below w.heap.size w ((w1.alloc (.cells Tryd.zeroCells59 59)).setCells w1.heap.size 0 (treeCells T))) := hide (below_setCells ((unhide HB1).alloc (unhide HB1).size _) (unhide HB1).size (by have := (unhide HB1).size; simp; omega) _ _)
        have HT2 : Hid (TreeAt ext0 ((w1.alloc (.cells Tryd.zeroCells59 59)).setCells w1.heap.size 0 (treeCells T)) w1.heap.size T) := hide (treeAt_stored (unhide HN) T)
        go_wp2_with (refine wpList_store_mid (by rfl) 59 (.tmp 6) (.tmp 23) (by rfl) w1.heap.size 0 (treeCells T).toArray (by rfl) (by rfl) (by exact treeAt_there (unhide HN) T) (treeSize' T) (treeOne T) ?_)
        generalize Value.agg (treeCells T).toArray = vT
        refine (unhide HRT _).mono ?_
        rintro e w3 ⟨rfl, hb3⟩
        have HB3 := hide ((unhide HB2).trans (hb3.mono (unhide HB2).size))
        have HT3 := hide ((unhide HT2).below hb3)
        clear hb3
        have HN3 := hide (treeAt_new w3)
        have hbx := below_setCells ((Below.refl w3.heap.size w3).alloc (Nat.le_refl _) (.cells Tryd.zeroCells59 59)) (g := w3.heap.size) (Nat.le_refl _) (by simp) 0 (treeCells U)
        have HB4 : Hid (Below w.heap.size w ((w3.alloc (.cells Tryd.zeroCells59 59)).setCells w3.heap.size 0 (treeCells U))) := hide ((unhide HB3).trans (hbx.mono (unhide HB3).size))
        have HR1 := hide (treeAt_range ((unhide HT3).below hbx))
        have HR2 := hide (treeAt_range (treeAt_stored (unhide HN3) U))
        clear hbx
        go_upto_region 9 with (refine wpList_store_mid (by rfl) 59 (.tmp 9) (.tmp 32) (by rfl) w3.heap.size 0 (treeCells U).toArray (by rfl) (by rfl) (by exact treeAt_there (unhide HN3) U) (treeSize' U) (treeOne U) ?_)
        generalize Value.agg (treeCells U).toArray = vU
        generalize hW4 : (w3.alloc (.cells Tryd.zeroCells59 59)).setCells w3.heap.size 0 (treeCells U) = w4 at *
        go_wp2_with (first
          | (refine wpList_load_mid (by rfl) 59 (.tmp 6) (by rfl) w1.heap.size 0 (by rfl) (treeCells T) _ (unhide HR1) Tryd.underlying59 (by rfl) (treeSize T) ?_)
          | (refine wpList_load_mid (by rfl) 59 (.tmp 9) (by rfl) w3.heap.size 0 (by rfl) (treeCells U) _ (unhide HR2) Tryd.underlying59 (by rfl) (treeSize U) ?_))
        refine (unhide HMK _).mono ?_
        rintro e w5 ⟨⟨ao, cap, rfl, hrow⟩, hb5⟩
        generalize Value.agg (treeCells T).toArray = vT2
        generalize Value.agg (treeCells U).toArray = vU2
        have HROW := hide hrow
        have HB5 := hide ((unhide HB4).trans (hb5.mono (unhide HB4).size))
        clear hrow hb5 hW4
        go_wp2_with fail
        refine (unhide HTX _ _ _ (unhide HROW)).mono ?_
        rintro e w6 ⟨rfl, hb6⟩
        have HB6 := hide ((unhide HB5).trans (hb6.mono (unhide HB5).size))
        clear hb6
        go_wp2
        go_ret2
        exact ⟨rfl, unhide HB6⟩
end Go.Proofs.YtkahmbpggdneoaaDoor
