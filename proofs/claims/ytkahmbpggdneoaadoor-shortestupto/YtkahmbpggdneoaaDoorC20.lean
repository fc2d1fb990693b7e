import Derived.Test.YtkahmbpggdneoaaDoorC19
namespace Go.Proofs.YtkahmbpggdneoaaDoor
open Go.RowKit
theorem gt_no {a b : Nat} (h : a ≤ b) : decide ((b : Int) < (a : Int)) = false := by simp; omega
set_option maxHeartbeats 8000000 in
set_option maxRecDepth 100000 in
theorem shortest_law (ao : Option Addr) (la ca : Nat) (sc : ByteArray) (w : World) (ha : IntsAt w ao la) (hla : la ≤ 140737488355328) (hl : sc.size ≤ 1048576) :
    Calls Tryd.prog 8 #[.slice ao la ca, .string sc] w fun e w' => e = .returned (.bool true) ∧ Below w.heap.size w w' := by
  have HGA := hide (grown_any ao la ca w ha hla)
  clear ha
  go_enter Tryd.func8, Tryd.ntmps8
  go_wp2_with fail
  refine (unhide HGA).mono ?_
  rintro e w1 ⟨⟨a, rfl, hva⟩, hb1⟩
  have HB1 := hide hb1
  clear hb1 HGA
  have HA0 := hide (fun W => apply_any (bs (textT a)) (bs []) W)
  rw [sl_bs, sl_bs, apply_empty, if_pos (by rw [(check_text hva).1])] at HA0
  simp only at HA0
  have hnil : bs [] = ⟨#[]⟩ := rfl
  rw [hnil] at HA0
  have HED := hide (fun W => edited_any a hva sc W hl)
  have e1 : ((bs (textT a)).toList == (bs (textT a)).toList) = true := by simp
  go_wp2_with fail
  refine (unhide HA0 _).mono ?_
  rintro e w2 ⟨rfl, hb2⟩
  have HB2 := hide ((unhide HB1).trans (hb2.mono (unhide HB1).size))
  clear hb2
  go_wp2_with fail
  refine (unhide HED _).mono ?_
  rintro e w3 ⟨⟨u, b, C, M, D, A, rfl, hT, hE, hC, hM, hD⟩, hb3⟩
  have HB3 := hide ((unhide HB2).trans (hb3.mono (unhide HB2).size))
  have hvu := hE.v
  have hseg := makeT_seg hva hvu
  obtain ⟨n1, n2, n3, n4⟩ := seg_bounds hvu.ok hseg
  have n5 := seg_twice hvu.ok hseg
  have hadd := total_add a u
  have q1 := hE.c
  have q2 := hE.d
  have q3 := hE.m
  have HC := hide (fun W => compile_any (bs (textT a)) (bs (textT u)) W)
  rw [sl_bs, sl_bs, compileE_valid hva hvu] at HC
  have HA1 := hide (fun W => apply_any (bs (textT a)) (bs (compileT (textT a) (textT u))) W)
  rw [sl_bs, sl_bs, apply_compile (compileE_valid hva hvu)] at HA1
  simp only at HA1
  rw [compileT_valid hva hvu] at HC HA1
  have HCO := hide (fun W => counted_any (makeT a u) W (fun s hs => (seg_can hseg hvu.ok s hs).1) (make_text_len hva hvu) (make_len hva hvu))
  have k43 : kK 43 (makeT a u) = cntK 43 (makeT a u) := rfl
  have k45 : kK 45 (makeT a u) = cntK 45 (makeT a u) := rfl
  have k61 : kK 61 (makeT a u) = cntK 61 (makeT a u) := rfl
  have kpk : pkC (makeT a u) = parkCnt (makeT a u) := rfl
  rw [k43] at n1
  rw [k45] at n2
  rw [k61, kpk] at n3
  rw [k61] at n5
  have hml := make_len hva hvu
  have b1 := cntK_le 43 (makeT a u)
  have b2 := cntK_le 61 (makeT a u)
  have b3 := cntK_le 45 (makeT a u)
  have HT := hide hT
  clear hb3 hT hE hvu hseg hva n4 k43 k45 k61 kpk HED HA0 hnil e1
  have e2 : ((bs (textT u)).toList == (bs (textT u)).toList) = true := by simp
  generalize cntK 43 (makeT a u) = c1 at *
  generalize cntK 61 (makeT a u) = c2 at *
  generalize cntK 45 (makeT a u) = c3 at *
  generalize parkCnt (makeT a u) = pk at *
  generalize scriptText (makeT a u) = st at *
  generalize total (fun i => fC a u i + fM a u i) = tcm at *
  generalize total (fC a u) = tc at *
  generalize total (fD a u) = td at *
  generalize total (fM a u) = tm at *
  generalize textT u = U at *
  generalize textT a = T at *
  go_wp2_with fail
  refine (unhide HC _).mono ?_
  rintro e w4 ⟨rfl, hb4⟩
  have HB4 := hide ((unhide HB3).trans (hb4.mono (unhide HB3).size))
  have HT4 : Hid (TallyAt w4 b C M D A) := by apply hide; unfold TallyAt; rw [hb4.block b (unhide HT).lt]; exact unhide HT
  clear hb4
  go_wp2_with fail
  refine (unhide HA1 _).mono ?_
  rintro e w5 ⟨rfl, hb5⟩
  have HB5 := hide ((unhide HB4).trans (hb5.mono (unhide HB4).size))
  have HT5 : Hid (TallyAt w5 b C M D A) := by apply hide; unfold TallyAt; rw [hb5.block b (unhide HT4).lt]; exact unhide HT4
  clear hb5
  go_wp2_with fail
  refine (unhide HCO _).mono ?_
  rintro e w6 ⟨⟨b6, a', rfl, hT6, hpk, ha'⟩, hb6⟩
  have HB6 := hide ((unhide HB5).trans (hb6.mono (unhide HB5).size))
  have hT56 : TallyAt w6 b C M D A := by unfold TallyAt; rw [hb6.block b (unhide HT5).lt]; exact unhide HT5
  obtain ⟨x0, x1, x2, x3, _⟩ := hT6.cells
  obtain ⟨y0, y1, y2, y3, _⟩ := hT56.cells
  have g1 := gt_no (show c1 ≤ C by omega)
  have g1n : decide (C < c1) = false := by simp; omega
  have g2n : decide (D < c3) = false := by simp; omega
  have g2 := gt_no (show c3 ≤ D by omega)
  have g3 : decide ((c2 : Int) - (a' : Int) ≤ (M : Int) + (C : Int) - (c1 : Int)) = true := by simp; omega
  have g4 : decide ((c2 : Int) ≤ 2 * ((M : Int) + (C : Int) - (c1 : Int))) = true := by simp; omega
  clear hb6 hT6 hT56 hadd
  go_wp2
  go_quiet (fail)
  go_wp2
  go_quiet (fail)
  go_wp2
  go_quiet (fail)
  go_wp2
  go_ret
  exact ⟨rfl, below_drewN (below_drewN (below_drewN (unhide HB6) _) _) _⟩
end Go.Proofs.YtkahmbpggdneoaaDoor
