import Derived.Test.YtkahmbpggdneoaaGreatDoorR4
import Derived.Deep.Cut
namespace Go.Proofs.YtkahmbpggdneoaaGreatDoor
open Go.RowKit
attribute [local go_sem ↓] Go.wp_at_zero Go.wp_at_succ
def node3 (ps : List Str) : Option Nd :=
  match ps with
  | [a, b, c] => if (number a 1 99).2 && (number b 0 99).2 && isName c (number a 1 99).1 then some ⟨(number a 1 99).1, (number b 0 99).1, c⟩ else none
  | _ => none
theorem readNode_node3 (l : Str) : readNode l = node3 (parts l) := rfl
theorem recNode_node3 (r : Str) : recNode r = node3 (rparts r) := by
  unfold recNode rparts; split
  · rfl
  · rfl
theorem numR_neg {l : Str} {lo hi : Int} (h : (number l lo hi).2 = false) : numR l lo hi = -1 := by unfold numR; rw [h]; rfl
theorem numR_yes {l : Str} {lo hi : Int} (h : (number l lo hi).2 = true) : numR l lo hi = (number l lo hi).1 := by unfold numR; rw [h]; rfl
theorem Tryz.infoRNode : (Tryz.prog.info? 64).map (fun i => (i.zero, i.size, i.bytes)) = some (some (.agg #[.int .i64 0, .int .i64 0, .string ByteArray.empty]), 3, 32) := by kernel_rfl
theorem set3 {W : World} {B : Nat} (x y z : Value) (h0 : (W.cell? ⟨B, 0, none⟩).isSome = true) (h1 : (W.cell? ⟨B, 1, none⟩).isSome = true) (h2 : (W.cell? ⟨B, 2, none⟩).isSome = true) :
    (((W.setCell ⟨B, 0, none⟩ x).setCell ⟨B, 1, none⟩ y).setCell ⟨B, 2, none⟩ z).cell? ⟨B, 0, none⟩ = some x ∧ (((W.setCell ⟨B, 0, none⟩ x).setCell ⟨B, 1, none⟩ y).setCell ⟨B, 2, none⟩ z).cell? ⟨B, 1, none⟩ = some y ∧ (((W.setCell ⟨B, 0, none⟩ x).setCell ⟨B, 1, none⟩ y).setCell ⟨B, 2, none⟩ z).cell? ⟨B, 2, none⟩ = some z := by
  obtain ⟨u0, e0⟩ := Option.isSome_iff_exists.1 h0
  obtain ⟨u1, e1⟩ := Option.isSome_iff_exists.1 h1
  obtain ⟨u2, e2⟩ := Option.isSome_iff_exists.1 h2
  refine ⟨?_, ?_, ?_⟩ <;> simp [go_sem, e0, e1, e2]
theorem lt_kept {W w1 : World} (hb : Below W.heap.size W w1) : ∀ b, b < W.heap.size → b < w1.heap.size := fun _ h => Nat.lt_of_lt_of_le h hb.size
theorem ns_call {W0 : World} {g : Nat} {a b c : Str} (hg : g < W0.heap.size) {W w1 : World} (hb : Below W.heap.size W w1) (h : W.cell? ⟨g, 0, none⟩ = some (.string (bs a)) ∧ W.cell? ⟨g, 1, none⟩ = some (.string (bs b)) ∧ W.cell? ⟨g, 2, none⟩ = some (.string (bs c)) ∧ Below W0.heap.size W0 W) :
    w1.cell? ⟨g, 0, none⟩ = some (.string (bs a)) ∧ w1.cell? ⟨g, 1, none⟩ = some (.string (bs b)) ∧ w1.cell? ⟨g, 2, none⟩ = some (.string (bs c)) ∧ Below W0.heap.size W0 w1 := by
  have hlt : g < W.heap.size := by have := h.2.2.2.size; omega
  exact ⟨by rw [hb.cell (p := ⟨g, 0, none⟩) hlt]; exact h.1, by rw [hb.cell (p := ⟨g, 1, none⟩) hlt]; exact h.2.1, by rw [hb.cell (p := ⟨g, 2, none⟩) hlt]; exact h.2.2.1, h.2.2.2.trans (hb.mono h.2.2.2.size)⟩
theorem ns_alloc {W0 : World} {g : Nat} {a b c : Str} (hg : g < W0.heap.size) {W : World} (h : W.cell? ⟨g, 0, none⟩ = some (.string (bs a)) ∧ W.cell? ⟨g, 1, none⟩ = some (.string (bs b)) ∧ W.cell? ⟨g, 2, none⟩ = some (.string (bs c)) ∧ Below W0.heap.size W0 W) (o : Obj) :
    (W.alloc o).cell? ⟨g, 0, none⟩ = some (.string (bs a)) ∧ (W.alloc o).cell? ⟨g, 1, none⟩ = some (.string (bs b)) ∧ (W.alloc o).cell? ⟨g, 2, none⟩ = some (.string (bs c)) ∧ Below W0.heap.size W0 (W.alloc o) :=
  ns_call hg ((Below.refl _ _).alloc (Nat.le_refl _) o) h
theorem ns_set {W0 : World} {g : Nat} {a b c : Str} (hg : g < W0.heap.size) {W : World} {blk : Nat} (hB : W0.heap.size ≤ blk) (h : W.cell? ⟨g, 0, none⟩ = some (.string (bs a)) ∧ W.cell? ⟨g, 1, none⟩ = some (.string (bs b)) ∧ W.cell? ⟨g, 2, none⟩ = some (.string (bs c)) ∧ Below W0.heap.size W0 W) (o : Nat) (v : Value) :
    (W.setCell ⟨blk, o, none⟩ v).cell? ⟨g, 0, none⟩ = some (.string (bs a)) ∧ (W.setCell ⟨blk, o, none⟩ v).cell? ⟨g, 1, none⟩ = some (.string (bs b)) ∧ (W.setCell ⟨blk, o, none⟩ v).cell? ⟨g, 2, none⟩ = some (.string (bs c)) ∧ Below W0.heap.size W0 (W.setCell ⟨blk, o, none⟩ v) := by
  have hk : ∀ j, (W.setCell ⟨blk, o, none⟩ v).cell? ⟨g, j, none⟩ = W.cell? ⟨g, j, none⟩ := fun j => World.cell?_of_block (heap_setCell_other W ⟨blk, o, none⟩ g v (show g ≠ blk by omega))
  exact ⟨by rw [hk]; exact h.1, by rw [hk]; exact h.2.1, by rw [hk]; exact h.2.2.1, h.2.2.2.setCell hB v⟩
set_option maxHeartbeats 2000000 in
theorem rnode_yes (a b c : Str) (g cap : Nat) (w : World) (hla : (bs a).size ≤ 4000) (hlb : (bs b).size ≤ 4000) (hlc : (bs c).size ≤ 4000) (hg : g < w.heap.size)
    (c0 : w.cell? ⟨g, 0, none⟩ = some (.string (bs a))) (c1 : w.cell? ⟨g, 1, none⟩ = some (.string (bs b))) (c2 : w.cell? ⟨g, 2, none⟩ = some (.string (bs c))) :
    Calls Tryz.prog 64 #[.slice (some ⟨g, 0, none⟩) 3 cap] w fun e w' => (∃ x y z, e = .returned (.tuple #[.agg #[.int .i64 x, .int .i64 y, .string z], .bool (node3 [a, b, c]).isSome]) ∧ (∀ n, node3 [a, b, c] = some n → x = n.id ∧ y = n.parent ∧ z = bs n.name)) ∧ Below w.heap.size w w' := by
  have HN3 : Hid (node3 [a, b, c] = if (number a 1 99).2 && (number b 0 99).2 && isName c (number a 1 99).1 then some ⟨(number a 1 99).1, (number b 0 99).1, c⟩ else none) := hide rfl
  generalize node3 [a, b, c] = R at *
  obtain ⟨W0, hW0⟩ : ∃ W0, w.alloc (Obj.cells #[Value.int IntKind.i64 0, Value.int IntKind.i64 0, Value.string ⟨#[]⟩] 64) = W0 := ⟨_, rfl⟩
  have HW0 := hide hW0
  have hgW : g < W0.heap.size := by rw [← hW0]; simp; omega
  have d0 : W0.cell? ⟨g, 0, none⟩ = some (.string (bs a)) := by rw [← hW0, ((Below.refl w.heap.size w).alloc (Nat.le_refl _) _).cell (p := ⟨g, 0, none⟩) hg]; exact c0
  have d1 : W0.cell? ⟨g, 1, none⟩ = some (.string (bs b)) := by rw [← hW0, ((Below.refl w.heap.size w).alloc (Nat.le_refl _) _).cell (p := ⟨g, 1, none⟩) hg]; exact c1
  have d2 : W0.cell? ⟨g, 2, none⟩ = some (.string (bs c)) := by rw [← hW0, ((Below.refl w.heap.size w).alloc (Nat.le_refl _) _).cell (p := ⟨g, 2, none⟩) hg]; exact c2
  have dB : Below W0.heap.size W0 W0 := Below.refl _ _
  have HD := hide (show W0.drew.cell? ⟨g, 0, none⟩ = some (.string (bs a)) ∧ W0.drew.cell? ⟨g, 1, none⟩ = some (.string (bs b)) ∧ W0.drew.cell? ⟨g, 2, none⟩ = some (.string (bs c)) ∧ Below W0.heap.size W0 W0.drew from ⟨d0, d1, d2, dB.drew⟩)
  clear d0 d1 d2 dB c0 c1 c2
  go_enter Tryz.func64, Tryz.ntmps64
  go_wp2
  try rw [hW0]
  clear hW0
  go_cut [4] from 6 (fun p wx => ∃ B : Nat, p = .pointer (some ⟨B, 0, none⟩) ∧ W0.heap.size ≤ B ∧ B < wx.heap.size ∧ wx.cell? ⟨B, 0, none⟩ = some (.int .i64 (numR a 1 99)) ∧ wx.cell? ⟨B, 1, none⟩ = some (.int .i64 (numR b 0 99)) ∧ wx.cell? ⟨B, 2, none⟩ = some (.string (bs c)) ∧ Below W0.heap.size W0 wx)
  case first =>
    go_region_held3 (fun w' => w'.cell? ⟨g, 0, none⟩ = some (.string (bs a)) ∧ w'.cell? ⟨g, 1, none⟩ = some (.string (bs b)) ∧ w'.cell? ⟨g, 2, none⟩ = some (.string (bs c)) ∧ Below W0.heap.size W0 w') (first | exact unhide HD | assumption | exact ns_alloc hgW (by assumption) _ | exact ns_set hgW (by omega) (ns_set hgW (by omega) (ns_set hgW (by omega) (by assumption) _ _) _ _) _ _) ((go_at_call 74; refine (rnumber_any _ _ _ _ (by first | exact hla | exact hlb) (by omega) (by omega)).mono ?_; rintro e w1 ⟨rfl, hb1⟩; have hs1 := ns_call hgW hb1 (by first | assumption | exact unhide HD); have hzz := hs1.2.2.2.size; obtain ⟨hc1, hf1⟩ := bcell hb1; have hz1 := hb1.size; (try simp at hz1); have hzs := lt_kept hb1))
    all_goals go_wp2_with fail
    all_goals go_meet
    all_goals refine ⟨_, rfl, ?_, ?_, ?_, ?_, ?_, ?_⟩
    all_goals first
      | omega
      | (exact hs1.2.2.2.alloc hzz _)
      | (exact ((hs1.2.2.2.setCell (by first | omega | simp) _).setCell (by first | omega | simp) _).setCell (by first | omega | simp) _)
      | (simp [sl_bs]; done)
      | (simp; omega)
      | (rw [(set3 _ _ _ (by simp [*]) (by simp [*]) (by simp [*])).1, sl_bs])
      | (rw [(set3 _ _ _ (by simp [*]) (by simp [*]) (by simp [*])).2.1, sl_bs])
      | (rw [(set3 _ _ _ (by simp [*]) (by simp [*]) (by simp [*])).2.2])
      | skip
  case rest =>
    obtain ⟨B, hp, hB, hBlt, e0, e1, e2, hbel⟩ := hcut
    subst hp
    have hNlt : w.heap.size < W0.heap.size := by rw [← unhide HW0]; simp
    obtain ⟨hc, hf⟩ := bcell hbel
    have s0 : wc.cell? ⟨w.heap.size, 0, none⟩ = some (.int .i64 0) := by rw [hc _ _ hNlt, ← unhide HW0]; exact news_three (.int .i64 0) (.int .i64 0) (.string ⟨#[]⟩) 64 0 _ rfl
    have s1 : wc.cell? ⟨w.heap.size, 1, none⟩ = some (.int .i64 0) := by rw [hc _ _ hNlt, ← unhide HW0]; exact news_three (.int .i64 0) (.int .i64 0) (.string ⟨#[]⟩) 64 1 _ rfl
    have s2 : wc.cell? ⟨w.heap.size, 2, none⟩ = some (.string ⟨#[]⟩) := by rw [hc _ _ hNlt, ← unhide HW0]; exact news_three (.int .i64 0) (.int .i64 0) (.string ⟨#[]⟩) 64 2 _ rfl
    have sf : ∀ j, wc.frozen? ⟨w.heap.size, j, none⟩ = false := by intro j; rw [hf _ _ hNlt, ← unhide HW0]; exact frozen_of_row _ _ _ _ _ (heap_alloc_new w _)
    have HBW : Hid (Below w.heap.size w wc) := hide (Below.trans (by rw [← unhide HW0]; exact (Below.refl _ _).alloc (Nat.le_refl _) _) (hbel.mono (Nat.le_of_lt hNlt)))
    have hNwc : w.heap.size < wc.heap.size := by have := hbel.size; omega
    have hNB : ¬ w.heap.size = B := by omega
    have na := number_bd a 1 99 (by omega)
    have nb := number_bd b 0 99 (by omega)
    clear hc hf hbel HD hgW HW0 hNlt
    cases hqa : (number a 1 99).2
    · have HNN : Hid (R = none) := by apply hide; rw [unhide HN3, hqa]; simp
      rw [numR_neg hqa] at e0
      clear hqa
      go_wp2
      refine bodyPost_ret (v := .tuple #[.agg #[.int .i64 0, .int .i64 0, .string ByteArray.empty], .bool false]) (by simp [results, Tryz.results64, go_sem, s0, s1, s2]; rfl) rfl ⟨⟨0, 0, ByteArray.empty, by rw [unhide HNN]; rfl, fun n hn => by rw [unhide HNN] at hn; cases hn⟩, ?_⟩
      exact (((unhide HBW).setCell (Nat.le_refl _) _).setCell (Nat.le_refl _) _).setCell (Nat.le_refl _) _
    · cases hqb : (number b 0 99).2
      · have HNN : Hid (R = none) := by apply hide; rw [unhide HN3, hqb]; simp
        rw [numR_neg hqb] at e1
        rw [numR_yes hqa] at e0
        clear hqa hqb
        go_wp2
        refine bodyPost_ret (v := .tuple #[.agg #[.int .i64 0, .int .i64 0, .string ByteArray.empty], .bool false]) (by simp [results, Tryz.results64, go_sem, s0, s1, s2]; rfl) rfl ⟨⟨0, 0, ByteArray.empty, by rw [unhide HNN]; rfl, fun n hn => by rw [unhide HNN] at hn; cases hn⟩, ?_⟩
        exact (((unhide HBW).setCell (Nat.le_refl _) _).setCell (Nat.le_refl _) _).setCell (Nat.le_refl _) _
      · have HR : Hid (R = if isName c (number a 1 99).1 then some ⟨(number a 1 99).1, (number b 0 99).1, c⟩ else none) := by apply hide; rw [unhide HN3, hqa, hqb]; simp
        rw [numR_yes hqb] at e1
        rw [numR_yes hqa] at e0
        have HNM := hide (fun W => named_any (bs c) (number a 1 99).1 W hlc na.1 na.2)
        rw [sl_bs] at HNM
        clear hqa hqb HN3
        generalize (number a 1 99).1 = x at *
        generalize (number b 0 99).1 = y at *
        generalize isName c x = q at *
        obtain ⟨na0, na1⟩ := na
        obtain ⟨nb0, nb1⟩ := nb
        go_wp2_with fail
        refine (unhide HNM _).mono ?_
        rintro e w2 ⟨rfl, hb2⟩
        obtain ⟨hc2, hf2⟩ := bcell hb2
        have f0 : w2.cell? ⟨B, 0, none⟩ = some (.int .i64 x) := (hc2 _ _ hBlt).trans e0
        have f1 : w2.cell? ⟨B, 1, none⟩ = some (.int .i64 y) := (hc2 _ _ hBlt).trans e1
        have f2 : w2.cell? ⟨B, 2, none⟩ = some (.string (bs c)) := (hc2 _ _ hBlt).trans e2
        have g0 := (hc2 _ 0 hNwc).trans s0
        have g1 := (hc2 _ 1 hNwc).trans s1
        have g2 := (hc2 _ 2 hNwc).trans s2
        have gf : ∀ j, w2.frozen? ⟨w.heap.size, j, none⟩ = false := fun j => (hf2 _ j hNwc).trans (sf j)
        have HB2 := hide ((unhide HBW).trans (hb2.mono (Nat.le_of_lt hNwc)))
        clear hc2 hf2 e0 e1 e2 s0 s1 s2 sf hb2
        go_wp2
        refine bodyPost_ret (v := .tuple #[.agg #[.int .i64 x, .int .i64 y, .string (bs c)], .bool q]) (by simp [results, Tryz.results64, go_sem, g0, g1, g2]) rfl ⟨⟨x, y, bs c, ?_, ?_⟩, ?_⟩
        · rw [unhide HR]; cases q <;> rfl
        · intro n hn
          rw [unhide HR] at hn
          split at hn
          · cases hn; exact ⟨rfl, rfl, rfl⟩
          · cases hn
        · exact (((unhide HB2).setCell (Nat.le_refl _) _).setCell (Nat.le_refl _) _).setCell (Nat.le_refl _) _
end Go.Proofs.YtkahmbpggdneoaaGreatDoor
