import Derived.Test.YtkahmbpggdneoaaDoorM5
import Derived.Deep.Cut
import Derived.Test.YtkahmbpggdneoaaDoorM2
namespace Go.Proofs.YtkahmbpggdneoaaDoor
open Go.RowKit
attribute [local go_sem ↓] Go.wp_at_zero Go.wp_at_succ
def node3 (ps : List Str) : Option Nd :=
  match ps with
  | [a, b, c] => if (number a 1 99).2 && (number b 0 99).2 && isName c (number a 1 99).1 then some ⟨(number a 1 99).1, (number b 0 99).1, c⟩ else none
  | _ => none
theorem readNode_node3 (l : Str) : readNode l = node3 (parts l) := rfl
theorem recNode_node3 (r : Str) : recNode r = node3 (rparts r) := by
  unfold recNode rparts; split
  · rfl
  · rfl
theorem numR_neg {l : Str} {lo hi : Int} (h : (number l lo hi).2 = false) : numR l lo hi = -1 := by unfold numR; rw [h]; rfl
theorem numR_yes {l : Str} {lo hi : Int} (h : (number l lo hi).2 = true) : numR l lo hi = (number l lo hi).1 := by unfold numR; rw [h]; rfl
theorem Tryd.infoRNode : (Tryd.prog.info? 110).map (fun i => (i.zero, i.size, i.bytes)) = some (some (.agg #[.int .i64 0, .int .i64 0, .string ByteArray.empty]), 3, 32) := by kernel_rfl
theorem set3 {W : World} {B : Nat} (x y z : Value) (h0 : (W.cell? ⟨B, 0, none⟩).isSome = true) (h1 : (W.cell? ⟨B, 1, none⟩).isSome = true) (h2 : (W.cell? ⟨B, 2, none⟩).isSome = true) :
    (((W.setCell ⟨B, 0, none⟩ x).setCell ⟨B, 1, none⟩ y).setCell ⟨B, 2, none⟩ z).cell? ⟨B, 0, none⟩ = some x ∧ (((W.setCell ⟨B, 0, none⟩ x).setCell ⟨B, 1, none⟩ y).setCell ⟨B, 2, none⟩ z).cell? ⟨B, 1, none⟩ = some y ∧ (((W.setCell ⟨B, 0, none⟩ x).setCell ⟨B, 1, none⟩ y).setCell ⟨B, 2, none⟩ z).cell? ⟨B, 2, none⟩ = some z := by
  obtain ⟨u0, e0⟩ := Option.isSome_iff_exists.1 h0
  obtain ⟨u1, e1⟩ := Option.isSome_iff_exists.1 h1
  obtain ⟨u2, e2⟩ := Option.isSome_iff_exists.1 h2
  refine ⟨?_, ?_, ?_⟩ <;> simp [go_sem, e0, e1, e2]
theorem lt_kept {W w1 : World} (hb : Below W.heap.size W w1) : ∀ b, b < W.heap.size → b < w1.heap.size := fun _ h => Nat.lt_of_lt_of_le h hb.size
theorem ns_call {W0 : World} {g : Nat} {a b c : Str} (hg : g < W0.heap.size) {W w1 : World} (hb : Below W.heap.size W w1) (h : W.cell? ⟨g, 0, none⟩ = some (.string (bs a)) ∧ W.cell? ⟨g, 1, none⟩ = some (.string (bs b)) ∧ W.cell? ⟨g, 2, none⟩ = some (.string (bs c)) ∧ Below W0.heap.size W0 W) :
    w1.cell? ⟨g, 0, none⟩ = some (.string (bs a)) ∧ w1.cell? ⟨g, 1, none⟩ = some (.string (bs b)) ∧ w1.cell? ⟨g, 2, none⟩ = some (.string (bs c)) ∧ Below W0.heap.size W0 w1 := by
  have hlt : g < W.heap.size := by have := h.2.2.2.size; omega
  exact ⟨by rw [hb.cell (p := ⟨g, 0, none⟩) hlt]; exact h.1, by rw [hb.cell (p := ⟨g, 1, none⟩) hlt]; exact h.2.1, by rw [hb.cell (p := ⟨g, 2, none⟩) hlt]; exact h.2.2.1, h.2.2.2.trans (hb.mono h.2.2.2.size)⟩
theorem ns_alloc {W0 : World} {g : Nat} {a b c : Str} (hg : g < W0.heap.size) {W : World} (h : W.cell? ⟨g, 0, none⟩ = some (.string (bs a)) ∧ W.cell? ⟨g, 1, none⟩ = some (.string (bs b)) ∧ W.cell? ⟨g, 2, none⟩ = some (.string (bs c)) ∧ Below W0.heap.size W0 W) (o : Obj) :
    (W.alloc o).cell? ⟨g, 0, none⟩ = some (.string (bs a)) ∧ (W.alloc o).cell? ⟨g, 1, none⟩ = some (.string (bs b)) ∧ (W.alloc o).cell? ⟨g, 2, none⟩ = some (.string (bs c)) ∧ Below W0.heap.size W0 (W.alloc o) :=
  ns_call hg ((Below.refl _ _).alloc (Nat.le_refl _) o) h
theorem ns_set {W0 : World} {g : Nat} {a b c : Str} (hg : g < W0.heap.size) {W : World} {blk : Nat} (hB : W0.heap.size ≤ blk) (h : W.cell? ⟨g, 0, none⟩ = some (.string (bs a)) ∧ W.cell? ⟨g, 1, none⟩ = some (.string (bs b)) ∧ W.cell? ⟨g, 2, none⟩ = some (.string (bs c)) ∧ Below W0.heap.size W0 W) (o : Nat) (v : Value) :
    (W.setCell ⟨blk, o, none⟩ v).cell? ⟨g, 0, none⟩ = some (.string (bs a)) ∧ (W.setCell ⟨blk, o, none⟩ v).cell? ⟨g, 1, none⟩ = some (.string (bs b)) ∧ (W.setCell ⟨blk, o, none⟩ v).cell? ⟨g, 2, none⟩ = some (.string (bs c)) ∧ Below W0.heap.size W0 (W.setCell ⟨blk, o, none⟩ v) := by
  have hk : ∀ j, (W.setCell ⟨blk, o, none⟩ v).cell? ⟨g, j, none⟩ = W.cell? ⟨g, j, none⟩ := fun j => World.cell?_of_block (heap_setCell_other W ⟨blk, o, none⟩ g v (show g ≠ blk by omega))
  exact ⟨by rw [hk]; exact h.1, by rw [hk]; exact h.2.1, by rw [hk]; exact h.2.2.1, h.2.2.2.setCell hB v⟩
set_option maxHeartbeats 2000000 in
theorem rnode_yes (a b c : Str) (g cap : Nat) (w : World) (hla : (bs a).size ≤ 4000) (hlb : (bs b).size ≤ 4000) (hlc : (bs c).size ≤ 4000) (hg : g < w.heap.size)
    (c0 : w.cell? ⟨g, 0, none⟩ = some (.string (bs a))) (c1 : w.cell? ⟨g, 1, none⟩ = some (.string (bs b))) (c2 : w.cell? ⟨g, 2, none⟩ = some (.string (bs c))) :
    Calls Tryd.prog 67 #[.slice (some ⟨g, 0, none⟩) 3 cap] w fun e w' => (∃ x y z, e = .returned (.tuple #[.agg #[.int .i64 x, .int .i64 y, .string z], .bool (node3 [a, b, c]).isSome]) ∧ (∀ n, node3 [a, b, c] = some n → x = n.id ∧ y = n.parent ∧ z = bs n.name)) ∧ Below w.heap.size w w' := by
  have HN3 : Hid (node3 [a, b, c] = if (number a 1 99).2 && (number b 0 99).2 && isName c (number a 1 99).1 then some ⟨(number a 1 99).1, (number b 0 99).1, c⟩ else none) := hide rfl
  generalize node3 [a, b, c] = R at *
  obtain ⟨W0, hW0⟩ : ∃ W0, w.alloc (Obj.cells #[Value.int IntKind.i64 0, Value.int IntKind.i64 0, Value.string ⟨#[]⟩] 110) = W0 := ⟨_, rfl⟩
  have HW0 := hide hW0
  have hgW : g < W0.heap.size := by rw [← hW0]; simp; omega
  have d0 : W0.cell? ⟨g, 0, none⟩ = some (.string (bs a)) := by rw [← hW0, ((Below.refl w.heap.size w).alloc (Nat.le_refl _) _).cell (p := ⟨g, 0, none⟩) hg]; exact c0
  have d1 : W0.cell? ⟨g, 1, none⟩ = some (.string (bs b)) := by rw [← hW0, ((Below.refl w.heap.size w).alloc (Nat.le_refl _) _).cell (p := ⟨g, 1, none⟩) hg]; exact c1
  have d2 : W0.cell? ⟨g, 2, none⟩ = some (.string (bs c)) := by rw [← hW0, ((Below.refl w.heap.size w).alloc (Nat.le_refl _) _).cell (p := ⟨g, 2, none⟩) hg]; exact c2
  have dB : Below W0.heap.size W0 W0 := Below.refl _ _
  have HD := hide (show W0.drew.cell? ⟨g, 0, none⟩ = some (.string (bs a)) ∧ W0.drew.cell? ⟨g, 1, none⟩ = some (.string (bs b)) ∧ W0.drew.cell? ⟨g, 2, none⟩ = some (.string (bs c)) ∧ Below W0.heap.size W0 W0.drew from ⟨d0, d1, d2, dB.drew⟩)
  clear d0 d1 d2 dB c0 c1 c2
  go_enter Tryd.func67, Tryd.ntmps67
  go_wp2
  try rw [hW0]
  clear hW0
  go_cut [4] from 6 (fun p wx => ∃ B : Nat, p = .pointer (some ⟨B, 0, none⟩) ∧ W0.heap.size ≤ B ∧ B < wx.heap.size ∧ wx.cell? ⟨B, 0, none⟩ = some (.int .i64 (numR a 1 99)) ∧ wx.cell? ⟨B, 1, none⟩ = some (.int .i64 (numR b 0 99)) ∧ wx.cell? ⟨B, 2, none⟩ = some (.string (bs c)) ∧ Below W0.heap.size W0 wx)
  case first =>
    go_region_held3 (fun w' => w'.cell? ⟨g, 0, none⟩ = some (.string (bs a)) ∧ w'.cell? ⟨g, 1, none⟩ = some (.string (bs b)) ∧ w'.cell? ⟨g, 2, none⟩ = some (.string (bs c)) ∧ Below W0.heap.size W0 w') (first | exact unhide HD | assumption | exact ns_alloc hgW (by assumption) _ | exact ns_set hgW (by omega) (ns_set hgW (by omega) (ns_set hgW (by omega) (by assumption) _ _) _ _) _ _) ((go_at_call 85; refine (rnumber_any _ _ _ _ (by first | exact hla | exact hlb) (by omega) (by omega)).mono ?_; rintro e w1 ⟨rfl, hb1⟩; have hs1 := ns_call hgW hb1 (by first | assumption | exact unhide HD); have hzz := hs1.2.2.2.size; obtain ⟨hc1, hf1⟩ := bcell hb1; have hz1 := hb1.size; (try simp at hz1); have hzs := lt_kept hb1))
    all_goals go_wp2_with fail
    all_goals go_meet
    all_goals refine ⟨_, rfl, ?_, ?_, ?_, ?_, ?_, ?_⟩
    all_goals first
      | omega
      | (exact hs1.2.2.2.alloc hzz _)
      | (exact ((hs1.2.2.2.setCell (by first | omega | simp) _).setCell (by first | omega | simp) _).setCell (by first | omega | simp) _)
      | (simp [sl_bs]; done)
      | (simp; omega)
      | (rw [(set3 _ _ _ (by simp [*]) (by simp [*]) (by simp [*])).1, sl_bs])
      | (rw [(set3 _ _ _ (by simp [*]) (by simp [*]) (by simp [*])).2.1, sl_bs])
      | (rw [(set3 _ _ _ (by simp [*]) (by simp [*]) (by simp [*])).2.2])
      | skip
  case rest =>
    obtain ⟨B, hp, hB, hBlt, e0, e1, e2, hbel⟩ := hcut
    subst hp
    have hNlt : w.heap.size < W0.heap.size := by rw [← unhide HW0]; simp
    obtain ⟨hc, hf⟩ := bcell hbel
    have s0 : wc.cell? ⟨w.heap.size, 0, none⟩ = some (.int .i64 0) := by rw [hc _ _ hNlt, ← unhide HW0]; exact news_three (.int .i64 0) (.int .i64 0) (.string ⟨#[]⟩) 110 0 _ rfl
    have s1 : wc.cell? ⟨w.heap.size, 1, none⟩ = some (.int .i64 0) := by rw [hc _ _ hNlt, ← unhide HW0]; exact news_three (.int .i64 0) (.int .i64 0) (.string ⟨#[]⟩) 110 1 _ rfl
    have s2 : wc.cell? ⟨w.heap.size, 2, none⟩ = some (.string ⟨#[]⟩) := by rw [hc _ _ hNlt, ← unhide HW0]; exact news_three (.int .i64 0) (.int .i64 0) (.string ⟨#[]⟩) 110 2 _ rfl
    have sf : ∀ j, wc.frozen? ⟨w.heap.size, j, none⟩ = false := by intro j; rw [hf _ _ hNlt, ← unhide HW0]; exact frozen_of_row _ _ _ _ _ (heap_alloc_new w _)
    have HBW : Hid (Below w.heap.size w wc) := hide (Below.trans (by rw [← unhide HW0]; exact (Below.refl _ _).alloc (Nat.le_refl _) _) (hbel.mono (Nat.le_of_lt hNlt)))
    have hNwc : w.heap.size < wc.heap.size := by have := hbel.size; omega
    have hNB : ¬ w.heap.size = B := by omega
    have na := number_bd a 1 99 (by omega)
    have nb := number_bd b 0 99 (by omega)
    clear hc hf hbel HD hgW HW0 hNlt
    cases hqa : (number a 1 99).2
    · have HNN : Hid (R = none) := by apply hide; rw [unhide HN3, hqa]; simp
      rw [numR_neg hqa] at e0
      clear hqa
      go_wp2
      refine bodyPost_ret (v := .tuple #[.agg #[.int .i64 0, .int .i64 0, .string ByteArray.empty], .bool false]) (by simp [results, Tryd.results67, go_sem, s0, s1, s2]; rfl) rfl ⟨⟨0, 0, ByteArray.empty, by rw [unhide HNN]; rfl, fun n hn => by rw [unhide HNN] at hn; cases hn⟩, ?_⟩
      exact (((unhide HBW).setCell (Nat.le_refl _) _).setCell (Nat.le_refl _) _).setCell (Nat.le_refl _) _
    · cases hqb : (number b 0 99).2
      · have HNN : Hid (R = none) := by apply hide; rw [unhide HN3, hqb]; simp
        rw [numR_neg hqb] at e1
        rw [numR_yes hqa] at e0
        clear hqa hqb
        go_wp2
        refine bodyPost_ret (v := .tuple #[.agg #[.int .i64 0, .int .i64 0, .string ByteArray.empty], .bool false]) (by simp [results, Tryd.results67, go_sem, s0, s1, s2]; rfl) rfl ⟨⟨0, 0, ByteArray.empty, by rw [unhide HNN]; rfl, fun n hn => by rw [unhide HNN] at hn; cases hn⟩, ?_⟩
        exact (((unhide HBW).setCell (Nat.le_refl _) _).setCell (Nat.le_refl _) _).setCell (Nat.le_refl _) _
      · have HR : Hid (R = if isName c (number a 1 99).1 then some ⟨(number a 1 99).1, (number b 0 99).1, c⟩ else none) := by apply hide; rw [unhide HN3, hqa, hqb]; simp
        rw [numR_yes hqb] at e1
        rw [numR_yes hqa] at e0
        have HNM := hide (fun W => named_any (bs c) (number a 1 99).1 W hlc na.1 na.2)
        rw [sl_bs] at HNM
        clear hqa hqb HN3
        generalize (number a 1 99).1 = x at *
        generalize (number b 0 99).1 = y at *
        generalize isName c x = q at *
        obtain ⟨na0, na1⟩ := na
        obtain ⟨nb0, nb1⟩ := nb
        go_wp2_with fail
        refine (unhide HNM _).mono ?_
        rintro e w2 ⟨rfl, hb2⟩
        obtain ⟨hc2, hf2⟩ := bcell hb2
        have f0 : w2.cell? ⟨B, 0, none⟩ = some (.int .i64 x) := (hc2 _ _ hBlt).trans e0
        have f1 : w2.cell? ⟨B, 1, none⟩ = some (.int .i64 y) := (hc2 _ _ hBlt).trans e1
        have f2 : w2.cell? ⟨B, 2, none⟩ = some (.string (bs c)) := (hc2 _ _ hBlt).trans e2
        have g0 := (hc2 _ 0 hNwc).trans s0
        have g1 := (hc2 _ 1 hNwc).trans s1
        have g2 := (hc2 _ 2 hNwc).trans s2
        have gf : ∀ j, w2.frozen? ⟨w.heap.size, j, none⟩ = false := fun j => (hf2 _ j hNwc).trans (sf j)
        have HB2 := hide ((unhide HBW).trans (hb2.mono (Nat.le_of_lt hNwc)))
        clear hc2 hf2 e0 e1 e2 s0 s1 s2 sf hb2
        go_wp2
        refine bodyPost_ret (v := .tuple #[.agg #[.int .i64 x, .int .i64 y, .string (bs c)], .bool q]) (by simp [results, Tryd.results67, go_sem, g0, g1, g2]) rfl ⟨⟨x, y, bs c, ?_, ?_⟩, ?_⟩
        · rw [unhide HR]; cases q <;> rfl
        · intro n hn
          rw [unhide HR] at hn
          split at hn
          · cases hn; exact ⟨rfl, rfl, rfl⟩
          · cases hn
        · exact (((unhide HB2).setCell (Nat.le_refl _) _).setCell (Nat.le_refl _) _).setCell (Nat.le_refl _) _
end Go.Proofs.YtkahmbpggdneoaaDoor

namespace Go.Proofs.YtkahmbpggdneoaaDoor
open Go.RowKit
theorem row_of_owns2 {w : World} {base : Nat} {e : TypeId} {size : Nat} {v : Value} {n : Nat} {xs : List Value} (h : w.ownsRow base e size v n xs) : ∃ ao cap, v = .slice ao n cap ∧ Row w ao n size xs ∧ n ≤ cap := by
  obtain ⟨ao, cap, hv, hr⟩ := row_of_owns h
  refine ⟨ao, cap, hv, hr, ?_⟩
  rcases h.2 with ⟨h1, h2⟩ | ⟨g, cap', cur, h1, _, _, h3, _⟩
  · omega
  · rw [hv] at h1; injection h1 with _ _ h4; omega
theorem node3_other {ps : List Str} (h : ps.length ≠ 3) : node3 ps = none := by
  unfold node3
  split
  · simp at h
  · rfl
set_option maxHeartbeats 1000000 in
theorem rnode_no (ao : Option Addr) (n cap : Nat) (w : World) (h3 : n ≠ 3) :
    Calls Tryd.prog 67 #[.slice ao n cap] w fun e w' => e = .returned (.tuple #[.agg #[.int .i64 0, .int .i64 0, .string ByteArray.empty], .bool false]) ∧ Below w.heap.size w w' := by
  have hne : ((n : Int) != 3) = true := by rw [bne_iff_ne]; omega
  go_enter Tryd.func67, Tryd.ntmps67
  go_wp2
  refine bodyPost_ret (v := .tuple #[.agg #[.int .i64 0, .int .i64 0, .string ByteArray.empty], .bool false]) (by simp [results, Tryd.results67, go_sem]; rfl) rfl ⟨rfl, ?_⟩
  exact (Below.refl _ _).alloc (Nat.le_refl _) _
theorem rnode_any (ps : List Str) (ao : Option Addr) (cap : Nat) (w : World) (hrow : Row w ao ps.length 1 (ps.map strV)) (hl : ∀ p ∈ ps, p.length ≤ 4000) :
    Calls Tryd.prog 67 #[.slice ao ps.length cap] w fun e w' => (∃ x y z, e = .returned (.tuple #[.agg #[.int .i64 x, .int .i64 y, .string z], .bool (node3 ps).isSome]) ∧ (∀ n, node3 ps = some n → x = n.id ∧ y = n.parent ∧ z = bs n.name)) ∧ Below w.heap.size w w' := by
  by_cases h3 : ps.length = 3
  · obtain ⟨a, b, c, rfl⟩ := len3 h3
    obtain ⟨g, rfl, hg, hc⟩ := hrow.2 (by simp)
    exact rnode_yes a b c g cap w (by rw [bs_size]; exact hl a (by simp)) (by rw [bs_size]; exact hl b (by simp)) (by rw [bs_size]; exact hl c (by simp)) hg (hc 0 _ rfl) (hc 1 _ rfl) (hc 2 _ rfl)
  · refine (rnode_no ao ps.length cap w h3).mono ?_
    rintro e w' ⟨rfl, hb⟩
    exact ⟨⟨0, 0, _, by rw [node3_other h3]; rfl, fun n hn => by rw [node3_other h3] at hn; cases hn⟩, hb⟩
theorem rparts_len (r : Str) (h : r.length ≤ 4000) : ∀ p ∈ rparts r, p.length ≤ 4000 := by
  intro p hp
  unfold rparts at hp
  split at hp
  · have := part_len _ p hp; have := bodyS_len r; omega
  · simp at hp
theorem rd_short {rs : List Str} {k : Nat} {ns : List Nd} (h : RdInv rs k ns) (hk : k < rs.length) (hn : recNode rs[k] = none) : (readNodes rs).length = k ∧ (readNodes rs).length < rs.length := by
  rw [rdInv_no h hk hn]; exact ⟨h.1, by rw [h.1]; exact hk⟩
theorem rd_full {rs : List Str} {k : Nat} {ns : List Nd} (h : RdInv rs k ns) (hk : ¬ k < rs.length) : ¬ (readNodes rs).length < rs.length ∧ readNodes rs = ns ∧ ns.length = k := by
  refine ⟨?_, rdInv_end h hk, h.1⟩
  rw [rdInv_end h hk, h.1]; exact hk
set_option maxHeartbeats 2000000 in
theorem nodes_any (s : ByteArray) (w : World) (hs : s.size ≤ 4000) :
    Calls Tryd.prog 46 #[.string s] w fun e w' => (((readNodes (cut (sl s))).length < (cut (sl s)).length ∧ e = .returned (.tuple #[.slice none 0 0, .int .i64 (readNodes (cut (sl s))).length])) ∨ (¬ (readNodes (cut (sl s))).length < (cut (sl s)).length ∧ ∃ ao cap, e = .returned (.tuple #[.slice ao (readNodes (cut (sl s))).length cap, .int .i64 (-1)]) ∧ Row w' ao (readNodes (cut (sl s))).length 3 (ndCells (readNodes (cut (sl s)))) ∧ (readNodes (cut (sl s))).length ≤ cap)) ∧ Below w.heap.size w w' := by
  obtain ⟨i0, hi, hz0, hz1, hz2⟩ := info_parts Tryd.infoRNode
  have HC := hide (fun W => rcut_any s W hs)
  have hrl : (cut (sl s)).length ≤ 4000 := by have := cut_length_le (sl s); rw [sl_length] at this; omega
  have HRM : Hid (∀ r ∈ cut (sl s), r.length ≤ 4000) := hide (fun r hr => by have := cut_mem_len (sl s) r hr; rw [sl_length] at this; omega)
  generalize cut (sl s) = rs at *
  go_enter Tryd.func46, Tryd.ntmps46
  go_wp2_with fail
  refine (unhide HC _).mono ?_
  rintro e w1 ⟨ao, cap, rfl, hrow, hb1⟩
  have HROW := hide hrow
  have HB1 := hide hb1
  clear hrow hb1
  go_wp2
  go_loopw [4, 6] (fun v i wr => ∃ k : Nat, ∃ ns : List Nd, k ≤ rs.length ∧ i = .int .i64 k ∧ wr.ownsRow w1.heap.size 110 3 v k (ndCells ns) ∧ Below w1.heap.size w1 wr ∧ Hid (RdInv rs k ns)) (fun _ i _ => rs.length - (intOf i).toNat)
  case atStart => exact ⟨0, [], Nat.zero_le _, rfl, World.ownsRow_nil _ _ _ _, Below.refl _ _, hide ⟨rfl, rfl⟩⟩
  case round =>
    obtain ⟨k, ns, hk, rfl, hown, hbel, HI⟩ := hrel
    by_cases hlt : k < rs.length
    · obtain ⟨g, hao, hg, hcell⟩ := str_cell (unhide HROW) hbel hlt
      rw [hao]
      have hrl2 : (rs[k]).length ≤ 4000 := unhide HRM _ (List.getElem_mem hlt)
      have HP := hide (fun W => rparts_any (bs rs[k]) W (by rw [bs_size]; exact hrl2))
      rw [sl_bs] at HP
      have HND := hide (fun ao cap W (hh : Row W ao (rparts rs[k]).length 1 ((rparts rs[k]).map strV)) => rnode_any (rparts rs[k]) ao cap W hh (rparts_len _ hrl2))
      have HREC := hide (recNode_node3 rs[k])
      have hsz := hbel.size
      clear hao
      generalize hr : rs[k] = r at *
      have HR := hide hr; clear hr
      generalize rparts r = ps at *
      go_wp2_with fail
      refine (unhide HP _).mono ?_
      rintro e w2 ⟨ao2, cap2, rfl, hrow2, hb2⟩
      have HROW2 := hide hrow2; clear hrow2
      go_wp2_with fail
      refine (unhide HND _ _ _ (unhide HROW2)).mono ?_
      rintro e w3 ⟨⟨x, y, z, rfl, hxyz⟩, hb3⟩
      have hb23 := hb2.trans (hb3.mono hb2.size)
      have HOWN := hide (own_below hown hb23)
      have HB3 := hide (hbel.trans (hb23.mono hsz))
      have hz3 : wr.heap.size ≤ w3.heap.size := hb23.size
      have HX := hide hxyz
      clear hxyz hb2 hb3 hb23 HP HND HROW2
      generalize node3 ps = R at *
      cases R with
      | none =>
        have HS := hide (rd_short (unhide HI) hlt (by rw [unhide HR, unhide HREC]))
        go_wp2
        go_ret2
        refine ⟨.inl ⟨(unhide HS).2, by rw [(unhide HS).1]; rfl⟩, ?_⟩
        exact (unhide HB1).trans (((unhide HB3).alloc (by omega) _).mono (unhide HB1).size)
      | some nd =>
        have HN := hide (rdInv_yes (unhide HI) hlt (n := nd) (by rw [unhide HR, unhide HREC]))
        obtain ⟨rfl, rfl, rfl⟩ := unhide HX nd rfl
        clear HX
        go_wp2_with (first
          | (at_builtin; (refine wpList_append_own _ rfl _ _ 89 rfl w1.heap.size 110 i0 (.agg #[.int .i64 0, .int .i64 0, .string ByteArray.empty]) 3 32 Tryd.underlying89 hi hz0 hz1 hz2 rfl (by decide) _ _ _ rfl (own_below (unhide HOWN) (((Below.refl _ _).alloc (Nat.le_refl _) _).alloc (by simp) _)) ⟨w3.heap.size + 1, 0, none⟩ 1 1 [.int .i64 nd.id, .int .i64 nd.parent, .string (bs nd.name)] rfl rfl (news_three' _ _ _ _ _) (by simp [Value.oneCell']) (by unfold maxLen; omega) (by omega) (by have := hbel.size; simp; omega) ?_))
          | go_in)
        intro v' w4 hown' hgrow _
        have hb4 : Below w1.heap.size w1 w4 := ((((unhide HB3).alloc (by omega) _).alloc (by simp; omega) _)).grown hgrow (by simp; omega) (own_ge hown)
        have hown2 : w4.ownsRow w1.heap.size 110 3 v' (k + 1) (ndCells (ns ++ [nd])) := by rw [ndCells_snoc]; exact hown'
        clear hgrow hown hbel hown'
        go_wp2
        go_roundw
        case rel => exact ⟨k + 1, _, by omega, by go_num, hown2, hb4, HN⟩
        case measure => simp [intOf]; omega
    · have HF := hide (rd_full (unhide HI) hlt)
      go_wp2
      go_ret2
      obtain ⟨f1, f2, f3⟩ := unhide HF
      obtain ⟨ao', cap', rfl, hr, hcap⟩ := row_of_owns2 hown
      rw [f2]
      rw [← f3] at hr
      refine ⟨.inr ⟨by rw [← f2]; exact f1, ao', cap', by rw [f3]; rfl, hr, by rw [f3]; exact hcap⟩, (unhide HB1).trans (hbel.mono (unhide HB1).size)⟩
end Go.Proofs.YtkahmbpggdneoaaDoor

namespace Go.Proofs.YtkahmbpggdneoaaDoor
open Go.RowKit
def idIs (ns : List Nd) (id : Int) (i : Nat) : Bool := (ndAt ns i).id == id
def findN (ns : List Nd) (id : Int) : Nat := scan (idIs ns id) 0 ns.length
def findR (ns : List Nd) (id : Int) : Int := if findN ns id < ns.length then (findN ns id : Int) else -1
def lookR (ns : List Nd) (id : Int) : Option Nd := if findN ns id < ns.length then some (ndAt ns (findN ns id)) else none
def folderR (ns : List Nd) (id : Int) : Bool := id == 0 || (id % 2 == 0 && (lookR ns id).isSome)
def belowF (look : Int → Option Nd) : Nat → Int → Int → Bool
  | 0, _, _ => false
  | f + 1, id, top => match look id with
    | none => false
    | some n => if n.parent = top then true else belowF look f n.parent top
def belowR (ns : List Nd) (id top : Int) : Bool := belowF (lookR ns) (ns.length + 1) id top
def placeIs (ns : List Nd) (parent : Int) (name : Str) (i : Nat) : Bool := ((ndAt ns i).parent == parent) && ((ndAt ns i).name == name)
def takenN (ns : List Nd) (parent : Int) (name : Str) : Nat := scan (placeIs ns parent name) 0 ns.length
def takenR (ns : List Nd) (parent : Int) (name : Str) : Int := if takenN ns parent name < ns.length then (ndAt ns (takenN ns parent name)).id else 0
/-- the rules behind the form -/
def rOrphan (ns : List Nd) (i : Nat) : Bool := !folderR ns (ndAt ns i).parent
def rLooped (ns : List Nd) (i : Nat) : Bool := !belowR ns (ndAt ns i).id 0
def rTwice (ns : List Nd) (i : Nat) : Bool := takenR (ns.take i) (ndAt ns i).parent (ndAt ns i).name != 0
def wrongR (ns : List Nd) : Int × Nat :=
  if scan (unordered ns) 1 ns.length < ns.length then (3, scan (unordered ns) 1 ns.length)
  else if scan (rOrphan ns) 0 ns.length < ns.length then (4, scan (rOrphan ns) 0 ns.length)
  else if scan (rLooped ns) 0 ns.length < ns.length then (5, scan (rLooped ns) 0 ns.length)
  else if scan (rTwice ns) 0 ns.length < ns.length then (6, scan (rTwice ns) 0 ns.length)
  else (0, 0)
def checkR (l : Str) : Int × Nat :=
  if 4000 < l.length then (1, 0) else
  if (readNodes (cut l)).length < (cut l).length then (2, (readNodes (cut l)).length) else
  wrongR (readNodes (cut l))
theorem lookR_none {ns : List Nd} {id : Int} (h : ¬ findN ns id < ns.length) : lookR ns id = none ∧ findR ns id = -1 := by
  unfold lookR findR; rw [if_neg h, if_neg h]; exact ⟨rfl, rfl⟩
theorem lookR_some {ns : List Nd} {id : Int} (h : findN ns id < ns.length) : lookR ns id = some ns[findN ns id] ∧ findR ns id = findN ns id := by
  unfold lookR findR; rw [if_pos h, if_pos h, ndAt_get _ _ h]; exact ⟨rfl, rfl⟩
end Go.Proofs.YtkahmbpggdneoaaDoor

namespace Go.Proofs.YtkahmbpggdneoaaDoor
open Go.RowKit
set_option maxHeartbeats 1000000 in
theorem find_any (ns : List Nd) (id : Int) (ao : Option Addr) (cap : Nat) (w : World) (hrow : Row w ao ns.length 3 (ndCells ns)) (hl : ns.length ≤ 4000) :
    Calls Tryd.prog 68 #[.slice ao ns.length cap, .int .i64 id] w fun e w' => e = .returned (.int .i64 (findR ns id)) ∧ w' = w := by
  have HROW := hide hrow; clear hrow
  have HB := hide (Below.refl w.heap.size w)
  go_enter Tryd.func68, Tryd.ntmps68
  go_wp2
  go_loop [5] (fun i => ∃ k : Nat, k ≤ ns.length ∧ i = .int .i64 k ∧ Hid (NoIn (idIs ns id) 0 k)) (fun i => ns.length - (intOf i).toNat)
  case atStart => exact ⟨0, Nat.zero_le _, rfl, hide (fun j h1 h2 => by omega)⟩
  case round =>
    obtain ⟨k, hk, rfl, HN⟩ := hrel
    by_cases hlt : k < ns.length
    · obtain ⟨g, hao, hg, c0, _, _⟩ := nd_cells (unhide HROW) (unhide HB) hlt
      rw [hao]
      have HU : Hid (idIs ns id k = ((ns[k]).id == id)) := by apply hide; unfold idIs; rw [ndAt_get _ _ hlt]
      clear hao
      cases hq : ((ns[k]).id == id)
      · have HN2 := hide (noIn_succ (unhide HN) (by rw [unhide HU]; exact hq))
        go_wp2
        go_round
        case rel => exact ⟨k + 1, by omega, by go_num, HN2⟩
        case measure => simp [intOf]; omega
      · have HS : Hid (findR ns id = k) := by
          apply hide
          have e : findN ns id = k := scan_hit (by omega) hlt (by rw [unhide HU]; exact hq) (unhide HN)
          rw [(lookR_some (by rw [e]; exact hlt)).2, e]
        go_wp2
        go_ret
        exact ⟨ret_int (unhide HS).symm, rfl⟩
    · have HS : Hid (findR ns id = -1) := by
        apply hide
        have e : findN ns id = ns.length := scan_none (fun j h1 h2 => unhide HN j h1 (by omega))
        exact (lookR_none (by rw [e]; omega)).2
      go_wp2
      go_ret
      exact ⟨ret_int (unhide HS).symm, rfl⟩
theorem findR_bd (ns : List Nd) (id : Int) : -1 ≤ findR ns id ∧ findR ns id < (ns.length : Int) + 1 ∧ ((lookR ns id).isSome = decide (0 ≤ findR ns id)) := by
  by_cases h : findN ns id < ns.length
  · obtain ⟨h1, h2⟩ := lookR_some h
    rw [h1, h2]; refine ⟨by omega, by omega, by simp⟩
  · obtain ⟨h1, h2⟩ := lookR_none h
    rw [h1, h2]; refine ⟨by omega, by omega, by simp⟩
set_option maxHeartbeats 1000000 in
theorem folder_any (ns : List Nd) (id : Int) (ao : Option Addr) (cap : Nat) (w : World) (hrow : Row w ao ns.length 3 (ndCells ns)) (hl : ns.length ≤ 4000) (h0 : 0 ≤ id) (h1 : id ≤ 1000) :
    Calls Tryd.prog 82 #[.slice ao ns.length cap, .int .i64 id] w fun e w' => e = .returned (.bool (folderR ns id)) ∧ w' = w := by
  have HF := hide (find_any ns id ao cap w hrow hl)
  have hbd := findR_bd ns id
  have HP : Hid (folderR ns id = (id == 0 || (id % 2 == 0 && decide (0 ≤ findR ns id)))) := by apply hide; unfold folderR; rw [hbd.2.2]
  obtain ⟨b1, b2, _⟩ := hbd
  clear hrow
  generalize findR ns id = f at *
  by_cases hz : id = 0
  · subst hz
    go_enter Tryd.func82, Tryd.ntmps82
    go_wp2_with fail
    refine (unhide HF).mono ?_
    rintro e w' ⟨rfl, rfl⟩
    go_wp2
    go_ret
    exact ⟨ret_bool (by rw [unhide HP]; rfl), rfl⟩
  · have hz' : (id == 0) = false := by simpa using hz
    by_cases he : id % 2 = 0
    · have he' : (id % 2 == 0) = true := by simpa using he
      have HE := hide he'
      have HZ := hide hz'
      clear he
      go_enter Tryd.func82, Tryd.ntmps82
      go_wp2_with fail
      refine (unhide HF).mono ?_
      rintro e w' ⟨rfl, rfl⟩
      go_wp2
      go_ret
      exact ⟨ret_bool (by rw [unhide HP, unhide HZ, unhide HE]; rfl), rfl⟩
    · have he' : (id % 2 == 0) = false := by simpa using he
      have HE := hide he'
      have HZ := hide hz'
      clear he
      go_enter Tryd.func82, Tryd.ntmps82
      go_wp2_with fail
      refine (unhide HF).mono ?_
      rintro e w' ⟨rfl, rfl⟩
      go_wp2
      go_ret
      exact ⟨ret_bool (by rw [unhide HP, unhide HZ, unhide HE]; rfl), rfl⟩
theorem belowF_none {look : Int → Option Nd} {f : Nat} {id top : Int} (h : look id = none) : belowF look (f + 1) id top = false := by simp [belowF, h]
theorem belowF_hit {look : Int → Option Nd} {f : Nat} {id : Int} {n : Nd} (h : look id = some n) : belowF look (f + 1) id n.parent = true := by simp [belowF, h]
theorem belowF_on {look : Int → Option Nd} {f : Nat} {id top : Int} {n : Nd} (h : look id = some n) (hne : ¬ n.parent = top) : belowF look (f + 1) id top = belowF look f n.parent top := by simp [belowF, h, hne]
set_option maxHeartbeats 1000000 in
theorem below_any (ns : List Nd) (id top : Int) (ao : Option Addr) (cap : Nat) (w : World) (hrow : Row w ao ns.length 3 (ndCells ns)) (hl : ns.length ≤ 4000) :
    Calls Tryd.prog 83 #[.slice ao ns.length cap, .int .i64 id, .int .i64 top] w fun e w' => e = .returned (.bool (belowR ns id top)) ∧ w' = w := by
  have HROW := hide hrow; clear hrow
  have HB := hide (Below.refl w.heap.size w)
  have HM : Hid (belowR ns id top = belowF (lookR ns) (ns.length + 1) id top) := hide rfl
  generalize belowR ns id top = M at *
  go_enter Tryd.func83, Tryd.ntmps83
  go_wp2
  go_loop [7, 8] (fun d i => ∃ k : Nat, ∃ m : Int, k ≤ ns.length + 1 ∧ i = .int .i64 k ∧ d = .int .i64 m ∧ Hid (M = belowF (lookR ns) (ns.length + 1 - k) m top)) (fun _ i => ns.length + 2 - (intOf i).toNat)
  case atStart => exact ⟨0, id, by omega, rfl, rfl, HM⟩
  case round =>
    obtain ⟨k, m, hk, rfl, rfl, HI⟩ := hrel
    have HF := hide (find_any ns m ao cap w (unhide HROW) hl)
    by_cases hle : k ≤ ns.length
    · have HI2 : Hid (M = belowF (lookR ns) ((ns.length - k) + 1) m top) := by apply hide; rw [show ns.length - k + 1 = ns.length + 1 - k by omega]; exact unhide HI
      clear HI HM
      by_cases hf : findN ns m < ns.length
      · obtain ⟨q1, q2⟩ := lookR_some hf
        obtain ⟨g, hao, hg, _, c1, _⟩ := nd_cells (unhide HROW) (unhide HB) hf
        rw [q2] at HF
        rw [hao] at HF ⊢
        have HQ := hide q1
        clear q1 q2 hao
        generalize hfn : findN ns m = fn at *
        have HFN := hide hfn
        clear hfn
        have hfn0 : (0 : Int) ≤ fn := by omega
        have hfn1 : (fn : Int) < ns.length := by omega
        generalize ns[fn] = nd at *
        by_cases hp : nd.parent = top
        · have HT : Hid (M = true) := by apply hide; rw [unhide HI2, ← hp]; exact belowF_hit (unhide HQ)
          have hp' : (nd.parent == top) = true := by simpa using hp
          clear hp
          go_wp2_with fail
          refine (unhide HF).mono ?_
          rintro e w' ⟨rfl, rfl⟩
          go_wp2
          go_ret
          exact ⟨ret_bool (unhide HT).symm, rfl⟩
        · have HT : Hid (M = belowF (lookR ns) (ns.length - k) nd.parent top) := by apply hide; rw [unhide HI2]; exact belowF_on (unhide HQ) hp
          have hp' : (nd.parent == top) = false := by simpa using hp
          clear hp
          go_wp2_with fail
          refine (unhide HF).mono ?_
          rintro e w' ⟨rfl, rfl⟩
          go_wp2
          go_round
          case rel => exact ⟨k + 1, nd.parent, by omega, by go_num, rfl, by apply hide; rw [show ns.length + 1 - (k + 1) = ns.length - k by omega]; exact unhide HT⟩
          case measure => simp [intOf]; omega
      · obtain ⟨q1, q2⟩ := lookR_none hf
        have HT : Hid (M = false) := by apply hide; rw [unhide HI2]; exact belowF_none q1
        rw [q2] at HF
        clear q1 q2 hf
        go_wp2_with fail
        refine (unhide HF).mono ?_
        rintro e w' ⟨rfl, rfl⟩
        go_wp2
        go_ret
        exact ⟨ret_bool (unhide HT).symm, rfl⟩
    · have HT : Hid (M = false) := by apply hide; rw [unhide HI, show ns.length + 1 - k = 0 by omega]; rfl
      go_wp2
      go_ret
      exact ⟨ret_bool (unhide HT).symm, rfl⟩
set_option maxHeartbeats 1000000 in
theorem taken_any (ns : List Nd) (parent : Int) (name : Str) (ao : Option Addr) (cap : Nat) (w : World) (hrow : Row w ao ns.length 3 (ndCells ns)) (hl : ns.length ≤ 4000) :
    Calls Tryd.prog 84 #[.slice ao ns.length cap, .int .i64 parent, .string (bs name)] w fun e w' => e = .returned (.int .i64 (takenR ns parent name)) ∧ w' = w := by
  have HROW := hide hrow; clear hrow
  have HB := hide (Below.refl w.heap.size w)
  go_enter Tryd.func84, Tryd.ntmps84
  go_wp2
  go_loop [7] (fun i => ∃ k : Nat, k ≤ ns.length ∧ i = .int .i64 k ∧ Hid (NoIn (placeIs ns parent name) 0 k)) (fun i => ns.length - (intOf i).toNat)
  case atStart => exact ⟨0, Nat.zero_le _, rfl, hide (fun j h1 h2 => by omega)⟩
  case round =>
    obtain ⟨k, hk, rfl, HN⟩ := hrel
    by_cases hlt : k < ns.length
    · obtain ⟨g, hao, hg, c0, c1, c2⟩ := nd_cells (unhide HROW) (unhide HB) hlt
      rw [hao]
      have HU : Hid (placeIs ns parent name k = (((ns[k]).parent == parent) && ((ns[k]).name == name))) := by apply hide; unfold placeIs; rw [ndAt_get _ _ hlt]
      clear hao
      cases hq : ((ns[k]).parent == parent)
      · have HN2 := hide (noIn_succ (unhide HN) (by rw [unhide HU, hq]; rfl))
        go_wp2
        go_round
        case rel => exact ⟨k + 1, by omega, by go_num, HN2⟩
        case measure => simp [intOf]; omega
      · cases hq2 : ((ns[k]).name == name)
        · have HN2 := hide (noIn_succ (unhide HN) (by rw [unhide HU, hq, hq2]; rfl))
          have hne2 : ((bs (ns[k]).name).toList == (bs name).toList) = false := by rw [names_eq]; exact hq2
          clear hq2
          go_wp2
          go_round
          case rel => exact ⟨k + 1, by omega, by go_num, HN2⟩
          case measure => simp [intOf]; omega
        · have HS : Hid (takenR ns parent name = (ns[k]).id) := by
            apply hide
            have e : takenN ns parent name = k := scan_hit (by omega) hlt (by rw [unhide HU, hq, hq2]; rfl) (unhide HN)
            unfold takenR; rw [e, if_pos hlt, ndAt_get _ _ hlt]
          have hne2 : ((bs (ns[k]).name).toList == (bs name).toList) = true := by rw [names_eq]; exact hq2
          clear hq2
          go_wp2
          go_ret
          exact ⟨ret_int (unhide HS).symm, rfl⟩
    · have HS : Hid (takenR ns parent name = 0) := by
        apply hide
        have e : takenN ns parent name = ns.length := scan_none (fun j h1 h2 => unhide HN j h1 (by omega))
        unfold takenR; rw [e, if_neg (by omega)]
      go_wp2
      go_ret
      exact ⟨ret_int (unhide HS).symm, rfl⟩
end Go.Proofs.YtkahmbpggdneoaaDoor

namespace Go.Proofs.YtkahmbpggdneoaaDoor
open Go.RowKit
theorem quiet_add {P : Program} {f : FuncId} {args : Array Value} {w : World} {a n : Nat} {v : Value}
    (h : Calls P f args (w.drewN (a + n)) fun e w' => e = .returned v ∧ w' = w.drewN (a + n)) : Calls P f args (w.drewN (a + n)) fun e w'' => e = .returned v ∧ ∃ m, w'' = w.drewN (a + m) :=
  h.mono fun _ _ ⟨he, hm⟩ => ⟨he, n, hm⟩
theorem row_drewN {w : World} {ao : Option Addr} {n size : Nat} {xs : List Value} (h : Row w ao n size xs) (k : Nat) : Row (w.drewN k) ao n size xs := h.below (below_drewN (Below.refl _ _) k)
theorem row_take {w : World} {ao : Option Addr} {ns : List Nd} (h : Row w ao ns.length 3 (ndCells ns)) (i : Nat) (hi : i ≤ ns.length) : Row w ao (ns.take i).length 3 (ndCells (ns.take i)) := by
  refine ⟨ndCells_length _, fun hn => ?_⟩
  have hlen : (ns.take i).length = i := by rw [List.length_take]; omega
  obtain ⟨g, h1, h2, h3⟩ := h.2 (by omega)
  refine ⟨g, h1, h2, fun j u hu => h3 j u ?_⟩
  have : ndCells ns = ndCells (ns.take i) ++ ndCells (ns.drop i) := by rw [ndCells, ndCells, ndCells, ← List.flatMap_append, List.take_append_drop]
  rw [this, List.getElem?_append_left (by rcases Nat.lt_or_ge j (ndCells (ns.take i)).length with hh | hh; exact hh; rw [List.getElem?_eq_none hh] at hu; cases hu)]
  exact hu
set_option maxHeartbeats 4000000 in
theorem wrong_any (ns : List Nd) (ao : Option Addr) (cap : Nat) (w : World) (hrow : Row w ao ns.length 3 (ndCells ns)) (hcap : ns.length ≤ cap) (hl : ns.length ≤ 4000) (hn : ∀ n ∈ ns, 0 ≤ n.parent ∧ n.parent ≤ 99) :
    Calls Tryd.prog 65 #[.slice ao ns.length cap] w fun e w' => e = .returned (.tuple #[.int .i64 (wrongR ns).1, .int .i64 (wrongR ns).2]) ∧ Below w.heap.size w w' := by
  have HROW := hide hrow; clear hrow
  have HNB := hide hn; clear hn
  have HW : Hid (wrongR ns = if scan (unordered ns) 1 ns.length < ns.length then (3, scan (unordered ns) 1 ns.length) else if scan (rOrphan ns) 0 ns.length < ns.length then (4, scan (rOrphan ns) 0 ns.length) else if scan (rLooped ns) 0 ns.length < ns.length then (5, scan (rLooped ns) 0 ns.length) else if scan (rTwice ns) 0 ns.length < ns.length then (6, scan (rTwice ns) 0 ns.length) else (0, 0)) := hide rfl
  generalize wrongR ns = WR at *
  go_enter Tryd.func65, Tryd.ntmps65
  go_wp2
  go_loopw [4] (fun i wr => ∃ k nq : Nat, 1 ≤ k ∧ (k ≤ ns.length ∨ k = 1) ∧ i = .int .i64 k ∧ wr = w.drewN nq ∧ Hid (NoIn (unordered ns) 1 k)) (fun i _ => ns.length - (intOf i).toNat)
  case atStart => exact ⟨1, 0, Nat.le_refl _, .inr rfl, rfl, rfl, hide (fun j h1 h2 => by omega)⟩
  case round =>
    obtain ⟨k, nq, hk1, hk, rfl, rfl, HN⟩ := hrel
    by_cases hlt : k < ns.length
    · obtain ⟨j, rfl⟩ : ∃ j, k = j + 1 := ⟨k - 1, by omega⟩
      have HB := hide (Below.refl w.heap.size w)
      obtain ⟨g, hao, hg, c0, _, _⟩ := nd_cells (unhide HROW) (unhide HB) hlt
      obtain ⟨g', hao', _, d0, _, _⟩ := nd_cells (unhide HROW) (unhide HB) (show j < ns.length by omega)
      rw [hao] at hao'
      have hgg : g = g' := by cases hao'; rfl
      subst hgg
      rw [hao]
      have HU : Hid (unordered ns (j + 1) = decide ((ns[j + 1]).id ≤ (ns[j]).id)) := by
        apply hide; unfold unordered; rw [ndAt_get _ _ hlt, show j + 1 - 1 = j from rfl, ndAt_get _ _ (by omega)]
      clear hao hao' HB
      have hj0 : (0 : Int) ≤ j := by omega
      have hj1 : (j : Int) + 1 < ns.length := by omega
      have hj2 : (j : Int) < ns.length := by omega
      have hj3 : (0 : Int) ≤ (j : Int) + 1 := by omega
      have hj4 : ((j : Int) + 1).toNat = j + 1 := by omega
      by_cases hle : (ns[j + 1]).id ≤ (ns[j]).id
      · have HS : Hid (WR = (3, j + 1)) := by
          apply hide
          have e : scan (unordered ns) 1 ns.length = j + 1 := scan_hit (by omega) hlt (by rw [unhide HU]; simpa using hle) (unhide HN)
          rw [unhide HW, e, if_pos hlt]
        go_wp2
        go_quiet (fail)
        go_wp2
        go_ret2
        exact ⟨by rw [unhide HS]; rfl, below_drewN (below_drewN (Below.refl _ _) _) _⟩
      · have HN2 := hide (noIn_succ (unhide HN) (by rw [unhide HU]; simpa using hle))
        go_wp2
        go_quiet (fail)
        go_wp2
        go_roundw
        case rel => exact ⟨j + 1 + 1, _, by omega, by omega, by go_num, rfl, HN2⟩
        case measure => simp [intOf]; omega
    · have HW2 : Hid (WR = if scan (rOrphan ns) 0 ns.length < ns.length then (4, scan (rOrphan ns) 0 ns.length) else if scan (rLooped ns) 0 ns.length < ns.length then (5, scan (rLooped ns) 0 ns.length) else if scan (rTwice ns) 0 ns.length < ns.length then (6, scan (rTwice ns) 0 ns.length) else (0, 0)) := by
        apply hide
        have e : scan (unordered ns) 1 ns.length = ns.length := scan_none (fun j h1 h2 => unhide HN j h1 (by omega))
        rw [unhide HW, e, if_neg (by omega)]
      clear HW HN hk hk1
      have HROW1 : Hid (Row (w.drewN nq) ao ns.length 3 (ndCells ns)) := hide (row_drewN (unhide HROW) nq)
      have HBW : Hid (Below w.heap.size w (w.drewN nq)) := hide (below_drewN (Below.refl _ _) nq)
      obtain ⟨w1, hw1⟩ : ∃ x, w.drewN nq = x := ⟨_, rfl⟩
      rw [hw1] at HROW1 HBW ⊢
      clear hw1
      have HB1 := hide (Below.refl w1.heap.size w1)
      go_wp2
      go_loop [5] (fun i => ∃ k : Nat, k ≤ ns.length ∧ i = .int .i64 k ∧ Hid (NoIn (rOrphan ns) 0 k)) (fun i => ns.length - (intOf i).toNat)
      case atStart => exact ⟨0, Nat.zero_le _, rfl, hide (fun j h1 h2 => by omega)⟩
      case round =>
        obtain ⟨k, hk, rfl, HN⟩ := hrel
        by_cases hlt : k < ns.length
        · obtain ⟨g, hao, hg, _, c1, _⟩ := nd_cells (unhide HROW1) (unhide HB1) hlt
          have hp := unhide HNB _ (List.getElem_mem hlt)
          have HFO := hide (folder_any ns (ns[k]).parent ao cap w1 (unhide HROW1) hl hp.1 (by omega))
          have HU : Hid (rOrphan ns k = !folderR ns (ns[k]).parent) := by apply hide; unfold rOrphan; rw [ndAt_get _ _ hlt]
          rw [hao] at HFO ⊢
          clear hao
          generalize ns[k] = nd at *
          cases hq : folderR ns nd.parent
          · have HS : Hid (WR = (4, k)) := by
              apply hide
              have e : scan (rOrphan ns) 0 ns.length = k := scan_hit (by omega) hlt (by rw [unhide HU, hq]; rfl) (unhide HN)
              rw [unhide HW2, e, if_pos hlt]
            rw [hq] at HFO
            clear hq
            go_wp2_with fail
            refine (unhide HFO).mono ?_
            rintro e w2 ⟨rfl, rfl⟩
            go_wp2
            go_ret2
            exact ⟨by rw [unhide HS]; rfl, unhide HBW⟩
          · have HN2 := hide (noIn_succ (unhide HN) (by rw [unhide HU, hq]; rfl))
            rw [hq] at HFO
            clear hq
            go_wp2_with fail
            refine (unhide HFO).mono ?_
            rintro e w2 ⟨rfl, rfl⟩
            go_wp2
            go_round
            case rel => exact ⟨k + 1, by omega, by go_num, HN2⟩
            case measure => simp [intOf]; omega
        · have HW3 : Hid (WR = if scan (rLooped ns) 0 ns.length < ns.length then (5, scan (rLooped ns) 0 ns.length) else if scan (rTwice ns) 0 ns.length < ns.length then (6, scan (rTwice ns) 0 ns.length) else (0, 0)) := by
            apply hide
            have e : scan (rOrphan ns) 0 ns.length = ns.length := scan_none (fun j h1 h2 => unhide HN j h1 (by omega))
            rw [unhide HW2, e, if_neg (by omega)]
          clear HW2 HN hk
          go_wp2
          go_loop [7] (fun i => ∃ k : Nat, k ≤ ns.length ∧ i = .int .i64 k ∧ Hid (NoIn (rLooped ns) 0 k)) (fun i => ns.length - (intOf i).toNat)
          case atStart => exact ⟨0, Nat.zero_le _, rfl, hide (fun j h1 h2 => by omega)⟩
          case round =>
            obtain ⟨k, hk, rfl, HN⟩ := hrel
            by_cases hlt : k < ns.length
            · obtain ⟨g, hao, hg, c0, _, _⟩ := nd_cells (unhide HROW1) (unhide HB1) hlt
              have HFO := hide (below_any ns (ns[k]).id 0 ao cap w1 (unhide HROW1) hl)
              have HU : Hid (rLooped ns k = !belowR ns (ns[k]).id 0) := by apply hide; unfold rLooped; rw [ndAt_get _ _ hlt]
              rw [hao] at HFO ⊢
              clear hao
              generalize ns[k] = nd at *
              cases hq : belowR ns nd.id 0
              · have HS : Hid (WR = (5, k)) := by
                  apply hide
                  have e : scan (rLooped ns) 0 ns.length = k := scan_hit (by omega) hlt (by rw [unhide HU, hq]; rfl) (unhide HN)
                  rw [unhide HW3, e, if_pos hlt]
                rw [hq] at HFO
                clear hq
                go_wp2_with fail
                refine (unhide HFO).mono ?_
                rintro e w2 ⟨rfl, rfl⟩
                go_wp2
                go_ret2
                exact ⟨by rw [unhide HS]; rfl, unhide HBW⟩
              · have HN2 := hide (noIn_succ (unhide HN) (by rw [unhide HU, hq]; rfl))
                rw [hq] at HFO
                clear hq
                go_wp2_with fail
                refine (unhide HFO).mono ?_
                rintro e w2 ⟨rfl, rfl⟩
                go_wp2
                go_round
                case rel => exact ⟨k + 1, by omega, by go_num, HN2⟩
                case measure => simp [intOf]; omega
            · have HW4 : Hid (WR = if scan (rTwice ns) 0 ns.length < ns.length then (6, scan (rTwice ns) 0 ns.length) else (0, 0)) := by
                apply hide
                have e : scan (rLooped ns) 0 ns.length = ns.length := scan_none (fun j h1 h2 => unhide HN j h1 (by omega))
                rw [unhide HW3, e, if_neg (by omega)]
              clear HW3 HN hk
              go_wp2
              go_loopw [9] (fun i wr => ∃ k nq : Nat, k ≤ ns.length ∧ i = .int .i64 k ∧ wr = w1.drewN nq ∧ Hid (NoIn (rTwice ns) 0 k)) (fun i _ => ns.length - (intOf i).toNat)
              case atStart => exact ⟨0, 0, Nat.zero_le _, rfl, rfl, hide (fun j h1 h2 => by omega)⟩
              case round =>
                obtain ⟨k, nq2, hk, rfl, rfl, HN⟩ := hrel
                by_cases hlt : k < ns.length
                · obtain ⟨g, hao, hg, _, c1, c2⟩ := nd_cells (unhide HROW1) (unhide HB1) hlt
                  have HTK := hide (fun m => taken_any (ns.take k) (ns[k]).parent (ns[k]).name ao cap (w1.drewN m) (row_drewN (row_take (unhide HROW1) k (by omega)) m) (by rw [List.length_take]; omega))
                  rw [show (ns.take k).length = k by rw [List.length_take]; omega] at HTK
                  have HU : Hid (rTwice ns k = (takenR (ns.take k) (ns[k]).parent (ns[k]).name != 0)) := by apply hide; unfold rTwice; rw [ndAt_get _ _ hlt]
                  rw [hao] at HTK ⊢
                  clear hao
                  have hk0 : (0 : Int) ≤ k := by omega
                  have hk1 : (k : Int) < ns.length := by omega
                  have hk2 : (k : Int) ≤ cap := by omega
                  generalize ns[k] = nd at *
                  generalize takenR (ns.take k) nd.parent nd.name = tk at *
                  cases hq : (tk != 0)
                  · have HN2 := hide (noIn_succ (unhide HN) (by rw [unhide HU]; exact hq))
                    go_wp2
                    go_quiet ((go_at_call 84; exact quiet_add (unhide HTK _)))
                    go_wp2
                    go_roundw
                    case rel => exact ⟨k + 1, _, by omega, by go_num, rfl, HN2⟩
                    case measure => simp [intOf]; omega
                  · have HS : Hid (WR = (6, k)) := by
                      apply hide
                      have e : scan (rTwice ns) 0 ns.length = k := scan_hit (by omega) hlt (by rw [unhide HU]; exact hq) (unhide HN)
                      rw [unhide HW4, e, if_pos hlt]
                    go_wp2
                    go_quiet ((go_at_call 84; exact quiet_add (unhide HTK _)))
                    go_wp2
                    go_ret2
                    exact ⟨by rw [unhide HS]; rfl, below_drewN (unhide HBW) _⟩
                · have HS : Hid (WR = (0, 0)) := by
                    apply hide
                    have e : scan (rTwice ns) 0 ns.length = ns.length := scan_none (fun j h1 h2 => unhide HN j h1 (by omega))
                    rw [unhide HW4, e, if_neg (by omega)]
                  go_wp2
                  go_ret2
                  exact ⟨by rw [unhide HS]; rfl, below_drewN (unhide HBW) _⟩
set_option maxHeartbeats 1000000 in
theorem rcheck_any (s : ByteArray) (w : World) :
    Calls Tryd.prog 45 #[.string s] w fun e w' => e = .returned (.tuple #[.int .i64 (checkR (sl s)).1, .int .i64 (checkR (sl s)).2]) ∧ Below w.heap.size w w' := by
  by_cases h1 : 4000 < s.size
  · have e : checkR (sl s) = (1, 0) := by unfold checkR; rw [sl_length, if_pos h1]
    rw [e]
    go_enter Tryd.func45, Tryd.ntmps45
    go_wp2
    go_ret2
    exact ⟨rfl, Below.refl _ _⟩
  · have HN := hide (fun W => nodes_any s W (by omega))
    have hrl : (cut (sl s)).length ≤ 4000 := by have := cut_length_le (sl s); rw [sl_length] at this; omega
    have hnl := readNodes_length (cut (sl s))
    have HNB := hide (readNodes_bd (cut (sl s)))
    by_cases h2 : (readNodes (cut (sl s))).length < (cut (sl s)).length
    · have e : checkR (sl s) = (2, (readNodes (cut (sl s))).length) := by unfold checkR; rw [sl_length, if_neg h1, if_pos h2]
      rw [e]
      generalize readNodes (cut (sl s)) = ns at *
      go_enter Tryd.func45, Tryd.ntmps45
      go_wp2_with fail
      refine (unhide HN _).mono ?_
      rintro e w1 ⟨⟨_, rfl⟩ | ⟨hno, _⟩, hb1⟩
      · go_wp2
        go_ret2
        exact ⟨rfl, hb1⟩
      · exact absurd h2 hno
    · have e : checkR (sl s) = wrongR (readNodes (cut (sl s))) := by unfold checkR; rw [sl_length, if_neg h1, if_neg h2]
      rw [e]
      have HWR := hide (fun ao cap W h1 h2 => wrong_any (readNodes (cut (sl s))) ao cap W h1 h2 (by omega) (fun n hn => ⟨(unhide HNB n hn).2.2.1, (unhide HNB n hn).2.2.2.1⟩))
      generalize readNodes (cut (sl s)) = ns at *
      go_enter Tryd.func45, Tryd.ntmps45
      go_wp2_with fail
      refine (unhide HN _).mono ?_
      rintro e w1 ⟨⟨hno, _⟩ | ⟨_, ao, cap, rfl, hrow, hcap⟩, hb1⟩
      · exact absurd hno h2
      · have HR := hide hrow
        clear hrow
        go_wp2_with fail
        refine (unhide HWR _ _ _ (unhide HR) hcap).mono ?_
        rintro e w2 ⟨rfl, hb2⟩
        go_wp2
        go_ret2
        exact ⟨rfl, hb1.trans (hb2.mono hb1.size)⟩
end Go.Proofs.YtkahmbpggdneoaaDoor

namespace Go.Proofs.YtkahmbpggdneoaaDoor
open Go.RowKit
theorem find_congr' {p q : Nat → Bool} : ∀ (l : List Nat), (∀ x ∈ l, p x = q x) → l.find? p = l.find? q := by
  intro l
  induction l with
  | nil => intro _; rfl
  | cons a l ih =>
    intro h
    rw [List.find?_cons, List.find?_cons, h a (by simp), ih (fun x hx => h x (by simp [hx]))]
theorem scan_congr {p q : Nat → Bool} {lo n : Nat} (h : ∀ j, lo ≤ j → j < n → p j = q j) : scan p lo n = scan q lo n := by
  unfold scan
  rw [find_congr' (p := p) (q := q) _ (fun x hx => by rw [List.mem_range'_1] at hx; exact h x hx.1 (by omega))]
theorem scan_cases (p : Nat → Bool) (lo n : Nat) : (scan p lo n < n ∧ lo ≤ scan p lo n ∧ p (scan p lo n) = true ∧ ∀ j, lo ≤ j → j < scan p lo n → p j = false) ∨ (scan p lo n = n ∧ ∀ j, lo ≤ j → j < n → p j = false) := by
  by_cases h : ∃ k, lo ≤ k ∧ k < n ∧ p k = true
  · -- the least such
    have key : ∀ m, (∃ k, lo ≤ k ∧ k < n ∧ p k = true ∧ k ≤ m) → ∃ k, lo ≤ k ∧ k < n ∧ p k = true ∧ ∀ j, lo ≤ j → j < k → p j = false := by
      intro m
      induction m with
      | zero => rintro ⟨k, h1, h2, h3, h4⟩; exact ⟨k, h1, h2, h3, fun j _ hj => by omega⟩
      | succ m ih =>
        rintro ⟨k, h1, h2, h3, h4⟩
        by_cases hm : ∃ k, lo ≤ k ∧ k < n ∧ p k = true ∧ k ≤ m
        · exact ih hm
        · refine ⟨k, h1, h2, h3, fun j hj hk => ?_⟩
          cases hp : p j
          · rfl
          · exact absurd ⟨j, hj, by omega, hp, by omega⟩ hm
    obtain ⟨k, h1, h2, h3⟩ := h
    obtain ⟨k, h1, h2, h3, h4⟩ := key k ⟨k, h1, h2, h3, Nat.le_refl _⟩
    have e := scan_hit h1 h2 h3 h4
    left; rw [e]; exact ⟨h2, h1, h3, h4⟩
  · have hno : ∀ j, lo ≤ j → j < n → p j = false := by
      intro j h1 h2
      cases hp : p j
      · rfl
      · exact absurd ⟨j, h1, h2, hp⟩ h
    right; exact ⟨scan_none hno, hno⟩
/-! Ordered lists of nodes. -/
def Ordered (ns : List Nd) : Prop := ∀ i j, i < j → j < ns.length → (ndAt ns i).id < (ndAt ns j).id
theorem ordered_of {ns : List Nd} (h : ¬ scan (unordered ns) 1 ns.length < ns.length) : Ordered ns := by
  have hno : ∀ j, 1 ≤ j → j < ns.length → unordered ns j = false := by
    rcases scan_cases (unordered ns) 1 ns.length with ⟨h1, _⟩ | ⟨_, h2⟩
    · exact absurd h1 h
    · exact h2
  have step : ∀ j, 1 ≤ j → j < ns.length → (ndAt ns (j - 1)).id < (ndAt ns j).id := by
    intro j h1 h2
    have := hno j h1 h2
    unfold unordered at this
    simp at this; exact this
  intro i j hij
  induction j with
  | zero => omega
  | succ j ih =>
    intro hj
    have h1 := step (j + 1) (by omega) hj
    rw [show j + 1 - 1 = j from rfl] at h1
    by_cases e : i = j
    · subst e; exact h1
    · have := ih (by omega) (by omega); omega
theorem mem_ndAt {ns : List Nd} {n : Nd} (h : n ∈ ns) : ∃ i, i < ns.length ∧ ndAt ns i = n := by
  obtain ⟨i, hi, e⟩ := List.getElem_of_mem h
  exact ⟨i, hi, by rw [ndAt_get _ _ hi, e]⟩
theorem ndAt_mem {ns : List Nd} {i : Nat} (h : i < ns.length) : ndAt ns i ∈ ns := by rw [ndAt_get _ _ h]; exact List.getElem_mem h
def Unique (ns : List Nd) : Prop := ∀ n m, n ∈ ns → m ∈ ns → n.id = m.id → n = m
theorem ordered_unique {ns : List Nd} (h : Ordered ns) : Unique ns := by
  intro n m hn hm e
  obtain ⟨i, hi, rfl⟩ := mem_ndAt hn
  obtain ⟨j, hj, rfl⟩ := mem_ndAt hm
  rcases Nat.lt_trichotomy i j with hlt | rfl | hlt
  · have := h i j hlt hj; omega
  · rfl
  · have := h j i hlt hi; omega
theorem lookR_mem {ns : List Nd} {id : Int} {n : Nd} (h : lookR ns id = some n) : n ∈ ns ∧ n.id = id := by
  rcases scan_cases (idIs ns id) 0 ns.length with ⟨h1, _, h3, _⟩ | ⟨h1, _⟩
  · have h1' : findN ns id < ns.length := h1
    unfold lookR at h; rw [if_pos h1'] at h; cases h
    exact ⟨ndAt_mem h1', by have : idIs ns id (findN ns id) = true := h3; unfold idIs at this; simpa using this⟩
  · unfold lookR at h; rw [if_neg (by unfold findN; omega)] at h; cases h
theorem lookR_no {ns : List Nd} {id : Int} (h : lookR ns id = none) : ∀ n ∈ ns, n.id ≠ id := by
  rcases scan_cases (idIs ns id) 0 ns.length with ⟨h1, _, _, _⟩ | ⟨_, h2⟩
  · unfold lookR at h; rw [if_pos (show findN ns id < ns.length from h1)] at h; cases h
  · intro n hn e
    obtain ⟨i, hi, rfl⟩ := mem_ndAt hn
    have := h2 i (by omega) hi
    unfold idIs at this; simp at this; exact this e
theorem lookR_of {ns : List Nd} (hu : Unique ns) {n : Nd} (hn : n ∈ ns) : lookR ns n.id = some n := by
  cases h : lookR ns n.id with
  | none => exact absurd rfl (lookR_no h n hn)
  | some m => obtain ⟨h1, h2⟩ := lookR_mem h; rw [hu m n h1 hn h2]
theorem fold_some : ∀ (ns : List Nd) (t : Tr) (i : Nat) (n : Nd), (ns.foldl trPut t) i = some n → (n ∈ ns ∧ n.id = i) ∨ t i = some n := by
  intro ns
  induction ns with
  | nil => intro t i n h; exact .inr h
  | cons a ns ih =>
    intro t i n h
    rcases ih (trPut t a) i n h with ⟨h1, h2⟩ | h1
    · exact .inl ⟨by simp [h1], h2⟩
    · unfold trPut at h1
      split at h1
      · cases h1; rename_i e; exact .inl ⟨by simp, e.symm⟩
      · exact .inr h1
theorem fold_none : ∀ (ns : List Nd) (t : Tr) (i : Nat), (ns.foldl trPut t) i = none → (∀ n ∈ ns, n.id ≠ i) ∧ t i = none := by
  intro ns
  induction ns with
  | nil => intro t i h; exact ⟨by simp, h⟩
  | cons a ns ih =>
    intro t i h
    obtain ⟨h1, h2⟩ := ih (trPut t a) i h
    unfold trPut at h2
    split at h2
    · cases h2
    · rename_i e
      refine ⟨fun n hn => ?_, h2⟩
      rcases List.mem_cons.1 hn with rfl | hn
      · exact fun hh => e hh.symm
      · exact h1 n hn
theorem gather_look {ns : List Nd} (hu : Unique ns) (hb : ∀ n ∈ ns, 1 ≤ n.id) (id : Int) : gather ns id.toNat = lookR ns id := by
  cases h : lookR ns id with
  | some n =>
    obtain ⟨h1, h2⟩ := lookR_mem h
    have hid := hb n h1
    cases hg : gather ns id.toNat with
    | none => exact absurd (by omega) ((fold_none ns tr0 _ hg).1 n h1)
    | some m =>
      rcases fold_some ns tr0 _ m hg with ⟨h3, h4⟩ | h3
      · rw [hu m n h3 h1 (by omega)]
      · cases h3
  | none =>
    cases hg : gather ns id.toNat with
    | none => rfl
    | some m =>
      rcases fold_some ns tr0 _ m hg with ⟨h3, h4⟩ | h3
      · have := hb m h3
        exact absurd (by omega) (lookR_no h m h3)
      · cases h3
/-! The way up. -/
theorem below_mono {look : Int → Option Nd} {top : Int} : ∀ (f : Nat) (id : Int), belowF look f id top = true → belowF look (f + 1) id top = true := by
  intro f
  induction f with
  | zero => intro id h; simp [belowF] at h
  | succ f ih =>
    intro id h
    rw [belowF] at h ⊢
    cases hl : look id with
    | none => rw [hl] at h; simp at h
    | some n =>
      rw [hl] at h
      simp only at h ⊢
      by_cases hp : n.parent = top
      · rw [if_pos hp]
      · rw [if_neg hp] at h ⊢; exact ih _ h
theorem below_le {look : Int → Option Nd} {top : Int} {f g : Nat} (hfg : f ≤ g) (id : Int) (h : belowF look f id top = true) : belowF look g id top = true := by
  induction g with
  | zero => have : f = 0 := by omega
            subst this; exact h
  | succ g ih =>
    by_cases e : f = g + 1
    · subst e; exact h
    · exact below_mono g id (ih (by omega))
theorem way_list {look : Int → Option Nd} {top : Int} : ∀ (f : Nat) (id : Int), belowF look (f + 1) id top = true → belowF look f id top = false →
    ∃ l : List Int, l.length = f + 1 ∧ l.Nodup ∧ (∀ x ∈ l, (look x).isSome = true) ∧ ∀ x ∈ l, ∃ g, g ≤ f ∧ belowF look (g + 1) x top = true := by
  intro f
  induction f with
  | zero =>
    intro id h _
    refine ⟨[id], rfl, by simp, ?_, ?_⟩
    · intro x hx; simp at hx; subst hx
      rw [belowF] at h
      cases hl : look x with
      | none => rw [hl] at h; simp at h
      | some n => rfl
    · intro x hx; simp at hx; subst hx; exact ⟨0, Nat.le_refl _, h⟩
  | succ f ih =>
    intro id h hno
    have h' := h
    rw [belowF] at h'
    cases hl : look id with
    | none => rw [hl] at h'; simp at h'
    | some n =>
      rw [hl] at h'
      simp only at h'
      have hp : ¬ n.parent = top := by
        intro hp
        have : belowF look 1 id top = true := by rw [belowF, hl]; simp [hp]
        rw [below_le (show 1 ≤ f + 1 by omega) id this] at hno
        cases hno
      rw [if_neg hp] at h'
      have hno' : belowF look f n.parent top = false := by
        rw [belowF, hl] at hno
        simp only [if_neg hp] at hno
        exact hno
      obtain ⟨l, l1, l2, l3, l4⟩ := ih n.parent h' hno'
      refine ⟨id :: l, by simp [l1], ?_, ?_, ?_⟩
      · rw [List.nodup_cons]
        refine ⟨fun hm => ?_, l2⟩
        obtain ⟨g, hg, hb⟩ := l4 id hm
        rw [below_le (show g + 1 ≤ f + 1 by omega) id hb] at hno
        cases hno
      · intro x hx
        rcases List.mem_cons.1 hx with rfl | hx
        · rw [hl]; rfl
        · exact l3 x hx
      · intro x hx
        rcases List.mem_cons.1 hx with rfl | hx
        · exact ⟨f + 1, Nat.le_refl _, h⟩
        · obtain ⟨g, hg, hb⟩ := l4 x hx; exact ⟨g, by omega, hb⟩
theorem pigeon : ∀ (l m : List Int), l.Nodup → (∀ x ∈ l, x ∈ m) → l.length ≤ m.length := by
  intro l
  induction l with
  | nil => intro m _ _; simp
  | cons a l ih =>
    intro m hn hs
    rw [List.nodup_cons] at hn
    have ha := hs a (by simp)
    have := ih (m.erase a) hn.2 (fun x hx => by
      have hxa : x ≠ a := fun e => hn.1 (e ▸ hx)
      exact (List.mem_erase_of_ne hxa).2 (hs x (by simp [hx])))
    rw [List.length_erase_of_mem ha] at this
    have hpos : 0 < m.length := List.length_pos_of_mem ha
    simp; omega
theorem below_stop {ns : List Nd} {look : Int → Option Nd} (hlook : ∀ x n, look x = some n → n ∈ ns ∧ n.id = x) {top : Int} (f : Nat) (id : Int) (h : belowF look f id top = true) : belowF look ns.length id top = true := by
  induction f with
  | zero => simp [belowF] at h
  | succ f ih =>
    cases hf : belowF look f id top
    · obtain ⟨l, l1, l2, l3, _⟩ := way_list f id h hf
      have hle : l.length ≤ (ns.map (·.id)).length := pigeon l _ l2 (fun x hx => by
        obtain ⟨n, hn⟩ := Option.isSome_iff_exists.1 (l3 x hx)
        obtain ⟨h1, h2⟩ := hlook x n hn
        exact List.mem_map.2 ⟨n, h1, h2⟩)
      rw [List.length_map] at hle
      exact below_le (by omega) id h
    · exact ih hf
theorem below_same {ns : List Nd} {look : Int → Option Nd} (hlook : ∀ x n, look x = some n → n ∈ ns ∧ n.id = x) {top : Int} {f g : Nat} (hf : ns.length ≤ f) (hg : ns.length ≤ g) (id : Int) : belowF look f id top = belowF look g id top := by
  cases h1 : belowF look f id top
  · cases h2 : belowF look g id top
    · rfl
    · rw [below_le hf id (below_stop hlook g id h2)] at h1; cases h1
  · rw [below_le hg id (below_stop hlook f id h1)]
theorem meets_below (t : Tr) (goal : Int) : ∀ (f : Nat) (id : Int), meetsF t (f + 1) id goal = (decide (id = goal) || belowF (fun x => t x.toNat) f id goal) := by
  intro f
  induction f with
  | zero =>
    intro id
    by_cases h : id = goal
    · simp [meetsF, h]
    · rw [meetsF, if_neg h]
      cases hl : t id.toNat with
      | none => simp [belowF, h]
      | some n => simp [belowF, h, meetsF]
  | succ f ih =>
    intro id
    by_cases h : id = goal
    · simp [meetsF, h]
    · rw [meetsF, if_neg h, belowF]
      cases hl : t id.toNat with
      | none => simp [h]
      | some n =>
        simp only
        rw [ih]
        by_cases hp : n.parent = goal
        · simp [hp]
        · simp [h, hp]
theorem ordered_short {ns : List Nd} (ho : Ordered ns) (hb : ∀ n ∈ ns, 1 ≤ n.id ∧ n.id ≤ 99) : ns.length ≤ 99 := by
  have : ∀ i, i < ns.length → (i : Int) + 1 ≤ (ndAt ns i).id := by
    intro i
    induction i with
    | zero => intro h; have := (hb _ (ndAt_mem h)).1; omega
    | succ i ih => intro h; have h1 := ih (by omega); have h2 := ho i (i + 1) (by omega) h; omega
  rcases Nat.lt_or_ge 99 ns.length with h | h
  · have h1 := this 99 h
    have h2 := (hb _ (ndAt_mem h)).2
    omega
  · exact h
theorem meets_R {ns : List Nd} (ho : Ordered ns) (hb : ∀ n ∈ ns, 1 ≤ n.id ∧ n.id ≤ 99) (id goal : Int) : meetsT (gather ns) id goal = (decide (id = goal) || belowR ns id goal) := by
  have hfun : (fun x : Int => gather ns x.toNat) = lookR ns := funext fun x => gather_look (ordered_unique ho) (fun n hn => (hb n hn).1) x
  unfold meetsT belowR
  rw [meets_below, hfun, below_same (ns := ns) (look := lookR ns) (fun x n h => lookR_mem h) (ordered_short ho hb) (show ns.length ≤ ns.length + 1 by omega) id]
theorem isParent_R {ns : List Nd} (ho : Ordered ns) (hb : ∀ n ∈ ns, 1 ≤ n.id ∧ n.id ≤ 99) (id : Int) : isParentT (gather ns) id = folderR ns id := by
  unfold isParentT folderR hasT
  rw [gather_look (ordered_unique ho) (fun n hn => (hb n hn).1) id]
theorem ndAt_take {ns : List Nd} {i j : Nat} (h : j < i) (hi : i ≤ ns.length) : ndAt (ns.take i) j = ndAt ns j := by
  rw [ndAt_get _ _ (by rw [List.length_take]; omega), ndAt_get _ _ (by omega)]; simp
theorem twice_R {ns : List Nd} (hb : ∀ n ∈ ns, 1 ≤ n.id) {i : Nat} (hi : i < ns.length) : twice ns i = rTwice ns i := by
  have hlen : (ns.take i).length = i := by rw [List.length_take]; omega
  unfold rTwice takenR takenN
  rw [hlen]
  rcases scan_cases (placeIs (ns.take i) (ndAt ns i).parent (ndAt ns i).name) 0 i with ⟨h1, _, h3, _⟩ | ⟨h1, h2⟩
  · rw [if_pos h1]
    generalize scan (placeIs (ns.take i) (ndAt ns i).parent (ndAt ns i).name) 0 i = k at *
    have hm := hb _ (ndAt_mem (ns := ns) (i := k) (by omega))
    rw [ndAt_take h1 (by omega)]
    have e1 : twice ns i = true := by
      unfold twice
      refine decide_eq_true ⟨_, h1, ?_⟩
      unfold placeIs at h3; rw [ndAt_take h1 (by omega)] at h3
      exact h3
    rw [e1]
    symm; rw [bne_iff_ne]; omega
  · rw [if_neg (by omega)]
    have e1 : twice ns i = false := by
      unfold twice
      apply decide_eq_false
      rintro ⟨j, hj, hs⟩
      have := h2 j (by omega) hj
      unfold placeIs at this; rw [ndAt_take hj (by omega)] at this
      unfold samePlace at hs
      rw [this] at hs; cases hs
    rw [e1]; rfl
theorem check_same (l : Str) : checkR l = checkT l := by
  unfold checkR checkT
  split
  · rfl
  · simp only []
    split
    · rfl
    · unfold wrongR
      split
      · rfl
      · rename_i _ _ hu
        have ho := ordered_of hu
        have hb := readNodes_bd (cut l)
        generalize readNodes (cut l) = ns at *
        have hb2 : ∀ n ∈ ns, 1 ≤ n.id ∧ n.id ≤ 99 := fun n hn => ⟨(hb n hn).1, (hb n hn).2.1⟩
        unfold misplaced
        have e1 : scan (orphan (gather ns) ns) 0 ns.length = scan (rOrphan ns) 0 ns.length := scan_congr (fun j _ _ => by unfold orphan rOrphan; rw [isParent_R ho hb2])
        have e2 : scan (looped (gather ns) ns) 0 ns.length = scan (rLooped ns) 0 ns.length := scan_congr (fun j _ hj => by
          unfold looped rLooped; rw [meets_R ho hb2]
          have := (hb2 _ (ndAt_mem hj)).1
          have e : decide ((ndAt ns j).id = 0) = false := by simp; omega
          rw [e]; rfl)
        have e3 : scan (twice ns) 0 ns.length = scan (rTwice ns) 0 ns.length := scan_congr (fun j _ hj => twice_R (fun n hn => (hb2 n hn).1) hj)
        rw [e1, e2, e3]
end Go.Proofs.YtkahmbpggdneoaaDoor
