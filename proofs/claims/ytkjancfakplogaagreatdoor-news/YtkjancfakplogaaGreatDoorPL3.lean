import Derived.Test.YtkjancfakplogaaGreatDoorPL2
import Derived.Deep.RegionWith
import Derived.Deep.RegionHeld3
namespace Go.Proofs.YtkjancfakplogaaGreatDoor
open Go.RowKit
theorem opOf5_no {a b c d e : Str} (h : (number a 1 9999).2 = false ∨ (number b 1 9).2 = false ∨ (number c 1 99).2 = false ∨ (number d 0 100).2 = false) : opOf5 a b c d e = none := by
  unfold opOf5
  rw [if_neg]
  simp only [Bool.and_eq_true, not_and]
  intro h1 
  rcases h with h | h | h | h <;> simp [h] at h1
theorem opOf5_yes {a b c d e : Str} (h1 : (number a 1 9999).2 = true) (h2 : (number b 1 9).2 = true) (h3 : (number c 1 99).2 = true) (h4 : (number d 0 100).2 = true) : opOf5 a b c d e = if placeB ⟨(number c 1 99).1, (number d 0 100).1, e⟩ then some ⟨(number a 1 9999).1, (number b 1 9).1, ⟨(number c 1 99).1, (number d 0 100).1, e⟩⟩ else none := by
  unfold opOf5
  rw [h1, h2, h3, h4]; rfl
set_option maxHeartbeats 4000000 in
set_option maxRecDepth 100000 in
theorem readOp_yes (s : ByteArray) (w : World) (hs : s.size ≤ 4000) (a b c d f : Str) (hb : bodyB (sl s) = true) (h5 : parts (bodyS (sl s)) = [a, b, c, d, f]) :
    Calls Tryz.prog 79 #[.string s] w fun e w' => OpRes (readOp (sl s)) e ∧ Below w.heap.size w w' := by
  rw [readOp_five hb h5]
  have hlb : (bs (bodyS (sl s))).size ≤ 4000 := by rw [bs_size]; have := bodyS_len (sl s); rw [sl_length] at this; omega
  have HBO := hide (fun W => body_any s W hs)
  have HP : Hid (∀ W, Calls Tryz.prog 108 #[.string (bs (bodyS (sl s)))] W fun e w' => ∃ ao cap, e = .returned (.slice ao 5 cap) ∧ Row w' ao 5 1 [.string (bs a), .string (bs b), .string (bs c), .string (bs d), .string (bs f)] ∧ Below W.heap.size W w') := by
    apply hide; intro W; have := parts_any (bs (bodyS (sl s))) W hlb; rw [sl_bs, h5] at this; exact this
  have hl : ∀ x ∈ [a, b, c, d, f], x.length ≤ 4000 := fun x hx => by
    have := part_len (bodyS (sl s)) x (by rw [h5]; exact hx)
    rw [bs_size] at hlb; omega
  have hla : (bs a).size ≤ 4000 := by rw [bs_size]; exact hl a (by simp)
  have hlb' : (bs b).size ≤ 4000 := by rw [bs_size]; exact hl b (by simp)
  have hlc : (bs c).size ≤ 4000 := by rw [bs_size]; exact hl c (by simp)
  have hld : (bs d).size ≤ 4000 := by rw [bs_size]; exact hl d (by simp)
  have hlf : f.length ≤ 4000 := hl f (by simp)
  clear hl h5
  rw [hb] at HBO
  generalize bodyS (sl s) = body at *
  clear hb
  have HA := hide (fun W => number_any (bs a) 1 9999 W hla (by omega) (by omega))
  have HB := hide (fun W => number_any (bs b) 1 9 W hlb' (by omega) (by omega))
  have HC := hide (fun W => number_any (bs c) 1 99 W hlc (by omega) (by omega))
  have HD := hide (fun W => number_any (bs d) 0 100 W hld (by omega) (by omega))
  rw [sl_bs] at HA HB HC HD
  have nc := number_bd c 1 99 (by omega)
  have nd := number_bd d 0 100 (by omega)
  have HPL := hide (fun W => isPlace_any ⟨(number c 1 99).1, (number d 0 100).1, f⟩ W nc.1 nc.2 nd.1 nd.2 hlf)
  have HNO := hide (@opOf5_no a b c d f)
  have HYE := hide (@opOf5_yes a b c d f)
  generalize opOf5 a b c d f = R at *
  generalize (number a 1 9999).1 = x1 at *
  generalize (number a 1 9999).2 = p1 at *
  generalize (number b 1 9).1 = x2 at *
  generalize (number b 1 9).2 = p2 at *
  generalize (number c 1 99).1 = x3 at *
  generalize (number c 1 99).2 = p3 at *
  generalize (number d 0 100).1 = x4 at *
  generalize (number d 0 100).2 = p4 at *
  generalize placeB ⟨x3, x4, f⟩ = q at *
  clear hlb hla hlb' hlc hld nc nd
  rcases (show p1 = false ∨ (p1 = true ∧ p2 = false) ∨ (p1 = true ∧ p2 = true ∧ p3 = false) ∨ (p1 = true ∧ p2 = true ∧ p3 = true ∧ p4 = false) ∨ (p1 = true ∧ p2 = true ∧ p3 = true ∧ p4 = true) from by cases p1 <;> cases p2 <;> cases p3 <;> cases p4 <;> simp) with h1 | ⟨h1, h2⟩ | ⟨h1, h2, h3⟩ | ⟨h1, h2, h3, h4⟩ | ⟨h1, h2, h3, h4⟩
  case inr.inr.inr.inr =>
    subst h1 h2 h3 h4
    have HR : Hid (R = if q then some ⟨x1, x2, ⟨x3, x4, f⟩⟩ else none) := hide (unhide HYE rfl rfl rfl rfl)
    clear HYE HNO
    go_enter Tryz.func79, Tryz.ntmps79
    go_wp2_with fail
    refine (unhide HBO _).mono ?_
    rintro e w1 ⟨rfl, rfl⟩
    go_wp2_with fail
    refine (unhide HP _).mono ?_
    rintro e w1 ⟨ao, cap, rfl, hrow, hbel⟩
    obtain ⟨g, hao, hg, hcel⟩ := hrow.2 (by omega)
    rw [hao]
    have c0 := hcel 0 _ rfl
    have c1 := hcel 1 _ rfl
    have c2 := hcel 2 _ rfl
    have c3 := hcel 3 _ rfl
    have c4 := hcel 4 _ rfl
    clear hcel hao hrow
    obtain ⟨hc, hf⟩ := bcell hbel
    have hz : w.heap.size + 1 ≤ w1.heap.size := by have := hbel.size; simp at this; omega
    have HB0 : Hid (Below w.heap.size w w1) := hide (((Below.refl _ _).alloc (Nat.le_refl _) _).trans (hbel.mono (by simp)))
    clear hbel
    have R0 := hide (show w1.cell? ⟨w.heap.size, 0, none⟩ = some (.int .i64 0) by rw [hc _ _ (by simp)]; simp [go_sem])
    have R1 := hide (show w1.cell? ⟨w.heap.size, 1, none⟩ = some (.int .i64 0) by rw [hc _ _ (by simp)]; simp [go_sem])
    have R2 := hide (show w1.cell? ⟨w.heap.size, 2, none⟩ = some (.int .i64 0) by rw [hc _ _ (by simp)]; simp [go_sem])
    have R3 := hide (show w1.cell? ⟨w.heap.size, 3, none⟩ = some (.int .i64 0) by rw [hc _ _ (by simp)]; simp [go_sem])
    have R4 := hide (show w1.cell? ⟨w.heap.size, 4, none⟩ = some (.string ByteArray.empty) by rw [hc _ _ (by simp)]; simp [go_sem]; rfl)
    have RF := hide (show ∀ j, w1.frozen? ⟨w.heap.size, j, none⟩ = false from fun j => by rw [hf _ _ (by simp)]; simp [go_sem])
    go_wp2_with fail
    refine (unhide HA _).mono ?_
    rintro e w2 ⟨rfl, rfl⟩
    go_wp2_with fail
    refine (unhide HB _).mono ?_
    rintro e w3 ⟨rfl, rfl⟩
    go_wp2_with fail
    refine (unhide HC _).mono ?_
    rintro e w4 ⟨rfl, rfl⟩
    go_wp2_with fail
    refine (unhide HD _).mono ?_
    rintro e w5 ⟨rfl, rfl⟩
    go_wp2
    have N0 := hide (show ((w5.alloc (.cells #[.int .i64 x3, .int .i64 x4, .string (bs f)] 85)).drew).cell? ⟨w5.heap.size, 0, none⟩ = some (.int .i64 x3) from news_three _ _ _ _ 0 _ rfl)
    have N1 := hide (show ((w5.alloc (.cells #[.int .i64 x3, .int .i64 x4, .string (bs f)] 85)).drew).cell? ⟨w5.heap.size, 1, none⟩ = some (.int .i64 x4) from news_three _ _ _ _ 1 _ rfl)
    have N2 := hide (show ((w5.alloc (.cells #[.int .i64 x3, .int .i64 x4, .string (bs f)] 85)).drew).cell? ⟨w5.heap.size, 2, none⟩ = some (.string (bs f)) from news_three _ _ _ _ 2 _ rfl)
    go_region_with (go_at_call 109; refine (unhide HPL _).mono ?_; rintro e w6 ⟨rfl, hb6⟩; have hbb := ((Below.refl w5.heap.size w5).alloc (Nat.le_refl _) _).drew.trans (hb6.mono (by simp [heap_drew])); have r0 := (hbb.cell (p := ⟨w.heap.size, 0, none⟩) hz).trans (unhide R0); have r1 := (hbb.cell (p := ⟨w.heap.size, 1, none⟩) hz).trans (unhide R1); have r2 := (hbb.cell (p := ⟨w.heap.size, 2, none⟩) hz).trans (unhide R2); have r3 := (hbb.cell (p := ⟨w.heap.size, 3, none⟩) hz).trans (unhide R3); have r4 := (hbb.cell (p := ⟨w.heap.size, 4, none⟩) hz).trans (unhide R4); have rf := fun j => (hbb.frozen (p := ⟨w.heap.size, j, none⟩) hz).trans (unhide RF j); have hz6 := hbb.size; have n0 := (hb6.cell (p := ⟨w5.heap.size, 0, none⟩) (by simp [heap_drew])).trans (unhide N0); have n1 := (hb6.cell (p := ⟨w5.heap.size, 1, none⟩) (by simp [heap_drew])).trans (unhide N1); have n2 := (hb6.cell (p := ⟨w5.heap.size, 2, none⟩) (by simp [heap_drew])).trans (unhide N2); clear hb6)
    all_goals
      go_wp2
      refine bodyPost_ret (v := .tuple #[.agg #[.int .i64 x1, .int .i64 x2, .int .i64 x3, .int .i64 x4, .string (bs f)], .bool q]) (by simp [results, Tryz.results79, go_sem, r0, r1, r2, r3, r4]) rfl ⟨?_, ?_⟩
      · exact ⟨x1, x2, x3, x4, bs f, by rw [unhide HR]; cases q <;> rfl, fun x hx => by rw [unhide HR] at hx; cases q <;> cases hx; exact ⟨rfl, rfl, rfl, rfl, rfl⟩⟩
      · exact ((((((unhide HB0).trans (hbb.mono (by omega))).setCell (by simp) _).setCell (by simp) _).setCell (by simp) _).setCell (by simp) _).setCell (by simp) _
  all_goals
    have HR : Hid (R = none) := by
      apply hide; apply unhide HNO
      first | exact .inl h1 | exact .inr (.inl h2) | exact .inr (.inr (.inl h3)) | exact .inr (.inr (.inr h4))
    clear HYE HNO
    have hR := unhide HR
    subst hR
    clear HR
  case' inr.inr.inr.inl => subst h1 h2 h3 h4
  case' inr.inr.inl => subst h1 h2 h3
  case' inr.inl => subst h1 h2
  case' inl => subst h1
  all_goals
    go_enter Tryz.func79, Tryz.ntmps79
    go_wp2_with fail
    refine (unhide HBO _).mono ?_
    rintro e w1 ⟨rfl, rfl⟩
    go_wp2_with fail
    refine (unhide HP _).mono ?_
    rintro e w1 ⟨ao, cap, rfl, hrow, hbel⟩
    obtain ⟨g, hao, hg, hcel⟩ := hrow.2 (by omega)
    rw [hao]
    have c0 := hcel 0 _ rfl
    have c1 := hcel 1 _ rfl
    have c2 := hcel 2 _ rfl
    have c3 := hcel 3 _ rfl
    have c4 := hcel 4 _ rfl
    clear hcel hao hrow
    obtain ⟨hc, hf⟩ := bcell hbel
    have hz : w.heap.size + 1 ≤ w1.heap.size := by have := hbel.size; simp at this; omega
    have HB0 : Hid (Below w.heap.size w w1) := hide (((Below.refl _ _).alloc (Nat.le_refl _) _).trans (hbel.mono (by simp)))
    clear hbel
    go_wp2_with fail
    refine (unhide HA _).mono ?_
    rintro e w2 ⟨rfl, rfl⟩
    go_wp2_with fail
    refine (unhide HB _).mono ?_
    rintro e w3 ⟨rfl, rfl⟩
    go_wp2_with fail
    refine (unhide HC _).mono ?_
    rintro e w4 ⟨rfl, rfl⟩
    go_wp2_with fail
    refine (unhide HD _).mono ?_
    rintro e w5 ⟨rfl, rfl⟩
    go_wp2
    refine bodyPost_ret (v := .tuple #[.agg #[.int .i64 0, .int .i64 0, .int .i64 0, .int .i64 0, .string ByteArray.empty], .bool false]) (by simp [results, Tryz.results79, go_sem, hc]; rfl) rfl ⟨opRes_none, ?_⟩
    exact (((((unhide HB0).setCell (by simp) _).setCell (by simp) _).setCell (by simp) _).setCell (by simp) _).setCell (by simp) _
theorem readOp_any (s : ByteArray) (w : World) (hs : s.size ≤ 4000) :
    Calls Tryz.prog 79 #[.string s] w fun e w' => OpRes (readOp (sl s)) e ∧ Below w.heap.size w w' := by
  cases hb : bodyB (sl s) with
  | false => exact readOp_no s w hs (.inl hb)
  | true =>
    by_cases h5 : (parts (bodyS (sl s))).length = 5
    · obtain ⟨a, b, c, d, e, h⟩ := len5 h5
      exact readOp_yes s w hs a b c d e hb h
    · exact readOp_no s w hs (.inr ⟨hb, h5⟩)
end Go.Proofs.YtkjancfakplogaaGreatDoor
