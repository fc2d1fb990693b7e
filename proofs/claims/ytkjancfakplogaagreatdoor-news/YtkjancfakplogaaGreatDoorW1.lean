import Derived.Test.YtkjancfakplogaaGreatDoorPure1
import Derived.Test.YtkjancfakplogaaGreatDoorRows
import Derived.WalkKit
import Derived.WalkSpells
import Derived.WalkLawsBesides
namespace Go.Proofs.YtkjancfakplogaaGreatDoor
open Go.RowKit
set_option maxHeartbeats 400000 in
theorem isPlain_any (c : UInt8) (w : World) :
    Calls Tryz.prog 129 #[.int .u8 c.toNat] w fun e w' => e = .returned (.bool (plainB c)) ∧ w' = w := by
  go_enter Tryz.func129, Tryz.ntmps129
  go_wp2
  all_goals
    go_ret
    refine ⟨ret_bool ?_, rfl⟩
    rw [Bool.eq_iff_iff]; simp [plainB]; omega
set_option maxHeartbeats 400000 in
theorem isFolder_any (n : Int) (w : World) (h0 : 0 ≤ n) (h1 : n ≤ 1000) :
    Calls Tryz.prog 124 #[.int .i64 n] w fun e w' => e = .returned (.bool (n % 2 == 0)) ∧ w' = w := by
  go_enter Tryz.func124, Tryz.ntmps124
  go_wp2
  all_goals
    go_ret
    exact ⟨rfl, rfl⟩
set_option maxHeartbeats 400000 in
theorem plainBytes_any (s : ByteArray) (w : World) (hs : s.size ≤ 4000) :
    Calls Tryz.prog 125 #[.string s] w fun e w' => e = .returned (.int .i64 (plainLen (sl s))) ∧ w' = w := by
  go_enter Tryz.func125, Tryz.ntmps125
  go_wp2
  go_loop [3] (fun i => ∃ k : Nat, k ≤ s.size ∧ i = .int .i64 k ∧ ((sl s).take k).all plainB = true) (fun i => s.size - (intOf i).toNat)
  case atStart => exact ⟨0, Nat.zero_le _, rfl, by simp⟩
  case round =>
    obtain ⟨k, hk, rfl, ha⟩ := hrel
    by_cases hlt : k < s.size
    · cases hp : plainB s[k]
      · have HP := hide hp; clear hp
        have HA := hide ha; clear ha
        go_wp2_with (go_at_call 129; refine (isPlain_any _ _).mono ?_; rintro e w' ⟨rfl, rfl⟩; rw [unhide HP])
        go_ret
        refine ⟨ret_int ?_, rfl⟩
        rw [plainLen_stop (sl s) k (by rw [sl_length]; omega) (unhide HA) (fun c r h => by rw [drop_cons s k hlt] at h; cases h; exact unhide HP)]
      · have HP := hide hp; clear hp
        have HA := hide ha; clear ha
        go_wp2_with (go_at_call 129; refine (isPlain_any _ _).mono ?_; rintro e w' ⟨rfl, rfl⟩; rw [unhide HP])
        go_round
        case rel => exact ⟨k + 1, by omega, by go_num, by rw [take_snoc s k hlt]; simp [unhide HP]; simpa using unhide HA⟩
        case measure => simp [intOf]; omega
    · have HA := hide ha; clear ha
      go_wp2
      go_ret
      refine ⟨ret_int ?_, rfl⟩
      rw [plainLen_stop (sl s) k (by rw [sl_length]; omega) (unhide HA) (fun c r h => by rw [List.drop_eq_nil_of_le (by rw [sl_length]; omega)] at h; cases h)]
set_option maxHeartbeats 400000 in
theorem body_any (s : ByteArray) (w : World) (hs : s.size ≤ 4000) :
    Calls Tryz.prog 90 #[.string s] w fun e w' => e = .returned (.tuple #[.string (bs (bodyS (sl s))), .bool (bodyB (sl s))]) ∧ w' = w := by
  by_cases h0 : 0 < s.size
  · have HB := hide (bodyB_at s h0)
    by_cases hc : s[s.size - 1] = 59
    · go_enter Tryz.func90, Tryz.ntmps90
      go_wp2
      go_ret2
      have h := unhide HB; rw [hc] at h
      exact ⟨ret_sb (by rw [bodyS, h]; exact dropLast_ext s) (by rw [h]; rfl), rfl⟩
    · have hc' : (((s[s.size - 1]).toNat : Int) != 59) = true := by
        rw [bne_iff_ne]; intro h; exact hc (UInt8.toNat_inj.1 (by simpa using (by omega : (s[s.size - 1]).toNat = 59)))
      have HC := hide hc; clear hc
      go_enter Tryz.func90, Tryz.ntmps90
      go_wp2
      go_ret2
      have h := unhide HB
      have h' : bodyB (sl s) = false := by rw [h]; exact beq_eq_false_iff_ne.2 (unhide HC)
      exact ⟨ret_sb (by rw [bodyS, h']; rfl) (by rw [h']), rfl⟩
  · have hz : s.size = 0 := by omega
    have HB := hide (bodyB_nil s hz)
    go_enter Tryz.func90, Tryz.ntmps90
    go_wp2
    go_ret2
    exact ⟨ret_sb (by rw [bodyS, unhide HB]; rfl) (by rw [unhide HB]), rfl⟩
theorem ret_num {l : Str} {a b x : Int} {y : Bool} (h : number l a b = (x, y)) : Ending.returned (.tuple #[.int .i64 x, .bool y]) = .returned (.tuple #[.int .i64 (number l a b).1, .bool (number l a b).2]) := by rw [h]
set_option maxHeartbeats 1000000 in
theorem number_loop (s : ByteArray) (a b : Int) (w : World) (hs : s.size ≤ 4000) (hb : 0 ≤ b) (hb' : b ≤ 100000) (h0 : 0 < s.size) (h48 : ¬ (s[0].toNat = 48 ∧ 1 < s.size)) :
    Calls Tryz.prog 96 #[.string s, .int .i64 a, .int .i64 b] w fun e w' => e = .returned (.tuple #[.int .i64 (number (sl s) a b).1, .bool (number (sl s) a b).2]) ∧ w' = w := by
  have HB := hide (numBad_not s h0 h48)
  have hne := ne_nil_at s h0
  have hne2 : s.toList.isEmpty = false := by rw [List.isEmpty_eq_false_iff]; exact hne
  have hz : (0 : Int) < s.size := by omega
  have key : (((s[0].toNat : Int) == 48) = true ∧ (s.size : Int) ≤ 1) ∨ ((s[0].toNat : Int) == 48) = false := by
    by_cases e : s[0].toNat = 48
    · left; exact ⟨by rw [beq_iff_eq]; omega, by omega⟩
    · right; rw [beq_eq_false_iff_ne]; omega
  clear h48
  rcases key with ⟨e48, e1⟩ | e48
  all_goals
    go_enter Tryz.func96, Tryz.ntmps96
    go_wp2
    go_loop [8, 9] (fun n i => ∃ k : Nat, ∃ m : Int, k ≤ s.size ∧ i = .int .i64 k ∧ n = .int .i64 m ∧ 0 ≤ m ∧ m ≤ b ∧ Hid (numGo b 0 (sl s) = numGo b m ((sl s).drop k))) (fun _ i => s.size - (intOf i).toNat)
    case atStart => exact ⟨0, 0, Nat.zero_le _, rfl, rfl, by omega, hb, hide (by simp)⟩
    case round =>
      obtain ⟨k, m, hk, rfl, rfl, hm0, hmb, HG⟩ := hrel
      by_cases hlt : k < s.size
      · have HD := hide (drop_cons s k hlt)
        clear e48 hne hne2
        by_cases hd : 48 ≤ s[k].toNat ∧ s[k].toNat ≤ 57
        · obtain ⟨hd1, hd2⟩ := hd
          by_cases hbig : m * 10 + ((s[k].toNat : Int) - 48) > b
          · have HF : Hid (number (sl s) a b = (0, false)) := by
              apply hide; apply number_none; rw [unhide HG, unhide HD]; exact numGo_big hbig
            go_wp2
            go_ret2
            exact ⟨ret_num (unhide HF), rfl⟩
          · have HF : Hid (numGo b 0 (sl s) = numGo b (m * 10 + ((s[k].toNat : Int) - 48)) ((sl s).drop (k + 1))) := by
              apply hide; rw [unhide HG, unhide HD]; exact numGo_cons hd1 hd2 hbig
            go_wp2
            go_round
            case rel => exact ⟨k + 1, m * 10 + ((s[k].toNat : Int) - 48), by omega, by go_num, by go_num, by omega, by omega, HF⟩
            case measure => simp [intOf]; omega
        · have HF : Hid (number (sl s) a b = (0, false)) := by
            apply hide; apply number_none; rw [unhide HG, unhide HD]; exact numGo_no hd
          have hd' : s[k].toNat < 48 ∨ 57 < s[k].toNat := by omega
          clear hd
          rcases hd' with hd | hd
          all_goals
            go_wp2
            go_ret2
            exact ⟨ret_num (unhide HF), rfl⟩
      · have HF : Hid (number (sl s) a b = (m, decide (a ≤ m))) := by
          apply hide; apply number_some (unhide HB); rw [unhide HG, List.drop_eq_nil_of_le (by rw [sl_length]; omega)]; rfl
        go_wp2
        go_ret2
        exact ⟨ret_num (unhide HF), rfl⟩
set_option maxHeartbeats 1000000 in
theorem number_any (s : ByteArray) (a b : Int) (w : World) (hs : s.size ≤ 4000) (hb : 0 ≤ b) (hb' : b ≤ 100000) :
    Calls Tryz.prog 96 #[.string s, .int .i64 a, .int .i64 b] w fun e w' => e = .returned (.tuple #[.int .i64 (number (sl s) a b).1, .bool (number (sl s) a b).2]) ∧ w' = w := by
  by_cases h0 : 0 < s.size
  · by_cases h48 : s[0].toNat = 48 ∧ 1 < s.size
    · have HB := hide (numBad_zero s h48.2 h48.1)
      have hne := ne_nil_at s h0
      have hne2 : s.toList.isEmpty = false := by rw [List.isEmpty_eq_false_iff]; exact hne
      have e48 : ((s[0].toNat : Int) == 48) = true := by rw [beq_iff_eq]; omega
      have h1 : (1 : Int) < s.size := by omega
      clear h48
      go_enter Tryz.func96, Tryz.ntmps96
      go_wp2
      go_ret2
      exact ⟨ret_num (number_bad (unhide HB)), rfl⟩
    · exact number_loop s a b w hs hb hb' h0 h48
  · have HB := hide (numBad_empty s (by omega))
    have hne := nil_at s (by omega)
    go_enter Tryz.func96, Tryz.ntmps96
    go_wp2
    go_ret2
    exact ⟨ret_num (number_bad (unhide HB)), rfl⟩
end Go.Proofs.YtkjancfakplogaaGreatDoor
