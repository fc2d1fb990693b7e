import Derived.Test.YtkahmbpggdneoaaGreatDoorR1
import Derived.Test.YtkahmbpggdneoaaGreatDoorRPure2
namespace Go.Proofs.YtkahmbpggdneoaaGreatDoor
open Go.RowKit
theorem val_le4 (l : Str) (h : l.all digB = true) (hl : l.length ≤ 4) : val l ≤ 9999 := by
  have := val_lt l 0 h
  have h2 : 10 ^ l.length ≤ 10 ^ 4 := Nat.pow_le_pow_right (by omega) hl
  simp only [val]; omega
theorem all_take {s : ByteArray} {k : Nat} (h : k < s.size) (ha : ((sl s).take k).all digB = true) (hd : 48 ≤ s[k].toNat ∧ s[k].toNat ≤ 57) : ((sl s).take (k + 1)).all digB = true := by
  rw [take_snoc s k h, List.all_append, ha]; simp [(digB_iff _).2 hd]
theorem all_not {s : ByteArray} {k : Nat} (h : k < s.size) (hd : ¬ (48 ≤ s[k].toNat ∧ s[k].toNat ≤ 57)) : (sl s).all digB = false := by
  rw [← List.take_append_drop k (sl s), List.all_append, drop_cons s k h, List.all_cons]
  have : digB s[k] = false := by cases hq : digB s[k]; rfl; exact absurd ((digB_iff _).1 hq) hd
  rw [this]; simp
set_option maxHeartbeats 2000000 in
theorem rnumber_any (s : ByteArray) (lo hi : Int) (w : World) (hs : s.size ≤ 4000) (hb : 0 ≤ hi) (hb' : hi ≤ 9999) :
    Calls Tryz.prog 74 #[.string s, .int .i64 lo, .int .i64 hi] w fun e w' => e = .returned (.int .i64 (numR (sl s) lo hi)) ∧ Below w.heap.size w w' := by
  by_cases h1 : s.size < 1
  · have HF : Hid (numR (sl s) lo hi = -1) := hide (numR_empty (by rw [sl_length]; exact h1))
    go_enter Tryz.func74, Tryz.ntmps74
    go_wp2
    go_ret
    exact ⟨ret_int (unhide HF).symm, Below.refl _ _⟩
  · by_cases h4 : 4 < s.size
    · have HF : Hid (numR (sl s) lo hi = -1) := hide (numR_long hb hb' (by rw [sl_length]; exact h4))
      go_enter Tryz.func74, Tryz.ntmps74
      go_wp2
      go_ret
      exact ⟨ret_int (unhide HF).symm, Below.refl _ _⟩
    · go_enter Tryz.func74, Tryz.ntmps74
      go_wp2
      go_loop [7, 8] (fun n i => ∃ k m : Nat, k ≤ s.size ∧ i = .int .i64 k ∧ n = .int .i64 m ∧ m ≤ 9999 ∧ Hid (m = val ((sl s).take k) ∧ ((sl s).take k).all digB = true)) (fun _ i => s.size - (intOf i).toNat)
      case atStart => exact ⟨0, 0, Nat.zero_le _, rfl, rfl, by omega, hide ⟨by simp [val, valF], by simp⟩⟩
      case round =>
        obtain ⟨k, m, hk, rfl, rfl, hm, HI⟩ := hrel
        by_cases hlt : k < s.size
        · by_cases hd : 48 ≤ s[k].toNat ∧ s[k].toNat ≤ 57
          · have HA := hide (all_take hlt (unhide HI).2 hd)
            have HV : Hid (m * 10 + (s[k].toNat - 48) = val ((sl s).take (k + 1))) := by
              apply hide; rw [take_snoc s k hlt, val_snoc, ← (unhide HI).1]
            have hb4 : m * 10 + (s[k].toNat - 48) ≤ 9999 := by
              rw [unhide HV]; exact val_le4 _ (unhide HA) (by rw [List.length_take]; omega)
            obtain ⟨hd1, hd2⟩ := hd
            go_wp2
            go_round
            case rel => exact ⟨k + 1, m * 10 + (s[k].toNat - 48), by omega, by go_num, by go_num, hb4, hide ⟨unhide HV, unhide HA⟩⟩
            case measure => simp [intOf]; omega
          · have HF : Hid (numR (sl s) lo hi = -1) := hide (numR_nodig (all_not hlt hd))
            have hd' : s[k].toNat < 48 ∨ 57 < s[k].toNat := by omega
            clear hd
            rcases hd' with hd | hd
            all_goals
              go_wp2
              go_ret
              exact ⟨ret_int (unhide HF).symm, Below.refl _ _⟩
        · have hks : k = s.size := by omega
          subst hks
          have hI := unhide HI
          rw [List.take_of_length_le (by rw [sl_length]; omega)] at hI
          have HI2 := hide hI; clear hI HI
          by_cases hlo : (m : Int) < lo
          · have HF : Hid (numR (sl s) lo hi = -1) := hide (numR_out (unhide HI2).2 hb (by rw [← (unhide HI2).1]; exact .inl hlo))
            go_wp2
            go_ret
            exact ⟨ret_int (unhide HF).symm, Below.refl _ _⟩
          · by_cases hhi : hi < (m : Int)
            · have HF : Hid (numR (sl s) lo hi = -1) := hide (numR_out (unhide HI2).2 hb (by rw [← (unhide HI2).1]; exact .inr hhi))
              go_wp2
              go_ret
              exact ⟨ret_int (unhide HF).symm, Below.refl _ _⟩
            · have HD := hide (fun W => digits_nat m W (by omega))
              by_cases he : dec m = sl s
              · have HF : Hid (numR (sl s) lo hi = m) := by
                  apply hide; rw [numR_eq (unhide HI2).2 hb (by rw [← (unhide HI2).1]; exact he), ← (unhide HI2).1, if_pos (by omega)]
                have hne : ((bs (dec m)).toList == s.toList) = true := by rw [tl_sl, tl_sl, sl_bs, he]; simp
                have HE := hide he; clear he
                go_wp2_with fail
                refine (unhide HD _).mono ?_
                rintro e w1 ⟨rfl, hb1⟩
                go_wp2
                go_ret
                exact ⟨ret_int (unhide HF).symm, hb1⟩
              · have HF : Hid (numR (sl s) lo hi = -1) := hide (numR_ne (unhide HI2).2 (by rw [← (unhide HI2).1]; exact he))
                have hne : ((bs (dec m)).toList == s.toList) = false := by rw [tl_sl, tl_sl, sl_bs]; simpa using he
                have HE := hide he; clear he
                go_wp2_with fail
                refine (unhide HD _).mono ?_
                rintro e w1 ⟨rfl, hb1⟩
                go_wp2
                go_ret
                exact ⟨ret_int (unhide HF).symm, hb1⟩
end Go.Proofs.YtkahmbpggdneoaaGreatDoor
