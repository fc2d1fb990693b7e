import Derived.Test.YtkahmbpggdneoaaGreatDoorR2
import Derived.Deep.RegionHeld3
import Derived.Deep.DrawnRows
namespace Go.Proofs.YtkahmbpggdneoaaGreatDoor
open Go.RowKit
attribute [local go_sem ↓] Go.wp_at_zero Go.wp_at_succ
theorem plain_tilde : plainB 126 = false := by decide
theorem isName_at {s : ByteArray} {id : Int} {p : Nat} (hp : plainLen (sl s) = p) : isName (sl s) id = (decide (1 ≤ p) && decide (p ≤ 8) && (p == s.size || (sl s).drop p == 126 :: digs id)) := by
  unfold isName; rw [hp, sl_length]
set_option maxHeartbeats 2000000 in
theorem named_any (s : ByteArray) (id : Int) (w : World) (hs : s.size ≤ 4000) (h0 : 0 ≤ id) (h1 : id ≤ 99) :
    Calls Tryz.prog 81 #[.int .i64 id, .string s] w fun e w' => e = .returned (.bool (isName (sl s) id)) ∧ Below w.heap.size w w' := by
  have HD := hide (fun W => digits_any id W h0 (by omega))
  have HDD : Hid (dec id.toNat = digs id) := by apply hide; rw [← digs_dec id.toNat (by omega), Int.toNat_of_nonneg h0]
  rw [unhide HDD] at HD
  go_enter Tryz.func81, Tryz.ntmps81
  go_wp2
  go_loop [5] (fun i => ∃ k : Nat, k ≤ s.size ∧ i = .int .i64 k ∧ Hid (((sl s).take k).all plainB = true)) (fun i => s.size - (intOf i).toNat)
  case atStart => exact ⟨0, Nat.zero_le _, rfl, hide (by simp)⟩
  case round =>
    obtain ⟨k, hk, rfl, HA⟩ := hrel
    by_cases hgo : ∃ h : k < s.size, plainB s[k] = true
    · obtain ⟨hlt, hp⟩ := hgo
      have HA2 : Hid (((sl s).take (k + 1)).all plainB = true) := by apply hide; rw [take_snoc s k hlt]; simp [hp]; simpa using unhide HA
      have key : ((s[k].toNat : Int) != 126) = true ∧ ((97 ≤ s[k].toNat ∧ s[k].toNat ≤ 122) ∨ (48 ≤ s[k].toNat ∧ s[k].toNat ≤ 57) ∨ s[k].toNat = 46) := by
        simp [plainB] at hp
        refine ⟨by rw [bne_iff_ne]; omega, by omega⟩
      obtain ⟨ht, hc⟩ := key
      clear hp
      rcases hc with ⟨c1, c2⟩ | ⟨c1, c2⟩ | c1
      · go_wp2
        go_round
        case rel => exact ⟨k + 1, by omega, by go_num, HA2⟩
        case measure => simp [intOf]; omega
      · go_wp2
        go_round
        case rel => exact ⟨k + 1, by omega, by go_num, HA2⟩
        case measure => simp [intOf]; omega
      · have c3 : ((s[k].toNat : Int) != 46) = false := by rw [bne_eq_false_iff_eq]; omega
        have c4 : (s[k].toNat : Int) < 48 := by omega
        have c5 : (s[k].toNat : Int) < 97 := by omega
        clear c1
        go_wp2
        go_round
        case rel => exact ⟨k + 1, by omega, by go_num, HA2⟩
        case measure => simp [intOf]; omega
    · have HPL : Hid (plainLen (sl s) = k) := by
        apply hide
        refine plainLen_stop (sl s) k (by rw [sl_length]; exact hk) (unhide HA) (fun c r h => ?_)
        by_cases hlt : k < s.size
        · rw [drop_cons s k hlt] at h; cases h
          cases hq : plainB s[k]
          · rfl
          · exact absurd ⟨hlt, hq⟩ hgo
        · rw [List.drop_eq_nil_of_le (by rw [sl_length]; omega)] at h; cases h
      have HN := hide (isName_at (id := id) (unhide HPL))
      by_cases hlt : k < s.size
      · by_cases ht : s[k] = 126
        · have ht' : ((s[k].toNat : Int) != 126) = false := by rw [bne_eq_false_iff_eq, ht]; rfl
          have hke : ((k : Int) == (s.size : Int)) = false := by rw [beq_eq_false_iff_ne]; omega
          have HKE : Hid ((k == s.size) = false) := hide (by rw [beq_eq_false_iff_ne]; omega)
          clear ht hgo
          by_cases hk1 : 1 ≤ k
          · by_cases hk8 : k ≤ 8
            · have HF : Hid (isName (sl s) id = ((sl s).drop k == 126 :: digs id)) := by apply hide; rw [unhide HN, unhide HKE]; simp [hk1, hk8]
              have hadd : ∀ W : World, (Op.stringOp .add ⟨#[126]⟩ (bs (digs id))).run Tryz.prog W = .ok (.string (⟨#[126]⟩ ++ bs (digs id))) W := fun W => run_string_add_sum (P := Tryz.prog) W _ _ (by rw [bs_size]; have := digs_len id; show 1 + _ ≤ _; omega)
              have hk0 : (0 : Int) ≤ (k : Int) := by omega
              have hks : (k : Int) ≤ (s.size : Int) := by omega
              have hd1 : decide (1 ≤ (k : Int)) = true := by simp; omega
              have hd8 : decide ((k : Int) ≤ 8) = true := by simp; omega
              go_wp2
              go_region_held3 (fun _ => True) (trivial) ((go_at_call 27; refine (unhide HD _).mono ?_; rintro e w1 ⟨rfl, hb1⟩))
              go_wp2
              go_ret
              exact ⟨ret_bool (by rw [tail_eq, unhide HF]), (Below.refl w.heap.size w).drew.trans hb1⟩
            · have HF : Hid (isName (sl s) id = false) := by apply hide; rw [unhide HN]; simp [hk8]
              have hd8 : decide ((k : Int) ≤ 8) = false := by simp; omega
              have hd1 : decide (1 ≤ (k : Int)) = true := by simp; omega
              go_wp2
              go_quiet (fail)
              go_wp2
              go_ret
              exact ⟨ret_bool (unhide HF).symm, below_drewN (Below.refl _ _) _⟩
          · have HF : Hid (isName (sl s) id = false) := by apply hide; rw [unhide HN]; simp [hk1]
            have hd1 : decide (1 ≤ (k : Int)) = false := by simp; omega
            go_wp2
            go_quiet (fail)
            go_wp2
            go_ret
            exact ⟨ret_bool (unhide HF).symm, below_drewN (Below.refl _ _) _⟩
        · have HF : Hid (isName (sl s) id = false) := by
            apply hide; rw [unhide HN]
            have e1 : (k == s.size) = false := by rw [beq_eq_false_iff_ne]; omega
            have e2 : ((sl s).drop k == 126 :: digs id) = false := by rw [drop_cons s k hlt, beq_eq_false_iff_ne]; intro h; injection h with h _; exact ht h
            rw [e1, e2]; simp
          have ht' : ((s[k].toNat : Int) != 126) = true := by
            rw [bne_iff_ne]; intro h; exact ht (UInt8.toNat_inj.1 (by simpa using (by omega : (s[k]).toNat = 126)))
          have hcc : (s[k].toNat < 48 ∧ ((s[k].toNat : Int) != 46) = true) ∨ (57 < s[k].toNat ∧ s[k].toNat < 97 ∧ ((s[k].toNat : Int) != 46) = true) ∨ (122 < s[k].toNat ∧ ((s[k].toNat : Int) != 46) = true) := by
            have hq : plainB s[k] = false := by
              cases hq : plainB s[k]
              · rfl
              · exact absurd ⟨hlt, hq⟩ hgo
            simp [plainB] at hq
            have : ((s[k].toNat : Int) != 46) = true := by rw [bne_iff_ne]; omega
            simp only [this, and_true]
            omega
          clear ht hgo
          rcases hcc with ⟨c1, c2⟩ | ⟨c1, c2, c3⟩ | ⟨c1, c2⟩
          all_goals
            go_wp2
            go_ret
            exact ⟨ret_bool (unhide HF).symm, Below.refl _ _⟩
      · have hke : k = s.size := by omega
        clear hgo
        have hke' : ((k : Int) == (s.size : Int)) = true := by rw [beq_iff_eq]; omega
        by_cases hk1 : 1 ≤ k
        · by_cases hk8 : k ≤ 8
          · have HF : Hid (isName (sl s) id = true) := by apply hide; rw [unhide HN]; simp [hk1, hk8, hke.symm]
            have hd1 : decide (1 ≤ (k : Int)) = true := by simp; omega
            have hd8 : decide ((k : Int) ≤ 8) = true := by simp; omega
            clear hke
            go_wp2
            go_quiet (fail)
            go_wp2
            go_ret
            exact ⟨ret_bool (unhide HF).symm, below_drewN (Below.refl _ _) _⟩
          · have HF : Hid (isName (sl s) id = false) := by apply hide; rw [unhide HN]; simp [hk8]
            have hd8 : decide ((k : Int) ≤ 8) = false := by simp; omega
            have hd1 : decide (1 ≤ (k : Int)) = true := by simp; omega
            clear hke
            go_wp2
            go_quiet (fail)
            go_wp2
            go_ret
            exact ⟨ret_bool (unhide HF).symm, below_drewN (Below.refl _ _) _⟩
        · have HF : Hid (isName (sl s) id = false) := by apply hide; rw [unhide HN]; simp [hk1]
          have hd1 : decide (1 ≤ (k : Int)) = false := by simp; omega
          clear hke
          go_wp2
          go_quiet (fail)
          go_wp2
          go_ret
          exact ⟨ret_bool (unhide HF).symm, below_drewN (Below.refl _ _) _⟩
end Go.Proofs.YtkahmbpggdneoaaGreatDoor
