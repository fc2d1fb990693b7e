import Derived.Test.YtdcjimlhaklhfabGreatDoorHi2
import Derived.Test.YtdcjimlhaklhfabGreatDoorHi1
import Derived.Laws.BytesArg
import Derived.Deep.RegionHeld3
import Derived.Deep.DrawnRows
import Derived.Deep.Cut
import Derived.Test.YtdcjimlhaklhfabGreatDoorHi4
namespace Go.Proofs.YtdcjimlhaklhfabGreatDoor
open Go.RowKit
theorem conv_one (W : World) (x : Int) : (convert 159 9 (.slice (some ⟨W.heap.size, 0, none⟩) 1 1)).run Tryz.prog (W.alloc (.cells #[.int .u8 x] 5)) = .ok (.string (bs [UInt8.ofNat x.toNat])) (W.alloc (.cells #[.int .u8 x] 5)) := by
  have := run_convert_bytes_arg (P := Tryz.prog) (W.alloc (.cells #[.int .u8 x] 5)) 159 5 Tryz.underlying159 Tryz.underlying5 W.heap.size 0 1 1 [x] rfl (fun i hi => by
    have hi0 : i = 0 := by omega
    subst hi0
    have := news_one (w := W) (.int .u8 x) 5 0 _ rfl
    exact this) 9 Tryz.underlying9
  exact this
theorem sl_append' (a b : ByteArray) : sl (a ++ b) = sl a ++ sl b := by simp [sl, ByteArray.data_append]
theorem bs_append (a b : Str) : bs a ++ bs b = bs (a ++ b) := by
  have h := sl_append' (bs a) (bs b)
  rw [sl_bs, sl_bs] at h
  rw [← bs_sl (bs a ++ bs b), h]
theorem add_one (S : Str) (h : S.length ≤ 1000000) (W : World) (c : UInt8) : (Op.stringOp .add (bs [c]) (bs S)).run Tryz.prog W = .ok (.string (bs (c :: S))) W := by
  rw [run_string_add_sum (P := Tryz.prog) W _ _ (by rw [bs_size, bs_size]; simp; omega), bs_append]; rfl
def DigInv (n m : Nat) (S : Str) : Prop := ∃ t, S = UInt8.ofNat (48 + m % 10) :: t ∧ dec n = dec m ++ t ∧ t.length + m ≤ n
theorem digInv_step {n m : Nat} {S : Str} (h : DigInv n m S) (hm : 10 ≤ m) : DigInv n (m / 10) (UInt8.ofNat (48 + m / 10 % 10) :: S) := by
  obtain ⟨t, h1, h2, h3⟩ := h
  refine ⟨S, rfl, ?_, ?_⟩
  · rw [h2, dec_big (by omega), h1]; simp
  · rw [h1]; simp; omega
theorem digInv_end {n m : Nat} {S : Str} (h : DigInv n m S) (hm : ¬ 10 ≤ m) : dec n = S := by
  obtain ⟨t, h1, h2, h3⟩ := h
  rw [h2, dec_small (by omega), h1]; rfl
theorem digInv_len {n m : Nat} {S : Str} (h : DigInv n m S) : S.length ≤ n + 1 := by
  obtain ⟨t, h1, h2, h3⟩ := h
  rw [h1]; simp; omega
set_option maxHeartbeats 1000000 in
theorem digits_nat (n : Nat) (w : World) (hn : n ≤ 99999) :
    Calls Tryz.prog 81 #[.int .i64 n] w fun e w' => e = .returned (.string (bs (dec n))) ∧ Below w.heap.size w w' := by
  have hconv := conv_one
  have hm0 : (0 : Int) ≤ (n : Int) % 10 := by omega
  have hm1 : (n : Int) % 10 ≤ 9 := by omega
  go_enter Tryz.func81, Tryz.ntmps81
  go_wp2
  go_loopw [0, 3] (fun a b wr => ∃ m : Nat, ∃ S : Str, m ≤ n ∧ a = .int .i64 m ∧ b = .string (bs S) ∧ Below w.heap.size w wr ∧ Hid (DigInv n m S)) (fun a _ _ => (intOf a).toNat)
  case atStart => exact ⟨n, _, Nat.le_refl _, rfl, rfl, (Below.refl _ _).alloc (Nat.le_refl _) _, hide ⟨[], rfl, by simp, by simp⟩⟩
  case round =>
    obtain ⟨m, S, hm, rfl, rfl, hbel, HI⟩ := hrel
    clear hm0 hm1
    by_cases hge : 10 ≤ m
    · have hadd := add_one S (by have := digInv_len (unhide HI); omega)
      have HI2 := hide (digInv_step (unhide HI) hge)
      have hq0 : (0 : Int) ≤ (m : Int) / 10 % 10 := by omega
      have hq1 : (m : Int) / 10 % 10 ≤ 9 := by omega
      have hsz := hbel.size
      go_wp2
      go_roundw
      case rel => exact ⟨m / 10, _, by omega, by go_num, rfl, hbel.alloc hsz _, by rw [show ((48 : UInt8) + UInt8.ofNat (m / 10 % 10)) = UInt8.ofNat (48 + m / 10 % 10) by simp]; exact HI2⟩
      case measure => simp [intOf]; omega
    · have HE := hide (digInv_end (unhide HI) hge)
      go_wp2
      go_ret
      exact ⟨ret_str (by rw [unhide HE]), hbel⟩
theorem digits_any (n : Int) (w : World) (h0 : 0 ≤ n) (h1 : n ≤ 99999) :
    Calls Tryz.prog 81 #[.int .i64 n] w fun e w' => e = .returned (.string (bs (dec n.toNat))) ∧ Below w.heap.size w w' := by
  obtain ⟨m, rfl⟩ := Int.eq_ofNat_of_zero_le h0
  exact digits_nat m w (by omega)
end Go.Proofs.YtdcjimlhaklhfabGreatDoor

namespace Go.Proofs.YtdcjimlhaklhfabGreatDoor
open Go.RowKit
theorem val_le4 (l : Str) (h : l.all digB = true) (hl : l.length ≤ 4) : val l ≤ 9999 := by
  have := val_lt l 0 h
  have h2 : 10 ^ l.length ≤ 10 ^ 4 := Nat.pow_le_pow_right (by omega) hl
  simp only [val]; omega
theorem all_take {s : ByteArray} {k : Nat} (h : k < s.size) (ha : ((sl s).take k).all digB = true) (hd : 48 ≤ s[k].toNat ∧ s[k].toNat ≤ 57) : ((sl s).take (k + 1)).all digB = true := by
  rw [take_snoc s k h, List.all_append, ha]; simp [(digB_iff _).2 hd]
theorem all_not {s : ByteArray} {k : Nat} (h : k < s.size) (hd : ¬ (48 ≤ s[k].toNat ∧ s[k].toNat ≤ 57)) : (sl s).all digB = false := by
  rw [← List.take_append_drop k (sl s), List.all_append, drop_cons s k h, List.all_cons]
  have : digB s[k] = false := by cases hq : digB s[k]; rfl; exact absurd ((digB_iff _).1 hq) hd
  rw [this]; simp
set_option maxHeartbeats 2000000 in
theorem rnumber_any (s : ByteArray) (lo hi : Int) (w : World) (hs : s.size ≤ 4000) (hb : 0 ≤ hi) (hb' : hi ≤ 9999) :
    Calls Tryz.prog 142 #[.string s, .int .i64 lo, .int .i64 hi] w fun e w' => e = .returned (.int .i64 (numR (sl s) lo hi)) ∧ Below w.heap.size w w' := by
  by_cases h1 : s.size < 1
  · have HF : Hid (numR (sl s) lo hi = -1) := hide (numR_empty (by rw [sl_length]; exact h1))
    go_enter Tryz.func142, Tryz.ntmps142
    go_wp2
    go_ret
    exact ⟨ret_int (unhide HF).symm, Below.refl _ _⟩
  · by_cases h4 : 4 < s.size
    · have HF : Hid (numR (sl s) lo hi = -1) := hide (numR_long hb hb' (by rw [sl_length]; exact h4))
      go_enter Tryz.func142, Tryz.ntmps142
      go_wp2
      go_ret
      exact ⟨ret_int (unhide HF).symm, Below.refl _ _⟩
    · go_enter Tryz.func142, Tryz.ntmps142
      go_wp2
      go_loop [7, 8] (fun n i => ∃ k m : Nat, k ≤ s.size ∧ i = .int .i64 k ∧ n = .int .i64 m ∧ m ≤ 9999 ∧ Hid (m = val ((sl s).take k) ∧ ((sl s).take k).all digB = true)) (fun _ i => s.size - (intOf i).toNat)
      case atStart => exact ⟨0, 0, Nat.zero_le _, rfl, rfl, by omega, hide ⟨by simp [val, valF], by simp⟩⟩
      case round =>
        obtain ⟨k, m, hk, rfl, rfl, hm, HI⟩ := hrel
        by_cases hlt : k < s.size
        · by_cases hd : 48 ≤ s[k].toNat ∧ s[k].toNat ≤ 57
          · have HA := hide (all_take hlt (unhide HI).2 hd)
            have HV : Hid (m * 10 + (s[k].toNat - 48) = val ((sl s).take (k + 1))) := by
              apply hide; rw [take_snoc s k hlt, val_snoc, ← (unhide HI).1]
            have hb4 : m * 10 + (s[k].toNat - 48) ≤ 9999 := by
              rw [unhide HV]; exact val_le4 _ (unhide HA) (by rw [List.length_take]; omega)
            obtain ⟨hd1, hd2⟩ := hd
            go_wp2
            go_round
            case rel => exact ⟨k + 1, m * 10 + (s[k].toNat - 48), by omega, by go_num, by go_num, hb4, hide ⟨unhide HV, unhide HA⟩⟩
            case measure => simp [intOf]; omega
          · have HF : Hid (numR (sl s) lo hi = -1) := hide (numR_nodig (all_not hlt hd))
            have hd' : s[k].toNat < 48 ∨ 57 < s[k].toNat := by omega
            clear hd
            rcases hd' with hd | hd
            all_goals
              go_wp2
              go_ret
              exact ⟨ret_int (unhide HF).symm, Below.refl _ _⟩
        · have hks : k = s.size := by omega
          subst hks
          have hI := unhide HI
          rw [List.take_of_length_le (by rw [sl_length]; omega)] at hI
          have HI2 := hide hI; clear hI HI
          by_cases hlo : (m : Int) < lo
          · have HF : Hid (numR (sl s) lo hi = -1) := hide (numR_out (unhide HI2).2 hb (by rw [← (unhide HI2).1]; exact .inl hlo))
            go_wp2
            go_ret
            exact ⟨ret_int (unhide HF).symm, Below.refl _ _⟩
          · by_cases hhi : hi < (m : Int)
            · have HF : Hid (numR (sl s) lo hi = -1) := hide (numR_out (unhide HI2).2 hb (by rw [← (unhide HI2).1]; exact .inr hhi))
              go_wp2
              go_ret
              exact ⟨ret_int (unhide HF).symm, Below.refl _ _⟩
            · have HD := hide (fun W => digits_nat m W (by omega))
              by_cases he : dec m = sl s
              · have HF : Hid (numR (sl s) lo hi = m) := by
                  apply hide; rw [numR_eq (unhide HI2).2 hb (by rw [← (unhide HI2).1]; exact he), ← (unhide HI2).1, if_pos (by omega)]
                have hne : ((bs (dec m)).toList == s.toList) = true := by rw [tl_sl, tl_sl, sl_bs, he]; simp
                have HE := hide he; clear he
                go_wp2_with fail
                refine (unhide HD _).mono ?_
                rintro e w1 ⟨rfl, hb1⟩
                go_wp2
                go_ret
                exact ⟨ret_int (unhide HF).symm, hb1⟩
              · have HF : Hid (numR (sl s) lo hi = -1) := hide (numR_ne (unhide HI2).2 (by rw [← (unhide HI2).1]; exact he))
                have hne : ((bs (dec m)).toList == s.toList) = false := by rw [tl_sl, tl_sl, sl_bs]; simpa using he
                have HE := hide he; clear he
                go_wp2_with fail
                refine (unhide HD _).mono ?_
                rintro e w1 ⟨rfl, hb1⟩
                go_wp2
                go_ret
                exact ⟨ret_int (unhide HF).symm, hb1⟩
end Go.Proofs.YtdcjimlhaklhfabGreatDoor

namespace Go.Proofs.YtdcjimlhaklhfabGreatDoor
open Go.RowKit
attribute [local go_sem ↓] Go.wp_at_zero Go.wp_at_succ
theorem plain_tilde : plainB 126 = false := by decide
theorem isName_at {s : ByteArray} {id : Int} {p : Nat} (hp : plainLen (sl s) = p) : isName (sl s) id = (decide (1 ≤ p) && decide (p ≤ 8) && (p == s.size || (sl s).drop p == 126 :: digs id)) := by
  unfold isName; rw [hp, sl_length]
set_option maxHeartbeats 2000000 in
theorem named_any (s : ByteArray) (id : Int) (w : World) (hs : s.size ≤ 4000) (h0 : 0 ≤ id) (h1 : id ≤ 99) :
    Calls Tryz.prog 150 #[.int .i64 id, .string s] w fun e w' => e = .returned (.bool (isName (sl s) id)) ∧ Below w.heap.size w w' := by
  have HD := hide (fun W => digits_any id W h0 (by omega))
  have HDD : Hid (dec id.toNat = digs id) := by apply hide; rw [← digs_dec id.toNat (by omega), Int.toNat_of_nonneg h0]
  rw [unhide HDD] at HD
  go_enter Tryz.func150, Tryz.ntmps150
  go_wp2
  go_loop [5] (fun i => ∃ k : Nat, k ≤ s.size ∧ i = .int .i64 k ∧ Hid (((sl s).take k).all plainB = true)) (fun i => s.size - (intOf i).toNat)
  case atStart => exact ⟨0, Nat.zero_le _, rfl, hide (by simp)⟩
  case round =>
    obtain ⟨k, hk, rfl, HA⟩ := hrel
    by_cases hgo : ∃ h : k < s.size, plainB s[k] = true
    · obtain ⟨hlt, hp⟩ := hgo
      have HA2 : Hid (((sl s).take (k + 1)).all plainB = true) := by apply hide; rw [take_snoc s k hlt]; simp [hp]; simpa using unhide HA
      have key : ((s[k].toNat : Int) != 126) = true ∧ ((97 ≤ s[k].toNat ∧ s[k].toNat ≤ 122) ∨ (48 ≤ s[k].toNat ∧ s[k].toNat ≤ 57) ∨ s[k].toNat = 46) := by
        simp [plainB] at hp
        refine ⟨by rw [bne_iff_ne]; omega, by omega⟩
      obtain ⟨ht, hc⟩ := key
      clear hp
      rcases hc with ⟨c1, c2⟩ | ⟨c1, c2⟩ | c1
      · go_wp2
        go_round
        case rel => exact ⟨k + 1, by omega, by go_num, HA2⟩
        case measure => simp [intOf]; omega
      · go_wp2
        go_round
        case rel => exact ⟨k + 1, by omega, by go_num, HA2⟩
        case measure => simp [intOf]; omega
      · have c3 : ((s[k].toNat : Int) != 46) = false := by rw [bne_eq_false_iff_eq]; omega
        have c4 : (s[k].toNat : Int) < 48 := by omega
        have c5 : (s[k].toNat : Int) < 97 := by omega
        clear c1
        go_wp2
        go_round
        case rel => exact ⟨k + 1, by omega, by go_num, HA2⟩
        case measure => simp [intOf]; omega
    · have HPL : Hid (plainLen (sl s) = k) := by
        apply hide
        refine plainLen_stop (sl s) k (by rw [sl_length]; exact hk) (unhide HA) (fun c r h => ?_)
        by_cases hlt : k < s.size
        · rw [drop_cons s k hlt] at h; cases h
          cases hq : plainB s[k]
          · rfl
          · exact absurd ⟨hlt, hq⟩ hgo
        · rw [List.drop_eq_nil_of_le (by rw [sl_length]; omega)] at h; cases h
      have HN := hide (isName_at (id := id) (unhide HPL))
      by_cases hlt : k < s.size
      · by_cases ht : s[k] = 126
        · have ht' : ((s[k].toNat : Int) != 126) = false := by rw [bne_eq_false_iff_eq, ht]; rfl
          have hke : ((k : Int) == (s.size : Int)) = false := by rw [beq_eq_false_iff_ne]; omega
          have HKE : Hid ((k == s.size) = false) := hide (by rw [beq_eq_false_iff_ne]; omega)
          clear ht hgo
          by_cases hk1 : 1 ≤ k
          · by_cases hk8 : k ≤ 8
            · have HF : Hid (isName (sl s) id = ((sl s).drop k == 126 :: digs id)) := by apply hide; rw [unhide HN, unhide HKE]; simp [hk1, hk8]
              have hadd : ∀ W : World, (Op.stringOp .add ⟨#[126]⟩ (bs (digs id))).run Tryz.prog W = .ok (.string (⟨#[126]⟩ ++ bs (digs id))) W := fun W => run_string_add_sum (P := Tryz.prog) W _ _ (by rw [bs_size]; have := digs_len id; show 1 + _ ≤ _; omega)
              have hk0 : (0 : Int) ≤ (k : Int) := by omega
              have hks : (k : Int) ≤ (s.size : Int) := by omega
              have hd1 : decide (1 ≤ (k : Int)) = true := by simp; omega
              have hd8 : decide ((k : Int) ≤ 8) = true := by simp; omega
              go_wp2
              go_region_held3 (fun _ => True) (trivial) ((go_at_call 81; refine (unhide HD _).mono ?_; rintro e w1 ⟨rfl, hb1⟩))
              go_wp2
              go_ret
              exact ⟨ret_bool (by rw [tail_eq, unhide HF]), (Below.refl w.heap.size w).drew.trans hb1⟩
            · have HF : Hid (isName (sl s) id = false) := by apply hide; rw [unhide HN]; simp [hk8]
              have hd8 : decide ((k : Int) ≤ 8) = false := by simp; omega
              have hd1 : decide (1 ≤ (k : Int)) = true := by simp; omega
              go_wp2
              go_quiet (fail)
              go_wp2
              go_ret
              exact ⟨ret_bool (unhide HF).symm, below_drewN (Below.refl _ _) _⟩
          · have HF : Hid (isName (sl s) id = false) := by apply hide; rw [unhide HN]; simp [hk1]
            have hd1 : decide (1 ≤ (k : Int)) = false := by simp; omega
            go_wp2
            go_quiet (fail)
            go_wp2
            go_ret
            exact ⟨ret_bool (unhide HF).symm, below_drewN (Below.refl _ _) _⟩
        · have HF : Hid (isName (sl s) id = false) := by
            apply hide; rw [unhide HN]
            have e1 : (k == s.size) = false := by rw [beq_eq_false_iff_ne]; omega
            have e2 : ((sl s).drop k == 126 :: digs id) = false := by rw [drop_cons s k hlt, beq_eq_false_iff_ne]; intro h; injection h with h _; exact ht h
            rw [e1, e2]; simp
          have ht' : ((s[k].toNat : Int) != 126) = true := by
            rw [bne_iff_ne]; intro h; exact ht (UInt8.toNat_inj.1 (by simpa using (by omega : (s[k]).toNat = 126)))
          have hcc : (s[k].toNat < 48 ∧ ((s[k].toNat : Int) != 46) = true) ∨ (57 < s[k].toNat ∧ s[k].toNat < 97 ∧ ((s[k].toNat : Int) != 46) = true) ∨ (122 < s[k].toNat ∧ ((s[k].toNat : Int) != 46) = true) := by
            have hq : plainB s[k] = false := by
              cases hq : plainB s[k]
              · rfl
              · exact absurd ⟨hlt, hq⟩ hgo
            simp [plainB] at hq
            have : ((s[k].toNat : Int) != 46) = true := by rw [bne_iff_ne]; omega
            simp only [this, and_true]
            omega
          clear ht hgo
          rcases hcc with ⟨c1, c2⟩ | ⟨c1, c2, c3⟩ | ⟨c1, c2⟩
          all_goals
            go_wp2
            go_ret
            exact ⟨ret_bool (unhide HF).symm, Below.refl _ _⟩
      · have hke : k = s.size := by omega
        clear hgo
        have hke' : ((k : Int) == (s.size : Int)) = true := by rw [beq_iff_eq]; omega
        by_cases hk1 : 1 ≤ k
        · by_cases hk8 : k ≤ 8
          · have HF : Hid (isName (sl s) id = true) := by apply hide; rw [unhide HN]; simp [hk1, hk8, hke.symm]
            have hd1 : decide (1 ≤ (k : Int)) = true := by simp; omega
            have hd8 : decide ((k : Int) ≤ 8) = true := by simp; omega
            clear hke
            go_wp2
            go_quiet (fail)
            go_wp2
            go_ret
            exact ⟨ret_bool (unhide HF).symm, below_drewN (Below.refl _ _) _⟩
          · have HF : Hid (isName (sl s) id = false) := by apply hide; rw [unhide HN]; simp [hk8]
            have hd8 : decide ((k : Int) ≤ 8) = false := by simp; omega
            have hd1 : decide (1 ≤ (k : Int)) = true := by simp; omega
            clear hke
            go_wp2
            go_quiet (fail)
            go_wp2
            go_ret
            exact ⟨ret_bool (unhide HF).symm, below_drewN (Below.refl _ _) _⟩
        · have HF : Hid (isName (sl s) id = false) := by apply hide; rw [unhide HN]; simp [hk1]
          have hd1 : decide (1 ≤ (k : Int)) = false := by simp; omega
          clear hke
          go_wp2
          go_quiet (fail)
          go_wp2
          go_ret
          exact ⟨ret_bool (unhide HF).symm, below_drewN (Below.refl _ _) _⟩
end Go.Proofs.YtdcjimlhaklhfabGreatDoor

namespace Go.Proofs.YtdcjimlhaklhfabGreatDoor
open Go.RowKit
attribute [local go_sem ↓] Go.wp_at_zero Go.wp_at_succ
set_option maxHeartbeats 1000000 in
theorem rcut_any (s : ByteArray) (w : World) (hs : s.size ≤ 4000) :
    Calls Tryz.prog 86 #[.string s] w fun e w' => ∃ ao cap, e = .returned (.slice ao (cut (sl s)).length cap) ∧ Row w' ao (cut (sl s)).length 1 ((cut (sl s)).map strV) ∧ Below w.heap.size w w' := by
  obtain ⟨i0, hi, hz0, hz1, hz2⟩ := info_parts Tryz.infoStr
  have hsz : (0 : Int) ≤ s.size := by omega
  go_enter Tryz.func86, Tryz.ntmps86
  go_wp2
  go_loopw [3, 4, 5] (fun v st i wr => ∃ k t n : Nat, ∃ xs : List Value, k ≤ s.size ∧ t ≤ k ∧ n ≤ k ∧ i = .int .i64 k ∧ st = .int .i64 t ∧ wr.ownsRow w.heap.size 9 1 v n xs ∧ Below w.heap.size w wr ∧ Hid (CutInv s k t n xs)) (fun _ _ i _ => s.size - (intOf i).toNat)
  case atStart => exact ⟨0, 0, 0, [], Nat.zero_le _, Nat.le_refl _, Nat.le_refl _, rfl, rfl, World.ownsRow_nil _ _ _ _, Below.refl _ _, hide ⟨by simp [cutTo], by simp [cutTo], by simp [cutTo]⟩⟩
  case round =>
    obtain ⟨k, t, n, xs, hk, ht, hn, rfl, rfl, hown, hbel, HI⟩ := hrel
    by_cases hlt : k < s.size
    · by_cases hc : s[k] = 59
      · have HN := hide (cutInv_hit (unhide HI) hlt hc)
        go_wp2_with (first
          | (at_builtin; refine wpList_append_own _ rfl _ _ 42 rfl w.heap.size 9 i0 (.string ByteArray.empty) 1 16 Tryz.underlying42 hi hz0 hz1 hz2 rfl (by decide) _ _ _ rfl (hown.alloc _) ⟨wr.heap.size, 0, none⟩ 1 1 [.string (s.extract t (k + 1))] rfl rfl (news_one _ _) (by simp [Value.oneCell']) (by unfold maxLen; omega) (by omega) (by have := hbel.size; simp; omega) ?_)
          | go_in)
        intro v' w1 hown' hgrow _
        have hb1 := below_app hbel (by have := hbel.size; omega) hown hgrow
        clear hgrow hown hbel
        go_wp2
        go_roundw
        case rel => exact ⟨k + 1, k + 1, n + 1, _, by omega, by omega, by omega, by go_num, by go_num, hown', hb1, HN⟩
        case measure => simp [intOf]; omega
      · have HN := hide (cutInv_miss (unhide HI) hlt hc)
        have hc' : (((s[k]).toNat : Int) == 59) = false := by
          rw [beq_eq_false_iff_ne]; intro h; exact hc (UInt8.toNat_inj.1 (by simpa using (by omega : (s[k]).toNat = 59)))
        have HC := hide hc; clear hc
        go_wp2
        go_roundw
        case rel => exact ⟨k + 1, t, n, _, by omega, by omega, by omega, by go_num, rfl, hown, hbel, HN⟩
        case measure => simp [intOf]; omega
    · have hks : k = s.size := by omega
      subst hks
      by_cases hts : t < s.size
      · have HN := hide (cutInv_last (unhide HI) hts)
        go_wp2_with (first
          | (at_builtin; refine wpList_append_own _ rfl _ _ 42 rfl w.heap.size 9 i0 (.string ByteArray.empty) 1 16 Tryz.underlying42 hi hz0 hz1 hz2 rfl (by decide) _ _ _ rfl (hown.alloc _) ⟨wr.heap.size, 0, none⟩ 1 1 [.string (s.extract t s.size)] rfl rfl (news_one _ _) (by simp [Value.oneCell']) (by unfold maxLen; omega) (by omega) (by have := hbel.size; simp; omega) ?_)
          | go_in)
        intro v' w1 hown' hgrow _
        have hb1 := below_app hbel (by have := hbel.size; omega) hown hgrow
        clear hgrow hown hbel
        go_wp2
        go_ret
        obtain ⟨e1, e2⟩ := unhide HN
        obtain ⟨ao, cap, rfl, hr⟩ := row_of_owns hown'
        rw [e1, e2] at hr
        exact ⟨ao, cap, by rw [← e1]; rfl, hr, hb1⟩
      · have HN := hide (cutInv_end (unhide HI) hts)
        go_wp2
        go_ret
        obtain ⟨e1, e2⟩ := unhide HN
        obtain ⟨ao, cap, rfl, hr⟩ := row_of_owns hown
        rw [e1, e2] at hr
        exact ⟨ao, cap, by rw [← e1]; rfl, hr, hbel⟩

def rparts (l : Str) : List Str := if bodyB l then parts (bodyS l) else []
theorem rparts_no {l : Str} (h : bodyB l = false) : rparts l = [] := by unfold rparts; rw [h]; rfl
theorem rparts_yes {l : Str} (h : bodyB l = true) : rparts l = parts l.dropLast := by unfold rparts bodyS; rw [h]; rfl
theorem rpart_last {s : ByteArray} {st n : Nat} {xs : List Value} (h0 : 0 < s.size) (h : PartInv s (s.size - 1) st n xs) (hb : bodyB (sl s) = true) : n + 1 = (rparts (sl s)).length ∧ xs ++ [.string (s.extract st (s.size - 1))] = (rparts (sl s)).map strV := by
  obtain ⟨h1, h2, h3⟩ := h
  have hcur := part_cur s (s.size - 1) st (by omega) h3
  have e1 : s.extract st (s.size - 1) = bs (partTo ((sl s).take (s.size - 1))).2 := by rw [bs_extract, hcur]
  have ed : (sl s).dropLast = (sl s).take (s.size - 1) := by rw [List.dropLast_eq_take, sl_length]
  rw [rparts_yes hb, ed]
  unfold parts; rw [e1, h1, h2]; exact ⟨by simp, by simp [strV]⟩
set_option maxHeartbeats 2000000 in
theorem rparts_any (s : ByteArray) (w : World) (hs : s.size ≤ 4000) :
    Calls Tryz.prog 135 #[.string s] w fun e w' => ∃ ao cap, e = .returned (.slice ao (rparts (sl s)).length cap) ∧ Row w' ao (rparts (sl s)).length 1 ((rparts (sl s)).map strV) ∧ Below w.heap.size w w' := by
  obtain ⟨i0, hi, hz0, hz1, hz2⟩ := info_parts Tryz.infoStr
  have hsz : (0 : Int) ≤ s.size := by omega
  by_cases h0 : 0 < s.size
  · have HB := hide (bodyB_at s h0)
    by_cases hc : s[s.size - 1] = 59
    · have HBT : Hid (bodyB (sl s) = true) := by apply hide; rw [unhide HB, hc]; rfl
      have h0' : ((s.size : Int) == 0) = false := by rw [beq_eq_false_iff_ne]; omega
      go_enter Tryz.func135, Tryz.ntmps135
      go_wp2
      go_loopw [4, 5, 6] (fun v st i wr => (∃ k t n : Nat, ∃ xs : List Value, k < s.size ∧ t ≤ k ∧ n ≤ k ∧ i = .int .i64 k ∧ st = .int .i64 t ∧ wr.ownsRow w.heap.size 9 1 v n xs ∧ Below w.heap.size w wr ∧ Hid (PartInv s k t n xs)) ∨ (i = .int .i64 s.size ∧ ∃ t : Int, st = .int .i64 t ∧ wr.ownsRow w.heap.size 9 1 v (rparts (sl s)).length ((rparts (sl s)).map strV) ∧ Below w.heap.size w wr)) (fun _ _ i _ => s.size - (intOf i).toNat)
      case atStart => exact .inl ⟨0, 0, 0, [], h0, Nat.le_refl _, Nat.le_refl _, rfl, rfl, World.ownsRow_nil _ _ _ _, Below.refl _ _, hide ⟨by simp [partTo], by simp [partTo], by simp [partTo]⟩⟩
      case round =>
        rcases hrel with ⟨k, t, n, xs, hk, ht, hn, rfl, rfl, hown, hbel, HI⟩ | ⟨rfl, t, rfl, hown, hbel⟩
        · by_cases hl : k = s.size - 1
          · have HL : Hid (n + 1 = (rparts (sl s)).length ∧ xs ++ [.string (s.extract t k)] = (rparts (sl s)).map strV) := by
              apply hide; rw [hl]; rw [hl] at HI; exact rpart_last h0 (unhide HI) (unhide HBT)
            have h59 : s[k].toNat = 59 := by
              have : s[k] = s[s.size - 1] := by congr 1
              rw [this, hc]; rfl
            have e32 : ((s[k].toNat : Int) == 32) = false := by rw [beq_eq_false_iff_ne]; omega
            have elast : ((k : Int) == (s.size : Int) - 1) = true := by rw [beq_iff_eq]; omega
            have hk1 : k + 1 = s.size := by omega
            have HK1 := hide hk1
            clear hl h59 hc hk1
            go_wp2_with (first
              | (at_builtin; refine wpList_append_own _ rfl _ _ 42 rfl w.heap.size 9 i0 (.string ByteArray.empty) 1 16 Tryz.underlying42 hi hz0 hz1 hz2 rfl (by decide) _ _ _ rfl (hown.alloc _) ⟨wr.heap.size, 0, none⟩ 1 1 [.string (s.extract t k)] rfl rfl (news_one _ _) (by simp [Value.oneCell']) (by unfold maxLen; omega) (by omega) (by have := hbel.size; simp; omega) ?_)
              | go_in)
            intro v' w1 hown' hgrow _
            have hb1 := below_app hbel (by have := hbel.size; omega) hown hgrow
            rw [(unhide HL).1, (unhide HL).2] at hown'
            clear hgrow hown hbel
            go_wp2
            go_roundw
            case rel => exact .inr ⟨by have := unhide HK1; go_num, (k : Int) + 1, rfl, hown', hb1⟩
            case measure => have := unhide HK1; simp [intOf]; omega
          · by_cases hc2 : s[k] = 32
            · have HN := hide (partInv_hit (unhide HI) hk hc2)
              have e32 : ((s[k].toNat : Int) == 32) = true := by rw [hc2]; rfl
              have HC2 := hide hc2
              clear hc2
              go_wp2_with (first
                | (at_builtin; refine wpList_append_own _ rfl _ _ 42 rfl w.heap.size 9 i0 (.string ByteArray.empty) 1 16 Tryz.underlying42 hi hz0 hz1 hz2 rfl (by decide) _ _ _ rfl (hown.alloc _) ⟨wr.heap.size, 0, none⟩ 1 1 [.string (s.extract t k)] rfl rfl (news_one _ _) (by simp [Value.oneCell']) (by unfold maxLen; omega) (by omega) (by have := hbel.size; simp; omega) ?_)
                | go_in)
              intro v' w1 hown' hgrow _
              have hb1 := below_app hbel (by have := hbel.size; omega) hown hgrow
              clear hgrow hown hbel
              go_wp2
              go_roundw
              case rel => exact .inl ⟨k + 1, k + 1, n + 1, _, by omega, by omega, by omega, by go_num, by go_num, hown', hb1, HN⟩
              case measure => simp [intOf]; omega
            · have HN := hide (partInv_miss (unhide HI) hk hc2)
              have e32 : ((s[k].toNat : Int) == 32) = false := by
                rw [beq_eq_false_iff_ne]; intro h; exact hc2 (UInt8.toNat_inj.1 (by simpa using (by omega : (s[k]).toNat = 32)))
              have elast : ((k : Int) == (s.size : Int) - 1) = false := by rw [beq_eq_false_iff_ne]; omega
              have HC := hide hc2; clear hc2
              go_wp2
              go_roundw
              case rel => exact .inl ⟨k + 1, t, n, _, by omega, by omega, by omega, by go_num, rfl, hown, hbel, HN⟩
              case measure => simp [intOf]; omega
        · go_wp2
          go_ret
          obtain ⟨ao, cap, rfl, hr⟩ := row_of_owns hown
          exact ⟨ao, cap, rfl, hr, hbel⟩
    · have HBF : Hid (bodyB (sl s) = false) := by apply hide; rw [unhide HB]; exact beq_eq_false_iff_ne.2 hc
      have hc' : (((s[s.size - 1]).toNat : Int) != 59) = true := by
        rw [bne_iff_ne]; intro h; exact hc (UInt8.toNat_inj.1 (by simpa using (by omega : (s[s.size - 1]).toNat = 59)))
      have h0' : ((s.size : Int) == 0) = false := by rw [beq_eq_false_iff_ne]; omega
      clear hc hz0 hz1 hz2 hi
      go_enter Tryz.func135, Tryz.ntmps135
      go_wp2
      go_ret
      rw [rparts_no (unhide HBF)]
      exact ⟨none, 0, rfl, ⟨rfl, fun h => by simp at h⟩, Below.refl _ _⟩
  · have HBF := hide (bodyB_nil s (by omega))
    have h0' : ((s.size : Int) == 0) = true := by rw [beq_iff_eq]; omega
    go_enter Tryz.func135, Tryz.ntmps135
    go_wp2
    go_ret
    rw [rparts_no (unhide HBF)]
    exact ⟨none, 0, rfl, ⟨rfl, fun h => by simp at h⟩, Below.refl _ _⟩
end Go.Proofs.YtdcjimlhaklhfabGreatDoor

namespace Go.Proofs.YtdcjimlhaklhfabGreatDoor
open Go.RowKit
attribute [local go_sem ↓] Go.wp_at_zero Go.wp_at_succ
def node3 (ps : List Str) : Option Nd :=
  match ps with
  | [a, b, c] => if (number a 1 99).2 && (number b 0 99).2 && isName c (number a 1 99).1 then some ⟨(number a 1 99).1, (number b 0 99).1, c⟩ else none
  | _ => none
theorem readNode_node3 (l : Str) : readNode l = node3 (parts l) := rfl
theorem recNode_node3 (r : Str) : recNode r = node3 (rparts r) := by
  unfold recNode rparts; split
  · rfl
  · rfl
theorem numR_neg {l : Str} {lo hi : Int} (h : (number l lo hi).2 = false) : numR l lo hi = -1 := by unfold numR; rw [h]; rfl
theorem numR_yes {l : Str} {lo hi : Int} (h : (number l lo hi).2 = true) : numR l lo hi = (number l lo hi).1 := by unfold numR; rw [h]; rfl
theorem Tryz.infoRNode : (Tryz.prog.info? 144).map (fun i => (i.zero, i.size, i.bytes)) = some (some (.agg #[.int .i64 0, .int .i64 0, .string ByteArray.empty]), 3, 32) := by kernel_rfl
theorem set3 {W : World} {B : Nat} (x y z : Value) (h0 : (W.cell? ⟨B, 0, none⟩).isSome = true) (h1 : (W.cell? ⟨B, 1, none⟩).isSome = true) (h2 : (W.cell? ⟨B, 2, none⟩).isSome = true) :
    (((W.setCell ⟨B, 0, none⟩ x).setCell ⟨B, 1, none⟩ y).setCell ⟨B, 2, none⟩ z).cell? ⟨B, 0, none⟩ = some x ∧ (((W.setCell ⟨B, 0, none⟩ x).setCell ⟨B, 1, none⟩ y).setCell ⟨B, 2, none⟩ z).cell? ⟨B, 1, none⟩ = some y ∧ (((W.setCell ⟨B, 0, none⟩ x).setCell ⟨B, 1, none⟩ y).setCell ⟨B, 2, none⟩ z).cell? ⟨B, 2, none⟩ = some z := by
  obtain ⟨u0, e0⟩ := Option.isSome_iff_exists.1 h0
  obtain ⟨u1, e1⟩ := Option.isSome_iff_exists.1 h1
  obtain ⟨u2, e2⟩ := Option.isSome_iff_exists.1 h2
  refine ⟨?_, ?_, ?_⟩ <;> simp [go_sem, e0, e1, e2]
theorem lt_kept {W w1 : World} (hb : Below W.heap.size W w1) : ∀ b, b < W.heap.size → b < w1.heap.size := fun _ h => Nat.lt_of_lt_of_le h hb.size
theorem ns_call {W0 : World} {g : Nat} {a b c : Str} (hg : g < W0.heap.size) {W w1 : World} (hb : Below W.heap.size W w1) (h : W.cell? ⟨g, 0, none⟩ = some (.string (bs a)) ∧ W.cell? ⟨g, 1, none⟩ = some (.string (bs b)) ∧ W.cell? ⟨g, 2, none⟩ = some (.string (bs c)) ∧ Below W0.heap.size W0 W) :
    w1.cell? ⟨g, 0, none⟩ = some (.string (bs a)) ∧ w1.cell? ⟨g, 1, none⟩ = some (.string (bs b)) ∧ w1.cell? ⟨g, 2, none⟩ = some (.string (bs c)) ∧ Below W0.heap.size W0 w1 := by
  have hlt : g < W.heap.size := by have := h.2.2.2.size; omega
  exact ⟨by rw [hb.cell (p := ⟨g, 0, none⟩) hlt]; exact h.1, by rw [hb.cell (p := ⟨g, 1, none⟩) hlt]; exact h.2.1, by rw [hb.cell (p := ⟨g, 2, none⟩) hlt]; exact h.2.2.1, h.2.2.2.trans (hb.mono h.2.2.2.size)⟩
theorem ns_alloc {W0 : World} {g : Nat} {a b c : Str} (hg : g < W0.heap.size) {W : World} (h : W.cell? ⟨g, 0, none⟩ = some (.string (bs a)) ∧ W.cell? ⟨g, 1, none⟩ = some (.string (bs b)) ∧ W.cell? ⟨g, 2, none⟩ = some (.string (bs c)) ∧ Below W0.heap.size W0 W) (o : Obj) :
    (W.alloc o).cell? ⟨g, 0, none⟩ = some (.string (bs a)) ∧ (W.alloc o).cell? ⟨g, 1, none⟩ = some (.string (bs b)) ∧ (W.alloc o).cell? ⟨g, 2, none⟩ = some (.string (bs c)) ∧ Below W0.heap.size W0 (W.alloc o) :=
  ns_call hg ((Below.refl _ _).alloc (Nat.le_refl _) o) h
theorem ns_set {W0 : World} {g : Nat} {a b c : Str} (hg : g < W0.heap.size) {W : World} {blk : Nat} (hB : W0.heap.size ≤ blk) (h : W.cell? ⟨g, 0, none⟩ = some (.string (bs a)) ∧ W.cell? ⟨g, 1, none⟩ = some (.string (bs b)) ∧ W.cell? ⟨g, 2, none⟩ = some (.string (bs c)) ∧ Below W0.heap.size W0 W) (o : Nat) (v : Value) :
    (W.setCell ⟨blk, o, none⟩ v).cell? ⟨g, 0, none⟩ = some (.string (bs a)) ∧ (W.setCell ⟨blk, o, none⟩ v).cell? ⟨g, 1, none⟩ = some (.string (bs b)) ∧ (W.setCell ⟨blk, o, none⟩ v).cell? ⟨g, 2, none⟩ = some (.string (bs c)) ∧ Below W0.heap.size W0 (W.setCell ⟨blk, o, none⟩ v) := by
  have hk : ∀ j, (W.setCell ⟨blk, o, none⟩ v).cell? ⟨g, j, none⟩ = W.cell? ⟨g, j, none⟩ := fun j => World.cell?_of_block (heap_setCell_other W ⟨blk, o, none⟩ g v (show g ≠ blk by omega))
  exact ⟨by rw [hk]; exact h.1, by rw [hk]; exact h.2.1, by rw [hk]; exact h.2.2.1, h.2.2.2.setCell hB v⟩
set_option maxHeartbeats 2000000 in
theorem rnode_yes (a b c : Str) (g cap : Nat) (w : World) (hla : (bs a).size ≤ 4000) (hlb : (bs b).size ≤ 4000) (hlc : (bs c).size ≤ 4000) (hg : g < w.heap.size)
    (c0 : w.cell? ⟨g, 0, none⟩ = some (.string (bs a))) (c1 : w.cell? ⟨g, 1, none⟩ = some (.string (bs b))) (c2 : w.cell? ⟨g, 2, none⟩ = some (.string (bs c))) :
    Calls Tryz.prog 136 #[.slice (some ⟨g, 0, none⟩) 3 cap] w fun e w' => (∃ x y z, e = .returned (.tuple #[.agg #[.int .i64 x, .int .i64 y, .string z], .bool (node3 [a, b, c]).isSome]) ∧ (∀ n, node3 [a, b, c] = some n → x = n.id ∧ y = n.parent ∧ z = bs n.name)) ∧ Below w.heap.size w w' := by
  have HN3 : Hid (node3 [a, b, c] = if (number a 1 99).2 && (number b 0 99).2 && isName c (number a 1 99).1 then some ⟨(number a 1 99).1, (number b 0 99).1, c⟩ else none) := hide rfl
  generalize node3 [a, b, c] = R at *
  obtain ⟨W0, hW0⟩ : ∃ W0, w.alloc (Obj.cells #[Value.int IntKind.i64 0, Value.int IntKind.i64 0, Value.string ⟨#[]⟩] 144) = W0 := ⟨_, rfl⟩
  have HW0 := hide hW0
  have hgW : g < W0.heap.size := by rw [← hW0]; simp; omega
  have d0 : W0.cell? ⟨g, 0, none⟩ = some (.string (bs a)) := by rw [← hW0, ((Below.refl w.heap.size w).alloc (Nat.le_refl _) _).cell (p := ⟨g, 0, none⟩) hg]; exact c0
  have d1 : W0.cell? ⟨g, 1, none⟩ = some (.string (bs b)) := by rw [← hW0, ((Below.refl w.heap.size w).alloc (Nat.le_refl _) _).cell (p := ⟨g, 1, none⟩) hg]; exact c1
  have d2 : W0.cell? ⟨g, 2, none⟩ = some (.string (bs c)) := by rw [← hW0, ((Below.refl w.heap.size w).alloc (Nat.le_refl _) _).cell (p := ⟨g, 2, none⟩) hg]; exact c2
  have dB : Below W0.heap.size W0 W0 := Below.refl _ _
  have HD := hide (show W0.drew.cell? ⟨g, 0, none⟩ = some (.string (bs a)) ∧ W0.drew.cell? ⟨g, 1, none⟩ = some (.string (bs b)) ∧ W0.drew.cell? ⟨g, 2, none⟩ = some (.string (bs c)) ∧ Below W0.heap.size W0 W0.drew from ⟨d0, d1, d2, dB.drew⟩)
  clear d0 d1 d2 dB c0 c1 c2
  go_enter Tryz.func136, Tryz.ntmps136
  go_wp2
  try rw [hW0]
  clear hW0
  go_cut [4] from 6 (fun p wx => ∃ B : Nat, p = .pointer (some ⟨B, 0, none⟩) ∧ W0.heap.size ≤ B ∧ B < wx.heap.size ∧ wx.cell? ⟨B, 0, none⟩ = some (.int .i64 (numR a 1 99)) ∧ wx.cell? ⟨B, 1, none⟩ = some (.int .i64 (numR b 0 99)) ∧ wx.cell? ⟨B, 2, none⟩ = some (.string (bs c)) ∧ Below W0.heap.size W0 wx)
  case first =>
    go_region_held3 (fun w' => w'.cell? ⟨g, 0, none⟩ = some (.string (bs a)) ∧ w'.cell? ⟨g, 1, none⟩ = some (.string (bs b)) ∧ w'.cell? ⟨g, 2, none⟩ = some (.string (bs c)) ∧ Below W0.heap.size W0 w') (first | exact unhide HD | assumption | exact ns_alloc hgW (by assumption) _ | exact ns_set hgW (by omega) (ns_set hgW (by omega) (ns_set hgW (by omega) (by assumption) _ _) _ _) _ _) ((go_at_call 142; refine (rnumber_any _ _ _ _ (by first | exact hla | exact hlb) (by omega) (by omega)).mono ?_; rintro e w1 ⟨rfl, hb1⟩; have hs1 := ns_call hgW hb1 (by first | assumption | exact unhide HD); have hzz := hs1.2.2.2.size; obtain ⟨hc1, hf1⟩ := bcell hb1; have hz1 := hb1.size; (try simp at hz1); have hzs := lt_kept hb1))
    all_goals go_wp2_with fail
    all_goals go_meet
    all_goals refine ⟨_, rfl, ?_, ?_, ?_, ?_, ?_, ?_⟩
    all_goals first
      | omega
      | (exact hs1.2.2.2.alloc hzz _)
      | (exact ((hs1.2.2.2.setCell (by first | omega | simp) _).setCell (by first | omega | simp) _).setCell (by first | omega | simp) _)
      | (simp [sl_bs]; done)
      | (simp; omega)
      | (rw [(set3 _ _ _ (by simp [*]) (by simp [*]) (by simp [*])).1, sl_bs])
      | (rw [(set3 _ _ _ (by simp [*]) (by simp [*]) (by simp [*])).2.1, sl_bs])
      | (rw [(set3 _ _ _ (by simp [*]) (by simp [*]) (by simp [*])).2.2])
      | skip
  case rest =>
    obtain ⟨B, hp, hB, hBlt, e0, e1, e2, hbel⟩ := hcut
    subst hp
    have hNlt : w.heap.size < W0.heap.size := by rw [← unhide HW0]; simp
    obtain ⟨hc, hf⟩ := bcell hbel
    have s0 : wc.cell? ⟨w.heap.size, 0, none⟩ = some (.int .i64 0) := by rw [hc _ _ hNlt, ← unhide HW0]; exact news_three (.int .i64 0) (.int .i64 0) (.string ⟨#[]⟩) 144 0 _ rfl
    have s1 : wc.cell? ⟨w.heap.size, 1, none⟩ = some (.int .i64 0) := by rw [hc _ _ hNlt, ← unhide HW0]; exact news_three (.int .i64 0) (.int .i64 0) (.string ⟨#[]⟩) 144 1 _ rfl
    have s2 : wc.cell? ⟨w.heap.size, 2, none⟩ = some (.string ⟨#[]⟩) := by rw [hc _ _ hNlt, ← unhide HW0]; exact news_three (.int .i64 0) (.int .i64 0) (.string ⟨#[]⟩) 144 2 _ rfl
    have sf : ∀ j, wc.frozen? ⟨w.heap.size, j, none⟩ = false := by intro j; rw [hf _ _ hNlt, ← unhide HW0]; exact frozen_of_row _ _ _ _ _ (heap_alloc_new w _)
    have HBW : Hid (Below w.heap.size w wc) := hide (Below.trans (by rw [← unhide HW0]; exact (Below.refl _ _).alloc (Nat.le_refl _) _) (hbel.mono (Nat.le_of_lt hNlt)))
    have hNwc : w.heap.size < wc.heap.size := by have := hbel.size; omega
    have hNB : ¬ w.heap.size = B := by omega
    have na := number_bd a 1 99 (by omega)
    have nb := number_bd b 0 99 (by omega)
    clear hc hf hbel HD hgW HW0 hNlt
    cases hqa : (number a 1 99).2
    · have HNN : Hid (R = none) := by apply hide; rw [unhide HN3, hqa]; simp
      rw [numR_neg hqa] at e0
      clear hqa
      go_wp2
      refine bodyPost_ret (v := .tuple #[.agg #[.int .i64 0, .int .i64 0, .string ByteArray.empty], .bool false]) (by simp [results, Tryz.results136, go_sem, s0, s1, s2]; rfl) rfl ⟨⟨0, 0, ByteArray.empty, by rw [unhide HNN]; rfl, fun n hn => by rw [unhide HNN] at hn; cases hn⟩, ?_⟩
      exact (((unhide HBW).setCell (Nat.le_refl _) _).setCell (Nat.le_refl _) _).setCell (Nat.le_refl _) _
    · cases hqb : (number b 0 99).2
      · have HNN : Hid (R = none) := by apply hide; rw [unhide HN3, hqb]; simp
        rw [numR_neg hqb] at e1
        rw [numR_yes hqa] at e0
        clear hqa hqb
        go_wp2
        refine bodyPost_ret (v := .tuple #[.agg #[.int .i64 0, .int .i64 0, .string ByteArray.empty], .bool false]) (by simp [results, Tryz.results136, go_sem, s0, s1, s2]; rfl) rfl ⟨⟨0, 0, ByteArray.empty, by rw [unhide HNN]; rfl, fun n hn => by rw [unhide HNN] at hn; cases hn⟩, ?_⟩
        exact (((unhide HBW).setCell (Nat.le_refl _) _).setCell (Nat.le_refl _) _).setCell (Nat.le_refl _) _
      · have HR : Hid (R = if isName c (number a 1 99).1 then some ⟨(number a 1 99).1, (number b 0 99).1, c⟩ else none) := by apply hide; rw [unhide HN3, hqa, hqb]; simp
        rw [numR_yes hqb] at e1
        rw [numR_yes hqa] at e0
        have HNM := hide (fun W => named_any (bs c) (number a 1 99).1 W hlc na.1 na.2)
        rw [sl_bs] at HNM
        clear hqa hqb HN3
        generalize (number a 1 99).1 = x at *
        generalize (number b 0 99).1 = y at *
        generalize isName c x = q at *
        obtain ⟨na0, na1⟩ := na
        obtain ⟨nb0, nb1⟩ := nb
        go_wp2_with fail
        refine (unhide HNM _).mono ?_
        rintro e w2 ⟨rfl, hb2⟩
        obtain ⟨hc2, hf2⟩ := bcell hb2
        have f0 : w2.cell? ⟨B, 0, none⟩ = some (.int .i64 x) := (hc2 _ _ hBlt).trans e0
        have f1 : w2.cell? ⟨B, 1, none⟩ = some (.int .i64 y) := (hc2 _ _ hBlt).trans e1
        have f2 : w2.cell? ⟨B, 2, none⟩ = some (.string (bs c)) := (hc2 _ _ hBlt).trans e2
        have g0 := (hc2 _ 0 hNwc).trans s0
        have g1 := (hc2 _ 1 hNwc).trans s1
        have g2 := (hc2 _ 2 hNwc).trans s2
        have gf : ∀ j, w2.frozen? ⟨w.heap.size, j, none⟩ = false := fun j => (hf2 _ j hNwc).trans (sf j)
        have HB2 := hide ((unhide HBW).trans (hb2.mono (Nat.le_of_lt hNwc)))
        clear hc2 hf2 e0 e1 e2 s0 s1 s2 sf hb2
        go_wp2
        refine bodyPost_ret (v := .tuple #[.agg #[.int .i64 x, .int .i64 y, .string (bs c)], .bool q]) (by simp [results, Tryz.results136, go_sem, g0, g1, g2]) rfl ⟨⟨x, y, bs c, ?_, ?_⟩, ?_⟩
        · rw [unhide HR]; cases q <;> rfl
        · intro n hn
          rw [unhide HR] at hn
          split at hn
          · cases hn; exact ⟨rfl, rfl, rfl⟩
          · cases hn
        · exact (((unhide HB2).setCell (Nat.le_refl _) _).setCell (Nat.le_refl _) _).setCell (Nat.le_refl _) _
end Go.Proofs.YtdcjimlhaklhfabGreatDoor

namespace Go.Proofs.YtdcjimlhaklhfabGreatDoor
open Go.RowKit
theorem row_of_owns2 {w : World} {base : Nat} {e : TypeId} {size : Nat} {v : Value} {n : Nat} {xs : List Value} (h : w.ownsRow base e size v n xs) : ∃ ao cap, v = .slice ao n cap ∧ Row w ao n size xs ∧ n ≤ cap := by
  obtain ⟨ao, cap, hv, hr⟩ := row_of_owns h
  refine ⟨ao, cap, hv, hr, ?_⟩
  rcases h.2 with ⟨h1, h2⟩ | ⟨g, cap', cur, h1, _, _, h3, _⟩
  · omega
  · rw [hv] at h1; injection h1 with _ _ h4; omega
theorem node3_other {ps : List Str} (h : ps.length ≠ 3) : node3 ps = none := by
  unfold node3
  split
  · simp at h
  · rfl
set_option maxHeartbeats 1000000 in
theorem rnode_no (ao : Option Addr) (n cap : Nat) (w : World) (h3 : n ≠ 3) :
    Calls Tryz.prog 136 #[.slice ao n cap] w fun e w' => e = .returned (.tuple #[.agg #[.int .i64 0, .int .i64 0, .string ByteArray.empty], .bool false]) ∧ Below w.heap.size w w' := by
  have hne : ((n : Int) != 3) = true := by rw [bne_iff_ne]; omega
  go_enter Tryz.func136, Tryz.ntmps136
  go_wp2
  refine bodyPost_ret (v := .tuple #[.agg #[.int .i64 0, .int .i64 0, .string ByteArray.empty], .bool false]) (by simp [results, Tryz.results136, go_sem]; rfl) rfl ⟨rfl, ?_⟩
  exact (Below.refl _ _).alloc (Nat.le_refl _) _
theorem rnode_any (ps : List Str) (ao : Option Addr) (cap : Nat) (w : World) (hrow : Row w ao ps.length 1 (ps.map strV)) (hl : ∀ p ∈ ps, p.length ≤ 4000) :
    Calls Tryz.prog 136 #[.slice ao ps.length cap] w fun e w' => (∃ x y z, e = .returned (.tuple #[.agg #[.int .i64 x, .int .i64 y, .string z], .bool (node3 ps).isSome]) ∧ (∀ n, node3 ps = some n → x = n.id ∧ y = n.parent ∧ z = bs n.name)) ∧ Below w.heap.size w w' := by
  by_cases h3 : ps.length = 3
  · obtain ⟨a, b, c, rfl⟩ := len3 h3
    obtain ⟨g, rfl, hg, hc⟩ := hrow.2 (by simp)
    exact rnode_yes a b c g cap w (by rw [bs_size]; exact hl a (by simp)) (by rw [bs_size]; exact hl b (by simp)) (by rw [bs_size]; exact hl c (by simp)) hg (hc 0 _ rfl) (hc 1 _ rfl) (hc 2 _ rfl)
  · refine (rnode_no ao ps.length cap w h3).mono ?_
    rintro e w' ⟨rfl, hb⟩
    exact ⟨⟨0, 0, _, by rw [node3_other h3]; rfl, fun n hn => by rw [node3_other h3] at hn; cases hn⟩, hb⟩
theorem rparts_len (r : Str) (h : r.length ≤ 4000) : ∀ p ∈ rparts r, p.length ≤ 4000 := by
  intro p hp
  unfold rparts at hp
  split at hp
  · have := part_len _ p hp; have := bodyS_len r; omega
  · simp at hp
theorem rd_short {rs : List Str} {k : Nat} {ns : List Nd} (h : RdInv rs k ns) (hk : k < rs.length) (hn : recNode rs[k] = none) : (readNodes rs).length = k ∧ (readNodes rs).length < rs.length := by
  rw [rdInv_no h hk hn]; exact ⟨h.1, by rw [h.1]; exact hk⟩
theorem rd_full {rs : List Str} {k : Nat} {ns : List Nd} (h : RdInv rs k ns) (hk : ¬ k < rs.length) : ¬ (readNodes rs).length < rs.length ∧ readNodes rs = ns ∧ ns.length = k := by
  refine ⟨?_, rdInv_end h hk, h.1⟩
  rw [rdInv_end h hk, h.1]; exact hk
set_option maxHeartbeats 2000000 in
theorem nodes_any (s : ByteArray) (w : World) (hs : s.size ≤ 4000) :
    Calls Tryz.prog 111 #[.string s] w fun e w' => (((readNodes (cut (sl s))).length < (cut (sl s)).length ∧ e = .returned (.tuple #[.slice none 0 0, .int .i64 (readNodes (cut (sl s))).length])) ∨ (¬ (readNodes (cut (sl s))).length < (cut (sl s)).length ∧ ∃ ao cap, e = .returned (.tuple #[.slice ao (readNodes (cut (sl s))).length cap, .int .i64 (-1)]) ∧ Row w' ao (readNodes (cut (sl s))).length 3 (ndCells (readNodes (cut (sl s)))) ∧ (readNodes (cut (sl s))).length ≤ cap)) ∧ Below w.heap.size w w' := by
  obtain ⟨i0, hi, hz0, hz1, hz2⟩ := info_parts Tryz.infoRNode
  have HC := hide (fun W => rcut_any s W hs)
  have hrl : (cut (sl s)).length ≤ 4000 := by have := cut_length_le (sl s); rw [sl_length] at this; omega
  have HRM : Hid (∀ r ∈ cut (sl s), r.length ≤ 4000) := hide (fun r hr => by have := cut_mem_len (sl s) r hr; rw [sl_length] at this; omega)
  generalize cut (sl s) = rs at *
  go_enter Tryz.func111, Tryz.ntmps111
  go_wp2_with fail
  refine (unhide HC _).mono ?_
  rintro e w1 ⟨ao, cap, rfl, hrow, hb1⟩
  have HROW := hide hrow
  have HB1 := hide hb1
  clear hrow hb1
  go_wp2
  go_loopw [4, 6] (fun v i wr => ∃ k : Nat, ∃ ns : List Nd, k ≤ rs.length ∧ i = .int .i64 k ∧ wr.ownsRow w1.heap.size 144 3 v k (ndCells ns) ∧ Below w1.heap.size w1 wr ∧ Hid (RdInv rs k ns)) (fun _ i _ => rs.length - (intOf i).toNat)
  case atStart => exact ⟨0, [], Nat.zero_le _, rfl, World.ownsRow_nil _ _ _ _, Below.refl _ _, hide ⟨rfl, rfl⟩⟩
  case round =>
    obtain ⟨k, ns, hk, rfl, hown, hbel, HI⟩ := hrel
    by_cases hlt : k < rs.length
    · obtain ⟨g, hao, hg, hcell⟩ := str_cell (unhide HROW) hbel hlt
      rw [hao]
      have hrl2 : (rs[k]).length ≤ 4000 := unhide HRM _ (List.getElem_mem hlt)
      have HP := hide (fun W => rparts_any (bs rs[k]) W (by rw [bs_size]; exact hrl2))
      rw [sl_bs] at HP
      have HND := hide (fun ao cap W (hh : Row W ao (rparts rs[k]).length 1 ((rparts rs[k]).map strV)) => rnode_any (rparts rs[k]) ao cap W hh (rparts_len _ hrl2))
      have HREC := hide (recNode_node3 rs[k])
      have hsz := hbel.size
      clear hao
      generalize hr : rs[k] = r at *
      have HR := hide hr; clear hr
      generalize rparts r = ps at *
      go_wp2_with fail
      refine (unhide HP _).mono ?_
      rintro e w2 ⟨ao2, cap2, rfl, hrow2, hb2⟩
      have HROW2 := hide hrow2; clear hrow2
      go_wp2_with fail
      refine (unhide HND _ _ _ (unhide HROW2)).mono ?_
      rintro e w3 ⟨⟨x, y, z, rfl, hxyz⟩, hb3⟩
      have hb23 := hb2.trans (hb3.mono hb2.size)
      have HOWN := hide (own_below hown hb23)
      have HB3 := hide (hbel.trans (hb23.mono hsz))
      have hz3 : wr.heap.size ≤ w3.heap.size := hb23.size
      have HX := hide hxyz
      clear hxyz hb2 hb3 hb23 HP HND HROW2
      generalize node3 ps = R at *
      cases R with
      | none =>
        have HS := hide (rd_short (unhide HI) hlt (by rw [unhide HR, unhide HREC]))
        go_wp2
        go_ret2
        refine ⟨.inl ⟨(unhide HS).2, by rw [(unhide HS).1]; rfl⟩, ?_⟩
        exact (unhide HB1).trans (((unhide HB3).alloc (by omega) _).mono (unhide HB1).size)
      | some nd =>
        have HN := hide (rdInv_yes (unhide HI) hlt (n := nd) (by rw [unhide HR, unhide HREC]))
        obtain ⟨rfl, rfl, rfl⟩ := unhide HX nd rfl
        clear HX
        go_wp2_with (first
          | (at_builtin; (refine wpList_append_own _ rfl _ _ 102 rfl w1.heap.size 144 i0 (.agg #[.int .i64 0, .int .i64 0, .string ByteArray.empty]) 3 32 Tryz.underlying102 hi hz0 hz1 hz2 rfl (by decide) _ _ _ rfl (own_below (unhide HOWN) (((Below.refl _ _).alloc (Nat.le_refl _) _).alloc (by simp) _)) ⟨w3.heap.size + 1, 0, none⟩ 1 1 [.int .i64 nd.id, .int .i64 nd.parent, .string (bs nd.name)] rfl rfl (news_three' _ _ _ _ _) (by simp [Value.oneCell']) (by unfold maxLen; omega) (by omega) (by have := hbel.size; simp; omega) ?_))
          | go_in)
        intro v' w4 hown' hgrow _
        have hb4 : Below w1.heap.size w1 w4 := ((((unhide HB3).alloc (by omega) _).alloc (by simp; omega) _)).grown hgrow (by simp; omega) (own_ge hown)
        have hown2 : w4.ownsRow w1.heap.size 144 3 v' (k + 1) (ndCells (ns ++ [nd])) := by rw [ndCells_snoc]; exact hown'
        clear hgrow hown hbel hown'
        go_wp2
        go_roundw
        case rel => exact ⟨k + 1, _, by omega, by go_num, hown2, hb4, HN⟩
        case measure => simp [intOf]; omega
    · have HF := hide (rd_full (unhide HI) hlt)
      go_wp2
      go_ret2
      obtain ⟨f1, f2, f3⟩ := unhide HF
      obtain ⟨ao', cap', rfl, hr, hcap⟩ := row_of_owns2 hown
      rw [f2]
      rw [← f3] at hr
      refine ⟨.inr ⟨by rw [← f2]; exact f1, ao', cap', by rw [f3]; rfl, hr, by rw [f3]; exact hcap⟩, (unhide HB1).trans (hbel.mono (unhide HB1).size)⟩
end Go.Proofs.YtdcjimlhaklhfabGreatDoor

namespace Go.Proofs.YtdcjimlhaklhfabGreatDoor
open Go.RowKit
set_option maxHeartbeats 1000000 in
theorem find_any (ns : List Nd) (id : Int) (ao : Option Addr) (cap : Nat) (w : World) (hrow : Row w ao ns.length 3 (ndCells ns)) (hl : ns.length ≤ 4000) :
    Calls Tryz.prog 123 #[.slice ao ns.length cap, .int .i64 id] w fun e w' => e = .returned (.int .i64 (findR ns id)) ∧ w' = w := by
  have HROW := hide hrow; clear hrow
  have HB := hide (Below.refl w.heap.size w)
  go_enter Tryz.func123, Tryz.ntmps123
  go_wp2
  go_loop [5] (fun i => ∃ k : Nat, k ≤ ns.length ∧ i = .int .i64 k ∧ Hid (NoIn (idIs ns id) 0 k)) (fun i => ns.length - (intOf i).toNat)
  case atStart => exact ⟨0, Nat.zero_le _, rfl, hide (fun j h1 h2 => by omega)⟩
  case round =>
    obtain ⟨k, hk, rfl, HN⟩ := hrel
    by_cases hlt : k < ns.length
    · obtain ⟨g, hao, hg, c0, _, _⟩ := nd_cells (unhide HROW) (unhide HB) hlt
      rw [hao]
      have HU : Hid (idIs ns id k = ((ns[k]).id == id)) := by apply hide; unfold idIs; rw [ndAt_get _ _ hlt]
      clear hao
      cases hq : ((ns[k]).id == id)
      · have HN2 := hide (noIn_succ (unhide HN) (by rw [unhide HU]; exact hq))
        go_wp2
        go_round
        case rel => exact ⟨k + 1, by omega, by go_num, HN2⟩
        case measure => simp [intOf]; omega
      · have HS : Hid (findR ns id = k) := by
          apply hide
          have e : findN ns id = k := scan_hit (by omega) hlt (by rw [unhide HU]; exact hq) (unhide HN)
          rw [(lookR_some (by rw [e]; exact hlt)).2, e]
        go_wp2
        go_ret
        exact ⟨ret_int (unhide HS).symm, rfl⟩
    · have HS : Hid (findR ns id = -1) := by
        apply hide
        have e : findN ns id = ns.length := scan_none (fun j h1 h2 => unhide HN j h1 (by omega))
        exact (lookR_none (by rw [e]; omega)).2
      go_wp2
      go_ret
      exact ⟨ret_int (unhide HS).symm, rfl⟩
theorem findR_bd (ns : List Nd) (id : Int) : -1 ≤ findR ns id ∧ findR ns id < (ns.length : Int) + 1 ∧ ((lookR ns id).isSome = decide (0 ≤ findR ns id)) := by
  by_cases h : findN ns id < ns.length
  · obtain ⟨h1, h2⟩ := lookR_some h
    rw [h1, h2]; refine ⟨by omega, by omega, by simp⟩
  · obtain ⟨h1, h2⟩ := lookR_none h
    rw [h1, h2]; refine ⟨by omega, by omega, by simp⟩
set_option maxHeartbeats 1000000 in
theorem folder_any (ns : List Nd) (id : Int) (ao : Option Addr) (cap : Nat) (w : World) (hrow : Row w ao ns.length 3 (ndCells ns)) (hl : ns.length ≤ 4000) (h0 : 0 ≤ id) (h1 : id ≤ 1000) :
    Calls Tryz.prog 124 #[.slice ao ns.length cap, .int .i64 id] w fun e w' => e = .returned (.bool (folderR ns id)) ∧ w' = w := by
  have HF := hide (find_any ns id ao cap w hrow hl)
  have hbd := findR_bd ns id
  have HP : Hid (folderR ns id = (id == 0 || (id % 2 == 0 && decide (0 ≤ findR ns id)))) := by apply hide; unfold folderR; rw [hbd.2.2]
  obtain ⟨b1, b2, _⟩ := hbd
  clear hrow
  generalize findR ns id = f at *
  by_cases hz : id = 0
  · subst hz
    go_enter Tryz.func124, Tryz.ntmps124
    go_wp2_with fail
    refine (unhide HF).mono ?_
    rintro e w' ⟨rfl, rfl⟩
    go_wp2
    go_ret
    exact ⟨ret_bool (by rw [unhide HP]; rfl), rfl⟩
  · have hz' : (id == 0) = false := by simpa using hz
    by_cases he : id % 2 = 0
    · have he' : (id % 2 == 0) = true := by simpa using he
      have HE := hide he'
      have HZ := hide hz'
      clear he
      go_enter Tryz.func124, Tryz.ntmps124
      go_wp2_with fail
      refine (unhide HF).mono ?_
      rintro e w' ⟨rfl, rfl⟩
      go_wp2
      go_ret
      exact ⟨ret_bool (by rw [unhide HP, unhide HZ, unhide HE]; rfl), rfl⟩
    · have he' : (id % 2 == 0) = false := by simpa using he
      have HE := hide he'
      have HZ := hide hz'
      clear he
      go_enter Tryz.func124, Tryz.ntmps124
      go_wp2_with fail
      refine (unhide HF).mono ?_
      rintro e w' ⟨rfl, rfl⟩
      go_wp2
      go_ret
      exact ⟨ret_bool (by rw [unhide HP, unhide HZ, unhide HE]; rfl), rfl⟩
theorem belowF_none {look : Int → Option Nd} {f : Nat} {id top : Int} (h : look id = none) : belowF look (f + 1) id top = false := by simp [belowF, h]
theorem belowF_hit {look : Int → Option Nd} {f : Nat} {id : Int} {n : Nd} (h : look id = some n) : belowF look (f + 1) id n.parent = true := by simp [belowF, h]
theorem belowF_on {look : Int → Option Nd} {f : Nat} {id top : Int} {n : Nd} (h : look id = some n) (hne : ¬ n.parent = top) : belowF look (f + 1) id top = belowF look f n.parent top := by simp [belowF, h, hne]
set_option maxHeartbeats 1000000 in
theorem below_any (ns : List Nd) (id top : Int) (ao : Option Addr) (cap : Nat) (w : World) (hrow : Row w ao ns.length 3 (ndCells ns)) (hl : ns.length ≤ 4000) :
    Calls Tryz.prog 120 #[.slice ao ns.length cap, .int .i64 id, .int .i64 top] w fun e w' => e = .returned (.bool (belowR ns id top)) ∧ w' = w := by
  have HROW := hide hrow; clear hrow
  have HB := hide (Below.refl w.heap.size w)
  have HM : Hid (belowR ns id top = belowF (lookR ns) (ns.length + 1) id top) := hide rfl
  generalize belowR ns id top = M at *
  go_enter Tryz.func120, Tryz.ntmps120
  go_wp2
  go_loop [7, 8] (fun d i => ∃ k : Nat, ∃ m : Int, k ≤ ns.length + 1 ∧ i = .int .i64 k ∧ d = .int .i64 m ∧ Hid (M = belowF (lookR ns) (ns.length + 1 - k) m top)) (fun _ i => ns.length + 2 - (intOf i).toNat)
  case atStart => exact ⟨0, id, by omega, rfl, rfl, HM⟩
  case round =>
    obtain ⟨k, m, hk, rfl, rfl, HI⟩ := hrel
    have HF := hide (find_any ns m ao cap w (unhide HROW) hl)
    by_cases hle : k ≤ ns.length
    · have HI2 : Hid (M = belowF (lookR ns) ((ns.length - k) + 1) m top) := by apply hide; rw [show ns.length - k + 1 = ns.length + 1 - k by omega]; exact unhide HI
      clear HI HM
      by_cases hf : findN ns m < ns.length
      · obtain ⟨q1, q2⟩ := lookR_some hf
        obtain ⟨g, hao, hg, _, c1, _⟩ := nd_cells (unhide HROW) (unhide HB) hf
        rw [q2] at HF
        rw [hao] at HF ⊢
        have HQ := hide q1
        clear q1 q2 hao
        generalize hfn : findN ns m = fn at *
        have HFN := hide hfn
        clear hfn
        have hfn0 : (0 : Int) ≤ fn := by omega
        have hfn1 : (fn : Int) < ns.length := by omega
        generalize ns[fn] = nd at *
        by_cases hp : nd.parent = top
        · have HT : Hid (M = true) := by apply hide; rw [unhide HI2, ← hp]; exact belowF_hit (unhide HQ)
          have hp' : (nd.parent == top) = true := by simpa using hp
          clear hp
          go_wp2_with fail
          refine (unhide HF).mono ?_
          rintro e w' ⟨rfl, rfl⟩
          go_wp2
          go_ret
          exact ⟨ret_bool (unhide HT).symm, rfl⟩
        · have HT : Hid (M = belowF (lookR ns) (ns.length - k) nd.parent top) := by apply hide; rw [unhide HI2]; exact belowF_on (unhide HQ) hp
          have hp' : (nd.parent == top) = false := by simpa using hp
          clear hp
          go_wp2_with fail
          refine (unhide HF).mono ?_
          rintro e w' ⟨rfl, rfl⟩
          go_wp2
          go_round
          case rel => exact ⟨k + 1, nd.parent, by omega, by go_num, rfl, by apply hide; rw [show ns.length + 1 - (k + 1) = ns.length - k by omega]; exact unhide HT⟩
          case measure => simp [intOf]; omega
      · obtain ⟨q1, q2⟩ := lookR_none hf
        have HT : Hid (M = false) := by apply hide; rw [unhide HI2]; exact belowF_none q1
        rw [q2] at HF
        clear q1 q2 hf
        go_wp2_with fail
        refine (unhide HF).mono ?_
        rintro e w' ⟨rfl, rfl⟩
        go_wp2
        go_ret
        exact ⟨ret_bool (unhide HT).symm, rfl⟩
    · have HT : Hid (M = false) := by apply hide; rw [unhide HI, show ns.length + 1 - k = 0 by omega]; rfl
      go_wp2
      go_ret
      exact ⟨ret_bool (unhide HT).symm, rfl⟩
set_option maxHeartbeats 1000000 in
theorem taken_any (ns : List Nd) (parent : Int) (name : Str) (ao : Option Addr) (cap : Nat) (w : World) (hrow : Row w ao ns.length 3 (ndCells ns)) (hl : ns.length ≤ 4000) :
    Calls Tryz.prog 125 #[.slice ao ns.length cap, .int .i64 parent, .string (bs name)] w fun e w' => e = .returned (.int .i64 (takenR ns parent name)) ∧ w' = w := by
  have HROW := hide hrow; clear hrow
  have HB := hide (Below.refl w.heap.size w)
  go_enter Tryz.func125, Tryz.ntmps125
  go_wp2
  go_loop [7] (fun i => ∃ k : Nat, k ≤ ns.length ∧ i = .int .i64 k ∧ Hid (NoIn (placeIs ns parent name) 0 k)) (fun i => ns.length - (intOf i).toNat)
  case atStart => exact ⟨0, Nat.zero_le _, rfl, hide (fun j h1 h2 => by omega)⟩
  case round =>
    obtain ⟨k, hk, rfl, HN⟩ := hrel
    by_cases hlt : k < ns.length
    · obtain ⟨g, hao, hg, c0, c1, c2⟩ := nd_cells (unhide HROW) (unhide HB) hlt
      rw [hao]
      have HU : Hid (placeIs ns parent name k = (((ns[k]).parent == parent) && ((ns[k]).name == name))) := by apply hide; unfold placeIs; rw [ndAt_get _ _ hlt]
      clear hao
      cases hq : ((ns[k]).parent == parent)
      · have HN2 := hide (noIn_succ (unhide HN) (by rw [unhide HU, hq]; rfl))
        go_wp2
        go_round
        case rel => exact ⟨k + 1, by omega, by go_num, HN2⟩
        case measure => simp [intOf]; omega
      · cases hq2 : ((ns[k]).name == name)
        · have HN2 := hide (noIn_succ (unhide HN) (by rw [unhide HU, hq, hq2]; rfl))
          have hne2 : ((bs (ns[k]).name).toList == (bs name).toList) = false := by rw [names_eq]; exact hq2
          clear hq2
          go_wp2
          go_round
          case rel => exact ⟨k + 1, by omega, by go_num, HN2⟩
          case measure => simp [intOf]; omega
        · have HS : Hid (takenR ns parent name = (ns[k]).id) := by
            apply hide
            have e : takenN ns parent name = k := scan_hit (by omega) hlt (by rw [unhide HU, hq, hq2]; rfl) (unhide HN)
            unfold takenR; rw [e, if_pos hlt, ndAt_get _ _ hlt]
          have hne2 : ((bs (ns[k]).name).toList == (bs name).toList) = true := by rw [names_eq]; exact hq2
          clear hq2
          go_wp2
          go_ret
          exact ⟨ret_int (unhide HS).symm, rfl⟩
    · have HS : Hid (takenR ns parent name = 0) := by
        apply hide
        have e : takenN ns parent name = ns.length := scan_none (fun j h1 h2 => unhide HN j h1 (by omega))
        unfold takenR; rw [e, if_neg (by omega)]
      go_wp2
      go_ret
      exact ⟨ret_int (unhide HS).symm, rfl⟩
end Go.Proofs.YtdcjimlhaklhfabGreatDoor

namespace Go.Proofs.YtdcjimlhaklhfabGreatDoor
open Go.RowKit
theorem quiet_add {P : Program} {f : FuncId} {args : Array Value} {w : World} {a n : Nat} {v : Value}
    (h : Calls P f args (w.drewN (a + n)) fun e w' => e = .returned v ∧ w' = w.drewN (a + n)) : Calls P f args (w.drewN (a + n)) fun e w'' => e = .returned v ∧ ∃ m, w'' = w.drewN (a + m) :=
  h.mono fun _ _ ⟨he, hm⟩ => ⟨he, n, hm⟩
theorem row_drewN {w : World} {ao : Option Addr} {n size : Nat} {xs : List Value} (h : Row w ao n size xs) (k : Nat) : Row (w.drewN k) ao n size xs := h.below (below_drewN (Below.refl _ _) k)
theorem row_take {w : World} {ao : Option Addr} {ns : List Nd} (h : Row w ao ns.length 3 (ndCells ns)) (i : Nat) (hi : i ≤ ns.length) : Row w ao (ns.take i).length 3 (ndCells (ns.take i)) := by
  refine ⟨ndCells_length _, fun hn => ?_⟩
  have hlen : (ns.take i).length = i := by rw [List.length_take]; omega
  obtain ⟨g, h1, h2, h3⟩ := h.2 (by omega)
  refine ⟨g, h1, h2, fun j u hu => h3 j u ?_⟩
  have : ndCells ns = ndCells (ns.take i) ++ ndCells (ns.drop i) := by rw [ndCells, ndCells, ndCells, ← List.flatMap_append, List.take_append_drop]
  rw [this, List.getElem?_append_left (by rcases Nat.lt_or_ge j (ndCells (ns.take i)).length with hh | hh; exact hh; rw [List.getElem?_eq_none hh] at hu; cases hu)]
  exact hu
set_option maxHeartbeats 4000000 in
theorem wrong_any (ns : List Nd) (ao : Option Addr) (cap : Nat) (w : World) (hrow : Row w ao ns.length 3 (ndCells ns)) (hcap : ns.length ≤ cap) (hl : ns.length ≤ 4000) (hn : ∀ n ∈ ns, 0 ≤ n.parent ∧ n.parent ≤ 99) :
    Calls Tryz.prog 112 #[.slice ao ns.length cap] w fun e w' => e = .returned (.tuple #[.int .i64 (wrongR ns).1, .int .i64 (wrongR ns).2]) ∧ Below w.heap.size w w' := by
  have HROW := hide hrow; clear hrow
  have HNB := hide hn; clear hn
  have HW : Hid (wrongR ns = if scan (unordered ns) 1 ns.length < ns.length then (3, scan (unordered ns) 1 ns.length) else if scan (rOrphan ns) 0 ns.length < ns.length then (4, scan (rOrphan ns) 0 ns.length) else if scan (rLooped ns) 0 ns.length < ns.length then (5, scan (rLooped ns) 0 ns.length) else if scan (rTwice ns) 0 ns.length < ns.length then (6, scan (rTwice ns) 0 ns.length) else (0, 0)) := hide rfl
  generalize wrongR ns = WR at *
  go_enter Tryz.func112, Tryz.ntmps112
  go_wp2
  go_loopw [4] (fun i wr => ∃ k nq : Nat, 1 ≤ k ∧ (k ≤ ns.length ∨ k = 1) ∧ i = .int .i64 k ∧ wr = w.drewN nq ∧ Hid (NoIn (unordered ns) 1 k)) (fun i _ => ns.length - (intOf i).toNat)
  case atStart => exact ⟨1, 0, Nat.le_refl _, .inr rfl, rfl, rfl, hide (fun j h1 h2 => by omega)⟩
  case round =>
    obtain ⟨k, nq, hk1, hk, rfl, rfl, HN⟩ := hrel
    by_cases hlt : k < ns.length
    · obtain ⟨j, rfl⟩ : ∃ j, k = j + 1 := ⟨k - 1, by omega⟩
      have HB := hide (Below.refl w.heap.size w)
      obtain ⟨g, hao, hg, c0, _, _⟩ := nd_cells (unhide HROW) (unhide HB) hlt
      obtain ⟨g', hao', _, d0, _, _⟩ := nd_cells (unhide HROW) (unhide HB) (show j < ns.length by omega)
      rw [hao] at hao'
      have hgg : g = g' := by cases hao'; rfl
      subst hgg
      rw [hao]
      have HU : Hid (unordered ns (j + 1) = decide ((ns[j + 1]).id ≤ (ns[j]).id)) := by
        apply hide; unfold unordered; rw [ndAt_get _ _ hlt, show j + 1 - 1 = j from rfl, ndAt_get _ _ (by omega)]
      clear hao hao' HB
      have hj0 : (0 : Int) ≤ j := by omega
      have hj1 : (j : Int) + 1 < ns.length := by omega
      have hj2 : (j : Int) < ns.length := by omega
      have hj3 : (0 : Int) ≤ (j : Int) + 1 := by omega
      have hj4 : ((j : Int) + 1).toNat = j + 1 := by omega
      by_cases hle : (ns[j + 1]).id ≤ (ns[j]).id
      · have HS : Hid (WR = (3, j + 1)) := by
          apply hide
          have e : scan (unordered ns) 1 ns.length = j + 1 := scan_hit (by omega) hlt (by rw [unhide HU]; simpa using hle) (unhide HN)
          rw [unhide HW, e, if_pos hlt]
        go_wp2
        go_quiet (fail)
        go_wp2
        go_ret2
        exact ⟨by rw [unhide HS]; rfl, below_drewN (below_drewN (Below.refl _ _) _) _⟩
      · have HN2 := hide (noIn_succ (unhide HN) (by rw [unhide HU]; simpa using hle))
        go_wp2
        go_quiet (fail)
        go_wp2
        go_roundw
        case rel => exact ⟨j + 1 + 1, _, by omega, by omega, by go_num, rfl, HN2⟩
        case measure => simp [intOf]; omega
    · have HW2 : Hid (WR = if scan (rOrphan ns) 0 ns.length < ns.length then (4, scan (rOrphan ns) 0 ns.length) else if scan (rLooped ns) 0 ns.length < ns.length then (5, scan (rLooped ns) 0 ns.length) else if scan (rTwice ns) 0 ns.length < ns.length then (6, scan (rTwice ns) 0 ns.length) else (0, 0)) := by
        apply hide
        have e : scan (unordered ns) 1 ns.length = ns.length := scan_none (fun j h1 h2 => unhide HN j h1 (by omega))
        rw [unhide HW, e, if_neg (by omega)]
      clear HW HN hk hk1
      have HROW1 : Hid (Row (w.drewN nq) ao ns.length 3 (ndCells ns)) := hide (row_drewN (unhide HROW) nq)
      have HBW : Hid (Below w.heap.size w (w.drewN nq)) := hide (below_drewN (Below.refl _ _) nq)
      obtain ⟨w1, hw1⟩ : ∃ x, w.drewN nq = x := ⟨_, rfl⟩
      rw [hw1] at HROW1 HBW ⊢
      clear hw1
      have HB1 := hide (Below.refl w1.heap.size w1)
      go_wp2
      go_loop [5] (fun i => ∃ k : Nat, k ≤ ns.length ∧ i = .int .i64 k ∧ Hid (NoIn (rOrphan ns) 0 k)) (fun i => ns.length - (intOf i).toNat)
      case atStart => exact ⟨0, Nat.zero_le _, rfl, hide (fun j h1 h2 => by omega)⟩
      case round =>
        obtain ⟨k, hk, rfl, HN⟩ := hrel
        by_cases hlt : k < ns.length
        · obtain ⟨g, hao, hg, _, c1, _⟩ := nd_cells (unhide HROW1) (unhide HB1) hlt
          have hp := unhide HNB _ (List.getElem_mem hlt)
          have HFO := hide (folder_any ns (ns[k]).parent ao cap w1 (unhide HROW1) hl hp.1 (by omega))
          have HU : Hid (rOrphan ns k = !folderR ns (ns[k]).parent) := by apply hide; unfold rOrphan; rw [ndAt_get _ _ hlt]
          rw [hao] at HFO ⊢
          clear hao
          generalize ns[k] = nd at *
          cases hq : folderR ns nd.parent
          · have HS : Hid (WR = (4, k)) := by
              apply hide
              have e : scan (rOrphan ns) 0 ns.length = k := scan_hit (by omega) hlt (by rw [unhide HU, hq]; rfl) (unhide HN)
              rw [unhide HW2, e, if_pos hlt]
            rw [hq] at HFO
            clear hq
            go_wp2_with fail
            refine (unhide HFO).mono ?_
            rintro e w2 ⟨rfl, rfl⟩
            go_wp2
            go_ret2
            exact ⟨by rw [unhide HS]; rfl, unhide HBW⟩
          · have HN2 := hide (noIn_succ (unhide HN) (by rw [unhide HU, hq]; rfl))
            rw [hq] at HFO
            clear hq
            go_wp2_with fail
            refine (unhide HFO).mono ?_
            rintro e w2 ⟨rfl, rfl⟩
            go_wp2
            go_round
            case rel => exact ⟨k + 1, by omega, by go_num, HN2⟩
            case measure => simp [intOf]; omega
        · have HW3 : Hid (WR = if scan (rLooped ns) 0 ns.length < ns.length then (5, scan (rLooped ns) 0 ns.length) else if scan (rTwice ns) 0 ns.length < ns.length then (6, scan (rTwice ns) 0 ns.length) else (0, 0)) := by
            apply hide
            have e : scan (rOrphan ns) 0 ns.length = ns.length := scan_none (fun j h1 h2 => unhide HN j h1 (by omega))
            rw [unhide HW2, e, if_neg (by omega)]
          clear HW2 HN hk
          go_wp2
          go_loop [7] (fun i => ∃ k : Nat, k ≤ ns.length ∧ i = .int .i64 k ∧ Hid (NoIn (rLooped ns) 0 k)) (fun i => ns.length - (intOf i).toNat)
          case atStart => exact ⟨0, Nat.zero_le _, rfl, hide (fun j h1 h2 => by omega)⟩
          case round =>
            obtain ⟨k, hk, rfl, HN⟩ := hrel
            by_cases hlt : k < ns.length
            · obtain ⟨g, hao, hg, c0, _, _⟩ := nd_cells (unhide HROW1) (unhide HB1) hlt
              have HFO := hide (below_any ns (ns[k]).id 0 ao cap w1 (unhide HROW1) hl)
              have HU : Hid (rLooped ns k = !belowR ns (ns[k]).id 0) := by apply hide; unfold rLooped; rw [ndAt_get _ _ hlt]
              rw [hao] at HFO ⊢
              clear hao
              generalize ns[k] = nd at *
              cases hq : belowR ns nd.id 0
              · have HS : Hid (WR = (5, k)) := by
                  apply hide
                  have e : scan (rLooped ns) 0 ns.length = k := scan_hit (by omega) hlt (by rw [unhide HU, hq]; rfl) (unhide HN)
                  rw [unhide HW3, e, if_pos hlt]
                rw [hq] at HFO
                clear hq
                go_wp2_with fail
                refine (unhide HFO).mono ?_
                rintro e w2 ⟨rfl, rfl⟩
                go_wp2
                go_ret2
                exact ⟨by rw [unhide HS]; rfl, unhide HBW⟩
              · have HN2 := hide (noIn_succ (unhide HN) (by rw [unhide HU, hq]; rfl))
                rw [hq] at HFO
                clear hq
                go_wp2_with fail
                refine (unhide HFO).mono ?_
                rintro e w2 ⟨rfl, rfl⟩
                go_wp2
                go_round
                case rel => exact ⟨k + 1, by omega, by go_num, HN2⟩
                case measure => simp [intOf]; omega
            · have HW4 : Hid (WR = if scan (rTwice ns) 0 ns.length < ns.length then (6, scan (rTwice ns) 0 ns.length) else (0, 0)) := by
                apply hide
                have e : scan (rLooped ns) 0 ns.length = ns.length := scan_none (fun j h1 h2 => unhide HN j h1 (by omega))
                rw [unhide HW3, e, if_neg (by omega)]
              clear HW3 HN hk
              go_wp2
              go_loopw [9] (fun i wr => ∃ k nq : Nat, k ≤ ns.length ∧ i = .int .i64 k ∧ wr = w1.drewN nq ∧ Hid (NoIn (rTwice ns) 0 k)) (fun i _ => ns.length - (intOf i).toNat)
              case atStart => exact ⟨0, 0, Nat.zero_le _, rfl, rfl, hide (fun j h1 h2 => by omega)⟩
              case round =>
                obtain ⟨k, nq2, hk, rfl, rfl, HN⟩ := hrel
                by_cases hlt : k < ns.length
                · obtain ⟨g, hao, hg, _, c1, c2⟩ := nd_cells (unhide HROW1) (unhide HB1) hlt
                  have HTK := hide (fun m => taken_any (ns.take k) (ns[k]).parent (ns[k]).name ao cap (w1.drewN m) (row_drewN (row_take (unhide HROW1) k (by omega)) m) (by rw [List.length_take]; omega))
                  rw [show (ns.take k).length = k by rw [List.length_take]; omega] at HTK
                  have HU : Hid (rTwice ns k = (takenR (ns.take k) (ns[k]).parent (ns[k]).name != 0)) := by apply hide; unfold rTwice; rw [ndAt_get _ _ hlt]
                  rw [hao] at HTK ⊢
                  clear hao
                  have hk0 : (0 : Int) ≤ k := by omega
                  have hk1 : (k : Int) < ns.length := by omega
                  have hk2 : (k : Int) ≤ cap := by omega
                  generalize ns[k] = nd at *
                  generalize takenR (ns.take k) nd.parent nd.name = tk at *
                  cases hq : (tk != 0)
                  · have HN2 := hide (noIn_succ (unhide HN) (by rw [unhide HU]; exact hq))
                    go_wp2
                    go_quiet ((go_at_call 125; exact quiet_add (unhide HTK _)))
                    go_wp2
                    go_roundw
                    case rel => exact ⟨k + 1, _, by omega, by go_num, rfl, HN2⟩
                    case measure => simp [intOf]; omega
                  · have HS : Hid (WR = (6, k)) := by
                      apply hide
                      have e : scan (rTwice ns) 0 ns.length = k := scan_hit (by omega) hlt (by rw [unhide HU]; exact hq) (unhide HN)
                      rw [unhide HW4, e, if_pos hlt]
                    go_wp2
                    go_quiet ((go_at_call 125; exact quiet_add (unhide HTK _)))
                    go_wp2
                    go_ret2
                    exact ⟨by rw [unhide HS]; rfl, below_drewN (unhide HBW) _⟩
                · have HS : Hid (WR = (0, 0)) := by
                    apply hide
                    have e : scan (rTwice ns) 0 ns.length = ns.length := scan_none (fun j h1 h2 => unhide HN j h1 (by omega))
                    rw [unhide HW4, e, if_neg (by omega)]
                  go_wp2
                  go_ret2
                  exact ⟨by rw [unhide HS]; rfl, below_drewN (unhide HBW) _⟩
set_option maxHeartbeats 1000000 in
theorem rcheck_any (s : ByteArray) (w : World) :
    Calls Tryz.prog 76 #[.string s] w fun e w' => e = .returned (.tuple #[.int .i64 (checkR (sl s)).1, .int .i64 (checkR (sl s)).2]) ∧ Below w.heap.size w w' := by
  by_cases h1 : 4000 < s.size
  · have e : checkR (sl s) = (1, 0) := by unfold checkR; rw [sl_length, if_pos h1]
    rw [e]
    go_enter Tryz.func76, Tryz.ntmps76
    go_wp2
    go_ret2
    exact ⟨rfl, Below.refl _ _⟩
  · have HN := hide (fun W => nodes_any s W (by omega))
    have hrl : (cut (sl s)).length ≤ 4000 := by have := cut_length_le (sl s); rw [sl_length] at this; omega
    have hnl := readNodes_length (cut (sl s))
    have HNB := hide (readNodes_bd (cut (sl s)))
    by_cases h2 : (readNodes (cut (sl s))).length < (cut (sl s)).length
    · have e : checkR (sl s) = (2, (readNodes (cut (sl s))).length) := by unfold checkR; rw [sl_length, if_neg h1, if_pos h2]
      rw [e]
      generalize readNodes (cut (sl s)) = ns at *
      go_enter Tryz.func76, Tryz.ntmps76
      go_wp2_with fail
      refine (unhide HN _).mono ?_
      rintro e w1 ⟨⟨_, rfl⟩ | ⟨hno, _⟩, hb1⟩
      · go_wp2
        go_ret2
        exact ⟨rfl, hb1⟩
      · exact absurd h2 hno
    · have e : checkR (sl s) = wrongR (readNodes (cut (sl s))) := by unfold checkR; rw [sl_length, if_neg h1, if_neg h2]
      rw [e]
      have HWR := hide (fun ao cap W h1 h2 => wrong_any (readNodes (cut (sl s))) ao cap W h1 h2 (by omega) (fun n hn => ⟨(unhide HNB n hn).2.2.1, (unhide HNB n hn).2.2.2.1⟩))
      generalize readNodes (cut (sl s)) = ns at *
      go_enter Tryz.func76, Tryz.ntmps76
      go_wp2_with fail
      refine (unhide HN _).mono ?_
      rintro e w1 ⟨⟨hno, _⟩ | ⟨_, ao, cap, rfl, hrow, hcap⟩, hb1⟩
      · exact absurd hno h2
      · have HR := hide hrow
        clear hrow
        go_wp2_with fail
        refine (unhide HWR _ _ _ (unhide HR) hcap).mono ?_
        rintro e w2 ⟨rfl, hb2⟩
        go_wp2
        go_ret2
        exact ⟨rfl, hb1.trans (hb2.mono hb1.size)⟩
end Go.Proofs.YtdcjimlhaklhfabGreatDoor
