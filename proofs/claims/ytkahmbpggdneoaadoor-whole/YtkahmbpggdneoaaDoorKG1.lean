import Derived.Test.YtkahmbpggdneoaaDoorRPure1
import Derived.Test.YtkahmbpggdneoaaDoorW4
import Derived.Laws.BytesArg
namespace Go.Proofs.YtkahmbpggdneoaaDoor
open Go.RowKit
theorem conv_one (W : World) (x : Int) : (convert 99 9 (.slice (some ⟨W.heap.size, 0, none⟩) 1 1)).run Tryd.prog (W.alloc (.cells #[.int .u8 x] 5)) = .ok (.string (bs [UInt8.ofNat x.toNat])) (W.alloc (.cells #[.int .u8 x] 5)) := by
  have := run_convert_bytes_arg (P := Tryd.prog) (W.alloc (.cells #[.int .u8 x] 5)) 99 5 Tryd.underlying99 Tryd.underlying5 W.heap.size 0 1 1 [x] rfl (fun i hi => by
    have hi0 : i = 0 := by omega
    subst hi0
    have := news_one (w := W) (.int .u8 x) 5 0 _ rfl
    exact this) 9 Tryd.underlying9
  exact this
theorem sl_append' (a b : ByteArray) : sl (a ++ b) = sl a ++ sl b := by simp [sl, ByteArray.data_append]
theorem bs_append (a b : Str) : bs a ++ bs b = bs (a ++ b) := by
  have h := sl_append' (bs a) (bs b)
  rw [sl_bs, sl_bs] at h
  rw [← bs_sl (bs a ++ bs b), h]
theorem add_one (S : Str) (h : S.length ≤ 1000000) (W : World) (c : UInt8) : (Op.stringOp .add (bs [c]) (bs S)).run Tryd.prog W = .ok (.string (bs (c :: S))) W := by
  rw [run_string_add_sum (P := Tryd.prog) W _ _ (by rw [bs_size, bs_size]; simp; omega), bs_append]; rfl
def DigInv (n m : Nat) (S : Str) : Prop := ∃ t, S = UInt8.ofNat (48 + m % 10) :: t ∧ dec n = dec m ++ t ∧ t.length + m ≤ n
theorem digInv_step {n m : Nat} {S : Str} (h : DigInv n m S) (hm : 10 ≤ m) : DigInv n (m / 10) (UInt8.ofNat (48 + m / 10 % 10) :: S) := by
  obtain ⟨t, h1, h2, h3⟩ := h
  refine ⟨S, rfl, ?_, ?_⟩
  · rw [h2, dec_big (by omega), h1]; simp
  · rw [h1]; simp; omega
theorem digInv_end {n m : Nat} {S : Str} (h : DigInv n m S) (hm : ¬ 10 ≤ m) : dec n = S := by
  obtain ⟨t, h1, h2, h3⟩ := h
  rw [h2, dec_small (by omega), h1]; rfl
theorem digInv_len {n m : Nat} {S : Str} (h : DigInv n m S) : S.length ≤ n + 1 := by
  obtain ⟨t, h1, h2, h3⟩ := h
  rw [h1]; simp; omega
set_option maxHeartbeats 1000000 in
theorem digits_nat (n : Nat) (w : World) (hn : n ≤ 99999) :
    Calls Tryd.prog 35 #[.int .i64 n] w fun e w' => e = .returned (.string (bs (dec n))) ∧ Below w.heap.size w w' := by
  have hconv := conv_one
  have hm0 : (0 : Int) ≤ (n : Int) % 10 := by omega
  have hm1 : (n : Int) % 10 ≤ 9 := by omega
  go_enter Tryd.func35, Tryd.ntmps35
  go_wp2
  go_loopw [0, 3] (fun a b wr => ∃ m : Nat, ∃ S : Str, m ≤ n ∧ a = .int .i64 m ∧ b = .string (bs S) ∧ Below w.heap.size w wr ∧ Hid (DigInv n m S)) (fun a _ _ => (intOf a).toNat)
  case atStart => exact ⟨n, _, Nat.le_refl _, rfl, rfl, (Below.refl _ _).alloc (Nat.le_refl _) _, hide ⟨[], rfl, by simp, by simp⟩⟩
  case round =>
    obtain ⟨m, S, hm, rfl, rfl, hbel, HI⟩ := hrel
    clear hm0 hm1
    by_cases hge : 10 ≤ m
    · have hadd := add_one S (by have := digInv_len (unhide HI); omega)
      have HI2 := hide (digInv_step (unhide HI) hge)
      have hq0 : (0 : Int) ≤ (m : Int) / 10 % 10 := by omega
      have hq1 : (m : Int) / 10 % 10 ≤ 9 := by omega
      have hsz := hbel.size
      go_wp2
      go_roundw
      case rel => exact ⟨m / 10, _, by omega, by go_num, rfl, hbel.alloc hsz _, by rw [show ((48 : UInt8) + UInt8.ofNat (m / 10 % 10)) = UInt8.ofNat (48 + m / 10 % 10) by simp]; exact HI2⟩
      case measure => simp [intOf]; omega
    · have HE := hide (digInv_end (unhide HI) hge)
      go_wp2
      go_ret
      exact ⟨ret_str (by rw [unhide HE]), hbel⟩
theorem digits_any (n : Int) (w : World) (h0 : 0 ≤ n) (h1 : n ≤ 99999) :
    Calls Tryd.prog 35 #[.int .i64 n] w fun e w' => e = .returned (.string (bs (dec n.toNat))) ∧ Below w.heap.size w w' := by
  obtain ⟨m, rfl⟩ := Int.eq_ofNat_of_zero_le h0
  exact digits_nat m w (by omega)
end Go.Proofs.YtkahmbpggdneoaaDoor
