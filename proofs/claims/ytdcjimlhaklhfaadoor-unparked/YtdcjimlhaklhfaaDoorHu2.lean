import Derived.Test.YtdcjimlhaklhfaaDoorHu1
import Derived.Laws.BytesArg
import Derived.Deep.RegionHeld3
import Derived.Deep.DrawnRows
import Derived.Deep.Cut
namespace Go.Proofs.YtdcjimlhaklhfaaDoor
open Go.RowKit
theorem conv_one (W : World) (x : Int) : (convert 99 9 (.slice (some ⟨W.heap.size, 0, none⟩) 1 1)).run Tryd.prog (W.alloc (.cells #[.int .u8 x] 5)) = .ok (.string (bs [UInt8.ofNat x.toNat])) (W.alloc (.cells #[.int .u8 x] 5)) := by
  have := run_convert_bytes_arg (P := Tryd.prog) (W.alloc (.cells #[.int .u8 x] 5)) 99 5 Tryd.underlying99 Tryd.underlying5 W.heap.size 0 1 1 [x] rfl (fun i hi => by
    have hi0 : i = 0 := by omega
    subst hi0
    have := news_one (w := W) (.int .u8 x) 5 0 _ rfl
    exact this) 9 Tryd.underlying9
  exact this
theorem sl_append' (a b : ByteArray) : sl (a ++ b) = sl a ++ sl b := by simp [sl, ByteArray.data_append]
theorem bs_append (a b : Str) : bs a ++ bs b = bs (a ++ b) := by
  have h := sl_append' (bs a) (bs b)
  rw [sl_bs, sl_bs] at h
  rw [← bs_sl (bs a ++ bs b), h]
theorem add_one (S : Str) (h : S.length ≤ 1000000) (W : World) (c : UInt8) : (Op.stringOp .add (bs [c]) (bs S)).run Tryd.prog W = .ok (.string (bs (c :: S))) W := by
  rw [run_string_add_sum (P := Tryd.prog) W _ _ (by rw [bs_size, bs_size]; simp; omega), bs_append]; rfl
def DigInv (n m : Nat) (S : Str) : Prop := ∃ t, S = UInt8.ofNat (48 + m % 10) :: t ∧ dec n = dec m ++ t ∧ t.length + m ≤ n
theorem digInv_step {n m : Nat} {S : Str} (h : DigInv n m S) (hm : 10 ≤ m) : DigInv n (m / 10) (UInt8.ofNat (48 + m / 10 % 10) :: S) := by
  obtain ⟨t, h1, h2, h3⟩ := h
  refine ⟨S, rfl, ?_, ?_⟩
  · rw [h2, dec_big (by omega), h1]; simp
  · rw [h1]; simp; omega
theorem digInv_end {n m : Nat} {S : Str} (h : DigInv n m S) (hm : ¬ 10 ≤ m) : dec n = S := by
  obtain ⟨t, h1, h2, h3⟩ := h
  rw [h2, dec_small (by omega), h1]; rfl
theorem digInv_len {n m : Nat} {S : Str} (h : DigInv n m S) : S.length ≤ n + 1 := by
  obtain ⟨t, h1, h2, h3⟩ := h
  rw [h1]; simp; omega
set_option maxHeartbeats 1000000 in
theorem digits_nat (n : Nat) (w : World) (hn : n ≤ 99999) :
    Calls Tryd.prog 93 #[.int .i64 n] w fun e w' => e = .returned (.string (bs (dec n))) ∧ Below w.heap.size w w' := by
  have hconv := conv_one
  have hm0 : (0 : Int) ≤ (n : Int) % 10 := by omega
  have hm1 : (n : Int) % 10 ≤ 9 := by omega
  go_enter Tryd.func93, Tryd.ntmps93
  go_wp2
  go_loopw [0, 3] (fun a b wr => ∃ m : Nat, ∃ S : Str, m ≤ n ∧ a = .int .i64 m ∧ b = .string (bs S) ∧ Below w.heap.size w wr ∧ Hid (DigInv n m S)) (fun a _ _ => (intOf a).toNat)
  case atStart => exact ⟨n, _, Nat.le_refl _, rfl, rfl, (Below.refl _ _).alloc (Nat.le_refl _) _, hide ⟨[], rfl, by simp, by simp⟩⟩
  case round =>
    obtain ⟨m, S, hm, rfl, rfl, hbel, HI⟩ := hrel
    clear hm0 hm1
    by_cases hge : 10 ≤ m
    · have hadd := add_one S (by have := digInv_len (unhide HI); omega)
      have HI2 := hide (digInv_step (unhide HI) hge)
      have hq0 : (0 : Int) ≤ (m : Int) / 10 % 10 := by omega
      have hq1 : (m : Int) / 10 % 10 ≤ 9 := by omega
      have hsz := hbel.size
      go_wp2
      go_roundw
      case rel => exact ⟨m / 10, _, by omega, by go_num, rfl, hbel.alloc hsz _, by rw [show ((48 : UInt8) + UInt8.ofNat (m / 10 % 10)) = UInt8.ofNat (48 + m / 10 % 10) by simp]; exact HI2⟩
      case measure => simp [intOf]; omega
    · have HE := hide (digInv_end (unhide HI) hge)
      go_wp2
      go_ret
      exact ⟨ret_str (by rw [unhide HE]), hbel⟩
theorem digits_any (n : Int) (w : World) (h0 : 0 ≤ n) (h1 : n ≤ 99999) :
    Calls Tryd.prog 93 #[.int .i64 n] w fun e w' => e = .returned (.string (bs (dec n.toNat))) ∧ Below w.heap.size w w' := by
  obtain ⟨m, rfl⟩ := Int.eq_ofNat_of_zero_le h0
  exact digits_nat m w (by omega)
end Go.Proofs.YtdcjimlhaklhfaaDoor

namespace Go.Proofs.YtdcjimlhaklhfaaDoor
open Go.RowKit
def digB (c : UInt8) : Bool := decide (48 ≤ c.toNat) && decide (c.toNat ≤ 57)
theorem digB_iff (c : UInt8) : digB c = true ↔ 48 ≤ c.toNat ∧ c.toNat ≤ 57 := by simp [digB]
def valF (n : Nat) (l : Str) : Nat := l.foldl (fun n c => n * 10 + (c.toNat - 48)) n
def val (l : Str) : Nat := valF 0 l
theorem valF_ge : ∀ (l : Str) (n : Nat), n ≤ valF n l := by
  intro l
  induction l with
  | nil => intro n; exact Nat.le_refl _
  | cons c r ih => intro n; have := ih (n * 10 + (c.toNat - 48)); simp only [valF, List.foldl_cons] at this ⊢; omega
theorem val_snoc (l : Str) (c : UInt8) : val (l ++ [c]) = val l * 10 + (c.toNat - 48) := by simp [val, valF, List.foldl_append]
theorem numGo_val (hi : Int) : ∀ (l : Str) (n : Nat), l.all digB = true → (n : Int) ≤ hi → numGo hi n l = if (valF n l : Int) ≤ hi then some (valF n l : Int) else none := by
  intro l
  induction l with
  | nil => intro n _ h; simp [numGo, valF, h]
  | cons c r ih =>
    intro n ha h
    simp only [List.all_cons, Bool.and_eq_true] at ha
    have hd := (digB_iff c).1 ha.1
    have e : (n : Int) * 10 + ((c.toNat : Int) - 48) = ((n * 10 + (c.toNat - 48) : Nat) : Int) := by omega
    rw [numGo, if_pos hd, e]
    have hv : valF n (c :: r) = valF (n * 10 + (c.toNat - 48)) r := rfl
    by_cases hb : ((n * 10 + (c.toNat - 48) : Nat) : Int) > hi
    · rw [if_pos hb, hv, if_neg]
      have := valF_ge r (n * 10 + (c.toNat - 48)); omega
    · rw [if_neg hb, ih _ ha.2 (by omega), hv]
theorem numGo_bad (hi : Int) : ∀ (l : Str) (n : Int), l.all digB = false → numGo hi n l = none := by
  intro l
  induction l with
  | nil => intro n h; simp at h
  | cons c r ih =>
    intro n h
    rw [numGo]
    by_cases hd : 48 ≤ c.toNat ∧ c.toNat ≤ 57
    · rw [if_pos hd]
      have hr : r.all digB = false := by
        rw [List.all_cons, (digB_iff c).2 hd] at h; simpa using h
      rw [ih _ hr]; split <;> rfl
    · rw [if_neg hd]
theorem ofNat_dig (d : Nat) (h : d ≤ 9) : (UInt8.ofNat (48 + d)).toNat = 48 + d := by
  rw [UInt8.toNat_ofNat']; omega
theorem dec_digs (n : Nat) : (dec n).all digB = true ∧ val (dec n) = n := by
  have : ∀ f n, n ≤ f → (dec n).all digB = true ∧ val (dec n) = n := by
    intro f
    induction f with
    | zero => intro n h; have : n = 0 := by omega
              subst this; exact ⟨by decide, by decide⟩
    | succ f ih =>
      intro n h
      by_cases h10 : n < 10
      · rw [dec_small h10]
        have := ofNat_dig (n % 10) (by omega)
        refine ⟨?_, ?_⟩
        · simp only [List.all_cons, List.all_nil, Bool.and_true]; rw [digB_iff, this]; omega
        · simp only [val, valF, List.foldl_cons, List.foldl_nil]; rw [this]; omega
      · rw [dec_big h10]
        have := ofNat_dig (n % 10) (by omega)
        obtain ⟨i1, i2⟩ := ih (n / 10) (by omega)
        refine ⟨?_, ?_⟩
        · rw [List.all_append, i1]; simp only [List.all_cons, List.all_nil, Bool.and_true, Bool.true_and]; rw [digB_iff, this]; omega
        · rw [val_snoc, i2, this]; omega
  exact this n n (Nat.le_refl _)
theorem val_pos (l : Str) (c : UInt8) (h : 49 ≤ c.toNat) : 1 ≤ val (c :: l) := by
  have := valF_ge l (0 * 10 + (c.toNat - 48))
  simp only [val, valF, List.foldl_cons] at this ⊢; omega
theorem u8_digit (c : UInt8) (h : 48 ≤ c.toNat ∧ c.toNat ≤ 57) : UInt8.ofNat (48 + (c.toNat - 48)) = c := by
  apply UInt8.toNat_inj.1; rw [ofNat_dig _ (by omega)]; omega
theorem val_dec (l : Str) : l.all digB = true → numBad l = false → dec (val l) = l := by
  refine snoc_ind (P := fun l => l.all digB = true → numBad l = false → dec (val l) = l) ?_ ?_ l
  · intro _ h; simp [numBad] at h
  · intro a c ih ha hb
    rw [List.all_append, Bool.and_eq_true] at ha
    have hc := (digB_iff c).1 (by simpa using ha.2)
    rw [val_snoc]
    cases a with
    | nil =>
      have e : val [] * 10 + (c.toNat - 48) = c.toNat - 48 := by simp [val, valF]
      rw [e, dec_small (by omega), Nat.mod_eq_of_lt (by omega), u8_digit c hc]; rfl
    | cons b r =>
      have hb48 : ¬ b = 48 := by
        intro e; subst e; simp [numBad] at hb
      have hb' : 49 ≤ b.toNat := by
        have h1 := ((digB_iff b).1 (by have := ha.1; simp only [List.all_cons, Bool.and_eq_true] at this; exact this.1)).1
        have : b.toNat ≠ 48 := fun e => hb48 (UInt8.toNat_inj.1 (by simpa using e))
        omega
      have hv := val_pos r b hb'
      have hbad : numBad (b :: r) = false := by simp [numBad, hb48]
      rw [dec_big (by omega), show (val (b :: r) * 10 + (c.toNat - 48)) / 10 = val (b :: r) by omega, show (val (b :: r) * 10 + (c.toNat - 48)) % 10 = c.toNat - 48 by omega, ih ha.1 hbad, u8_digit c hc]
theorem dec_notBad (n : Nat) : numBad (dec n) = false := by
  have : ∀ f n, n ≤ f → numBad (dec n) = false ∧ (1 ≤ n → (dec n).headD 0 ≠ 48) := by
    intro f
    induction f with
    | zero => intro n h; have : n = 0 := by omega
              subst this; exact ⟨by decide, by omega⟩
    | succ f ih =>
      intro n h
      by_cases h10 : n < 10
      · rw [dec_small h10]
        have := ofNat_dig (n % 10) (by omega)
        refine ⟨by simp [numBad], fun h1 e => ?_⟩
        have e' : UInt8.ofNat (48 + n % 10) = 48 := e
        have := congrArg UInt8.toNat e'
        rw [ofNat_dig _ (by omega)] at this
        simp at this; omega
      · rw [dec_big h10]
        obtain ⟨i1, i2⟩ := ih (n / 10) (by omega)
        have i3 := i2 (by omega)
        have hp := dec_len_pos (n / 10)
        cases hd : dec (n / 10) with
        | nil => rw [hd] at hp; simp at hp
        | cons b r =>
          rw [hd] at i3
          refine ⟨?_, fun _ => by simpa using i3⟩
          have : b ≠ 48 := by simpa using i3
          simp [numBad, this]
  exact (this n n (Nat.le_refl _)).1
theorem val_lt (l : Str) : ∀ n, l.all digB = true → valF n l < (n + 1) * 10 ^ l.length := by
  induction l with
  | nil => intro n _; simp [valF]
  | cons c r ih =>
    intro n ha
    simp only [List.all_cons, Bool.and_eq_true] at ha
    have hd := (digB_iff c).1 ha.1
    have := ih (n * 10 + (c.toNat - 48)) ha.2
    have hv : valF n (c :: r) = valF (n * 10 + (c.toNat - 48)) r := rfl
    rw [hv, List.length_cons, Nat.pow_succ]
    refine Nat.lt_of_lt_of_le this ?_
    rw [Nat.mul_comm (10 ^ r.length) 10, ← Nat.mul_assoc]
    exact Nat.mul_le_mul_right _ (by omega)
/-- What the document's reader of numbers answers. -/
def numR (l : Str) (lo hi : Int) : Int := if (number l lo hi).2 then (number l lo hi).1 else -1
theorem numR_digits {l : Str} {lo hi : Int} (ha : l.all digB = true) (hb : numBad l = false) (h0 : 0 ≤ hi) : numR l lo hi = if lo ≤ (val l : Int) ∧ (val l : Int) ≤ hi then (val l : Int) else -1 := by
  have hg := numGo_val hi l 0 ha h0
  rw [show ((0 : Nat) : Int) = 0 from rfl] at hg
  unfold numR
  by_cases h : (val l : Int) ≤ hi
  · rw [if_pos (show (valF 0 l : Int) ≤ hi from h)] at hg
    rw [number_some hb hg]
    show (if decide (lo ≤ (val l : Int)) = true then (val l : Int) else -1) = _
    by_cases h1 : lo ≤ (val l : Int)
    · rw [if_pos (by simpa using h1), if_pos ⟨h1, h⟩]
    · rw [if_neg (by simpa using h1), if_neg (fun hh => h1 hh.1)]
  · rw [if_neg (show ¬ (valF 0 l : Int) ≤ hi from h)] at hg
    rw [number_none hg]
    exact (if_neg (fun hh => h hh.2)).symm
theorem numR_nodig {l : Str} {lo hi : Int} (ha : l.all digB = false) : numR l lo hi = -1 := by
  unfold numR; rw [number_none (numGo_bad hi l 0 ha)]; rfl
theorem numR_bad {l : Str} {lo hi : Int} (hb : numBad l = true) : numR l lo hi = -1 := by
  unfold numR; rw [number_bad hb]; rfl
theorem numR_long {l : Str} {lo hi : Int} (h0 : 0 ≤ hi) (h1 : hi ≤ 9999) (hl : 4 < l.length) : numR l lo hi = -1 := by
  cases ha : l.all digB
  · exact numR_nodig ha
  · cases hb : numBad l
    · rw [numR_digits ha hb h0, if_neg]
      rintro ⟨_, h⟩
      have := dec_len (val l) (by omega)
      rw [val_dec l ha hb] at this
      omega
    · exact numR_bad hb
theorem numR_empty {l : Str} {lo hi : Int} (hl : l.length < 1) : numR l lo hi = -1 := by
  have : l = [] := List.length_eq_zero_iff.1 (by omega)
  exact numR_bad (by simp [numBad, this])
/-- all digits: where the digits of the value are the text itself, and where not. -/
theorem numR_eq {l : Str} {lo hi : Int} (ha : l.all digB = true) (h0 : 0 ≤ hi) (he : dec (val l) = l) : numR l lo hi = if lo ≤ (val l : Int) ∧ (val l : Int) ≤ hi then (val l : Int) else -1 :=
  numR_digits ha (by rw [← he]; exact dec_notBad _) h0
theorem numR_ne {l : Str} {lo hi : Int} (ha : l.all digB = true) (he : ¬ dec (val l) = l) : numR l lo hi = -1 := by
  cases hb : numBad l
  · exact absurd (val_dec l ha hb) he
  · exact numR_bad hb
theorem numR_out {l : Str} {lo hi : Int} (ha : l.all digB = true) (h0 : 0 ≤ hi) (ho : (val l : Int) < lo ∨ hi < (val l : Int)) : numR l lo hi = -1 := by
  cases hb : numBad l
  · rw [numR_digits ha hb h0, if_neg (by omega)]
  · exact numR_bad hb
end Go.Proofs.YtdcjimlhaklhfaaDoor

namespace Go.Proofs.YtdcjimlhaklhfaaDoor
open Go.RowKit
theorem val_le4 (l : Str) (h : l.all digB = true) (hl : l.length ≤ 4) : val l ≤ 9999 := by
  have := val_lt l 0 h
  have h2 : 10 ^ l.length ≤ 10 ^ 4 := Nat.pow_le_pow_right (by omega) hl
  simp only [val]; omega
theorem all_take {s : ByteArray} {k : Nat} (h : k < s.size) (ha : ((sl s).take k).all digB = true) (hd : 48 ≤ s[k].toNat ∧ s[k].toNat ≤ 57) : ((sl s).take (k + 1)).all digB = true := by
  rw [take_snoc s k h, List.all_append, ha]; simp [(digB_iff _).2 hd]
theorem all_not {s : ByteArray} {k : Nat} (h : k < s.size) (hd : ¬ (48 ≤ s[k].toNat ∧ s[k].toNat ≤ 57)) : (sl s).all digB = false := by
  rw [← List.take_append_drop k (sl s), List.all_append, drop_cons s k h, List.all_cons]
  have : digB s[k] = false := by cases hq : digB s[k]; rfl; exact absurd ((digB_iff _).1 hq) hd
  rw [this]; simp
set_option maxHeartbeats 2000000 in
theorem rnumber_any (s : ByteArray) (lo hi : Int) (w : World) (hs : s.size ≤ 4000) (hb : 0 ≤ hi) (hb' : hi ≤ 9999) :
    Calls Tryd.prog 85 #[.string s, .int .i64 lo, .int .i64 hi] w fun e w' => e = .returned (.int .i64 (numR (sl s) lo hi)) ∧ Below w.heap.size w w' := by
  by_cases h1 : s.size < 1
  · have HF : Hid (numR (sl s) lo hi = -1) := hide (numR_empty (by rw [sl_length]; exact h1))
    go_enter Tryd.func85, Tryd.ntmps85
    go_wp2
    go_ret
    exact ⟨ret_int (unhide HF).symm, Below.refl _ _⟩
  · by_cases h4 : 4 < s.size
    · have HF : Hid (numR (sl s) lo hi = -1) := hide (numR_long hb hb' (by rw [sl_length]; exact h4))
      go_enter Tryd.func85, Tryd.ntmps85
      go_wp2
      go_ret
      exact ⟨ret_int (unhide HF).symm, Below.refl _ _⟩
    · go_enter Tryd.func85, Tryd.ntmps85
      go_wp2
      go_loop [7, 8] (fun n i => ∃ k m : Nat, k ≤ s.size ∧ i = .int .i64 k ∧ n = .int .i64 m ∧ m ≤ 9999 ∧ Hid (m = val ((sl s).take k) ∧ ((sl s).take k).all digB = true)) (fun _ i => s.size - (intOf i).toNat)
      case atStart => exact ⟨0, 0, Nat.zero_le _, rfl, rfl, by omega, hide ⟨by simp [val, valF], by simp⟩⟩
      case round =>
        obtain ⟨k, m, hk, rfl, rfl, hm, HI⟩ := hrel
        by_cases hlt : k < s.size
        · by_cases hd : 48 ≤ s[k].toNat ∧ s[k].toNat ≤ 57
          · have HA := hide (all_take hlt (unhide HI).2 hd)
            have HV : Hid (m * 10 + (s[k].toNat - 48) = val ((sl s).take (k + 1))) := by
              apply hide; rw [take_snoc s k hlt, val_snoc, ← (unhide HI).1]
            have hb4 : m * 10 + (s[k].toNat - 48) ≤ 9999 := by
              rw [unhide HV]; exact val_le4 _ (unhide HA) (by rw [List.length_take]; omega)
            obtain ⟨hd1, hd2⟩ := hd
            go_wp2
            go_round
            case rel => exact ⟨k + 1, m * 10 + (s[k].toNat - 48), by omega, by go_num, by go_num, hb4, hide ⟨unhide HV, unhide HA⟩⟩
            case measure => simp [intOf]; omega
          · have HF : Hid (numR (sl s) lo hi = -1) := hide (numR_nodig (all_not hlt hd))
            have hd' : s[k].toNat < 48 ∨ 57 < s[k].toNat := by omega
            clear hd
            rcases hd' with hd | hd
            all_goals
              go_wp2
              go_ret
              exact ⟨ret_int (unhide HF).symm, Below.refl _ _⟩
        · have hks : k = s.size := by omega
          subst hks
          have hI := unhide HI
          rw [List.take_of_length_le (by rw [sl_length]; omega)] at hI
          have HI2 := hide hI; clear hI HI
          by_cases hlo : (m : Int) < lo
          · have HF : Hid (numR (sl s) lo hi = -1) := hide (numR_out (unhide HI2).2 hb (by rw [← (unhide HI2).1]; exact .inl hlo))
            go_wp2
            go_ret
            exact ⟨ret_int (unhide HF).symm, Below.refl _ _⟩
          · by_cases hhi : hi < (m : Int)
            · have HF : Hid (numR (sl s) lo hi = -1) := hide (numR_out (unhide HI2).2 hb (by rw [← (unhide HI2).1]; exact .inr hhi))
              go_wp2
              go_ret
              exact ⟨ret_int (unhide HF).symm, Below.refl _ _⟩
            · have HD := hide (fun W => digits_nat m W (by omega))
              by_cases he : dec m = sl s
              · have HF : Hid (numR (sl s) lo hi = m) := by
                  apply hide; rw [numR_eq (unhide HI2).2 hb (by rw [← (unhide HI2).1]; exact he), ← (unhide HI2).1, if_pos (by omega)]
                have hne : ((bs (dec m)).toList == s.toList) = true := by rw [tl_sl, tl_sl, sl_bs, he]; simp
                have HE := hide he; clear he
                go_wp2_with fail
                refine (unhide HD _).mono ?_
                rintro e w1 ⟨rfl, hb1⟩
                go_wp2
                go_ret
                exact ⟨ret_int (unhide HF).symm, hb1⟩
              · have HF : Hid (numR (sl s) lo hi = -1) := hide (numR_ne (unhide HI2).2 (by rw [← (unhide HI2).1]; exact he))
                have hne : ((bs (dec m)).toList == s.toList) = false := by rw [tl_sl, tl_sl, sl_bs]; simpa using he
                have HE := hide he; clear he
                go_wp2_with fail
                refine (unhide HD _).mono ?_
                rintro e w1 ⟨rfl, hb1⟩
                go_wp2
                go_ret
                exact ⟨ret_int (unhide HF).symm, hb1⟩
end Go.Proofs.YtdcjimlhaklhfaaDoor

namespace Go.Proofs.YtdcjimlhaklhfaaDoor
open Go.RowKit
attribute [local go_sem ↓] Go.wp_at_zero Go.wp_at_succ
theorem plain_tilde : plainB 126 = false := by decide
theorem isName_at {s : ByteArray} {id : Int} {p : Nat} (hp : plainLen (sl s) = p) : isName (sl s) id = (decide (1 ≤ p) && decide (p ≤ 8) && (p == s.size || (sl s).drop p == 126 :: digs id)) := by
  unfold isName; rw [hp, sl_length]
set_option maxHeartbeats 2000000 in
theorem named_any (s : ByteArray) (id : Int) (w : World) (hs : s.size ≤ 4000) (h0 : 0 ≤ id) (h1 : id ≤ 99) :
    Calls Tryd.prog 86 #[.int .i64 id, .string s] w fun e w' => e = .returned (.bool (isName (sl s) id)) ∧ Below w.heap.size w w' := by
  have HD := hide (fun W => digits_any id W h0 (by omega))
  have HDD : Hid (dec id.toNat = digs id) := by apply hide; rw [← digs_dec id.toNat (by omega), Int.toNat_of_nonneg h0]
  rw [unhide HDD] at HD
  go_enter Tryd.func86, Tryd.ntmps86
  go_wp2
  go_loop [5] (fun i => ∃ k : Nat, k ≤ s.size ∧ i = .int .i64 k ∧ Hid (((sl s).take k).all plainB = true)) (fun i => s.size - (intOf i).toNat)
  case atStart => exact ⟨0, Nat.zero_le _, rfl, hide (by simp)⟩
  case round =>
    obtain ⟨k, hk, rfl, HA⟩ := hrel
    by_cases hgo : ∃ h : k < s.size, plainB s[k] = true
    · obtain ⟨hlt, hp⟩ := hgo
      have HA2 : Hid (((sl s).take (k + 1)).all plainB = true) := by apply hide; rw [take_snoc s k hlt]; simp [hp]; simpa using unhide HA
      have key : ((s[k].toNat : Int) != 126) = true ∧ ((97 ≤ s[k].toNat ∧ s[k].toNat ≤ 122) ∨ (48 ≤ s[k].toNat ∧ s[k].toNat ≤ 57) ∨ s[k].toNat = 46) := by
        simp [plainB] at hp
        refine ⟨by rw [bne_iff_ne]; omega, by omega⟩
      obtain ⟨ht, hc⟩ := key
      clear hp
      rcases hc with ⟨c1, c2⟩ | ⟨c1, c2⟩ | c1
      · go_wp2
        go_round
        case rel => exact ⟨k + 1, by omega, by go_num, HA2⟩
        case measure => simp [intOf]; omega
      · go_wp2
        go_round
        case rel => exact ⟨k + 1, by omega, by go_num, HA2⟩
        case measure => simp [intOf]; omega
      · have c3 : ((s[k].toNat : Int) != 46) = false := by rw [bne_eq_false_iff_eq]; omega
        have c4 : (s[k].toNat : Int) < 48 := by omega
        have c5 : (s[k].toNat : Int) < 97 := by omega
        clear c1
        go_wp2
        go_round
        case rel => exact ⟨k + 1, by omega, by go_num, HA2⟩
        case measure => simp [intOf]; omega
    · have HPL : Hid (plainLen (sl s) = k) := by
        apply hide
        refine plainLen_stop (sl s) k (by rw [sl_length]; exact hk) (unhide HA) (fun c r h => ?_)
        by_cases hlt : k < s.size
        · rw [drop_cons s k hlt] at h; cases h
          cases hq : plainB s[k]
          · rfl
          · exact absurd ⟨hlt, hq⟩ hgo
        · rw [List.drop_eq_nil_of_le (by rw [sl_length]; omega)] at h; cases h
      have HN := hide (isName_at (id := id) (unhide HPL))
      by_cases hlt : k < s.size
      · by_cases ht : s[k] = 126
        · have ht' : ((s[k].toNat : Int) != 126) = false := by rw [bne_eq_false_iff_eq, ht]; rfl
          have hke : ((k : Int) == (s.size : Int)) = false := by rw [beq_eq_false_iff_ne]; omega
          have HKE : Hid ((k == s.size) = false) := hide (by rw [beq_eq_false_iff_ne]; omega)
          clear ht hgo
          by_cases hk1 : 1 ≤ k
          · by_cases hk8 : k ≤ 8
            · have HF : Hid (isName (sl s) id = ((sl s).drop k == 126 :: digs id)) := by apply hide; rw [unhide HN, unhide HKE]; simp [hk1, hk8]
              have hadd : ∀ W : World, (Op.stringOp .add ⟨#[126]⟩ (bs (digs id))).run Tryd.prog W = .ok (.string (⟨#[126]⟩ ++ bs (digs id))) W := fun W => run_string_add_sum (P := Tryd.prog) W _ _ (by rw [bs_size]; have := digs_len id; show 1 + _ ≤ _; omega)
              have hk0 : (0 : Int) ≤ (k : Int) := by omega
              have hks : (k : Int) ≤ (s.size : Int) := by omega
              have hd1 : decide (1 ≤ (k : Int)) = true := by simp; omega
              have hd8 : decide ((k : Int) ≤ 8) = true := by simp; omega
              go_wp2
              go_region_held3 (fun _ => True) (trivial) ((go_at_call 93; refine (unhide HD _).mono ?_; rintro e w1 ⟨rfl, hb1⟩))
              go_wp2
              go_ret
              exact ⟨ret_bool (by rw [tail_eq, unhide HF]), (Below.refl w.heap.size w).drew.trans hb1⟩
            · have HF : Hid (isName (sl s) id = false) := by apply hide; rw [unhide HN]; simp [hk8]
              have hd8 : decide ((k : Int) ≤ 8) = false := by simp; omega
              have hd1 : decide (1 ≤ (k : Int)) = true := by simp; omega
              go_wp2
              go_quiet (fail)
              go_wp2
              go_ret
              exact ⟨ret_bool (unhide HF).symm, below_drewN (Below.refl _ _) _⟩
          · have HF : Hid (isName (sl s) id = false) := by apply hide; rw [unhide HN]; simp [hk1]
            have hd1 : decide (1 ≤ (k : Int)) = false := by simp; omega
            go_wp2
            go_quiet (fail)
            go_wp2
            go_ret
            exact ⟨ret_bool (unhide HF).symm, below_drewN (Below.refl _ _) _⟩
        · have HF : Hid (isName (sl s) id = false) := by
            apply hide; rw [unhide HN]
            have e1 : (k == s.size) = false := by rw [beq_eq_false_iff_ne]; omega
            have e2 : ((sl s).drop k == 126 :: digs id) = false := by rw [drop_cons s k hlt, beq_eq_false_iff_ne]; intro h; injection h with h _; exact ht h
            rw [e1, e2]; simp
          have ht' : ((s[k].toNat : Int) != 126) = true := by
            rw [bne_iff_ne]; intro h; exact ht (UInt8.toNat_inj.1 (by simpa using (by omega : (s[k]).toNat = 126)))
          have hcc : (s[k].toNat < 48 ∧ ((s[k].toNat : Int) != 46) = true) ∨ (57 < s[k].toNat ∧ s[k].toNat < 97 ∧ ((s[k].toNat : Int) != 46) = true) ∨ (122 < s[k].toNat ∧ ((s[k].toNat : Int) != 46) = true) := by
            have hq : plainB s[k] = false := by
              cases hq : plainB s[k]
              · rfl
              · exact absurd ⟨hlt, hq⟩ hgo
            simp [plainB] at hq
            have : ((s[k].toNat : Int) != 46) = true := by rw [bne_iff_ne]; omega
            simp only [this, and_true]
            omega
          clear ht hgo
          rcases hcc with ⟨c1, c2⟩ | ⟨c1, c2, c3⟩ | ⟨c1, c2⟩
          all_goals
            go_wp2
            go_ret
            exact ⟨ret_bool (unhide HF).symm, Below.refl _ _⟩
      · have hke : k = s.size := by omega
        clear hgo
        have hke' : ((k : Int) == (s.size : Int)) = true := by rw [beq_iff_eq]; omega
        by_cases hk1 : 1 ≤ k
        · by_cases hk8 : k ≤ 8
          · have HF : Hid (isName (sl s) id = true) := by apply hide; rw [unhide HN]; simp [hk1, hk8, hke.symm]
            have hd1 : decide (1 ≤ (k : Int)) = true := by simp; omega
            have hd8 : decide ((k : Int) ≤ 8) = true := by simp; omega
            clear hke
            go_wp2
            go_quiet (fail)
            go_wp2
            go_ret
            exact ⟨ret_bool (unhide HF).symm, below_drewN (Below.refl _ _) _⟩
          · have HF : Hid (isName (sl s) id = false) := by apply hide; rw [unhide HN]; simp [hk8]
            have hd8 : decide ((k : Int) ≤ 8) = false := by simp; omega
            have hd1 : decide (1 ≤ (k : Int)) = true := by simp; omega
            clear hke
            go_wp2
            go_quiet (fail)
            go_wp2
            go_ret
            exact ⟨ret_bool (unhide HF).symm, below_drewN (Below.refl _ _) _⟩
        · have HF : Hid (isName (sl s) id = false) := by apply hide; rw [unhide HN]; simp [hk1]
          have hd1 : decide (1 ≤ (k : Int)) = false := by simp; omega
          clear hke
          go_wp2
          go_quiet (fail)
          go_wp2
          go_ret
          exact ⟨ret_bool (unhide HF).symm, below_drewN (Below.refl _ _) _⟩
end Go.Proofs.YtdcjimlhaklhfaaDoor

namespace Go.Proofs.YtdcjimlhaklhfaaDoor
open Go.RowKit
attribute [local go_sem ↓] Go.wp_at_zero Go.wp_at_succ
set_option maxHeartbeats 1000000 in
theorem rcut_any (s : ByteArray) (w : World) (hs : s.size ≤ 4000) :
    Calls Tryd.prog 27 #[.string s] w fun e w' => ∃ ao cap, e = .returned (.slice ao (cut (sl s)).length cap) ∧ Row w' ao (cut (sl s)).length 1 ((cut (sl s)).map strV) ∧ Below w.heap.size w w' := by
  obtain ⟨i0, hi, hz0, hz1, hz2⟩ := info_parts Tryd.infoStr
  have hsz : (0 : Int) ≤ s.size := by omega
  go_enter Tryd.func27, Tryd.ntmps27
  go_wp2
  go_loopw [3, 4, 5] (fun v st i wr => ∃ k t n : Nat, ∃ xs : List Value, k ≤ s.size ∧ t ≤ k ∧ n ≤ k ∧ i = .int .i64 k ∧ st = .int .i64 t ∧ wr.ownsRow w.heap.size 9 1 v n xs ∧ Below w.heap.size w wr ∧ Hid (CutInv s k t n xs)) (fun _ _ i _ => s.size - (intOf i).toNat)
  case atStart => exact ⟨0, 0, 0, [], Nat.zero_le _, Nat.le_refl _, Nat.le_refl _, rfl, rfl, World.ownsRow_nil _ _ _ _, Below.refl _ _, hide ⟨by simp [cutTo], by simp [cutTo], by simp [cutTo]⟩⟩
  case round =>
    obtain ⟨k, t, n, xs, hk, ht, hn, rfl, rfl, hown, hbel, HI⟩ := hrel
    by_cases hlt : k < s.size
    · by_cases hc : s[k] = 59
      · have HN := hide (cutInv_hit (unhide HI) hlt hc)
        go_wp2_with (first
          | (at_builtin; refine wpList_append_own _ rfl _ _ 27 rfl w.heap.size 9 i0 (.string ByteArray.empty) 1 16 Tryd.underlying27 hi hz0 hz1 hz2 rfl (by decide) _ _ _ rfl (hown.alloc _) ⟨wr.heap.size, 0, none⟩ 1 1 [.string (s.extract t (k + 1))] rfl rfl (news_one _ _) (by simp [Value.oneCell']) (by unfold maxLen; omega) (by omega) (by have := hbel.size; simp; omega) ?_)
          | go_in)
        intro v' w1 hown' hgrow _
        have hb1 := below_app hbel (by have := hbel.size; omega) hown hgrow
        clear hgrow hown hbel
        go_wp2
        go_roundw
        case rel => exact ⟨k + 1, k + 1, n + 1, _, by omega, by omega, by omega, by go_num, by go_num, hown', hb1, HN⟩
        case measure => simp [intOf]; omega
      · have HN := hide (cutInv_miss (unhide HI) hlt hc)
        have hc' : (((s[k]).toNat : Int) == 59) = false := by
          rw [beq_eq_false_iff_ne]; intro h; exact hc (UInt8.toNat_inj.1 (by simpa using (by omega : (s[k]).toNat = 59)))
        have HC := hide hc; clear hc
        go_wp2
        go_roundw
        case rel => exact ⟨k + 1, t, n, _, by omega, by omega, by omega, by go_num, rfl, hown, hbel, HN⟩
        case measure => simp [intOf]; omega
    · have hks : k = s.size := by omega
      subst hks
      by_cases hts : t < s.size
      · have HN := hide (cutInv_last (unhide HI) hts)
        go_wp2_with (first
          | (at_builtin; refine wpList_append_own _ rfl _ _ 27 rfl w.heap.size 9 i0 (.string ByteArray.empty) 1 16 Tryd.underlying27 hi hz0 hz1 hz2 rfl (by decide) _ _ _ rfl (hown.alloc _) ⟨wr.heap.size, 0, none⟩ 1 1 [.string (s.extract t s.size)] rfl rfl (news_one _ _) (by simp [Value.oneCell']) (by unfold maxLen; omega) (by omega) (by have := hbel.size; simp; omega) ?_)
          | go_in)
        intro v' w1 hown' hgrow _
        have hb1 := below_app hbel (by have := hbel.size; omega) hown hgrow
        clear hgrow hown hbel
        go_wp2
        go_ret
        obtain ⟨e1, e2⟩ := unhide HN
        obtain ⟨ao, cap, rfl, hr⟩ := row_of_owns hown'
        rw [e1, e2] at hr
        exact ⟨ao, cap, by rw [← e1]; rfl, hr, hb1⟩
      · have HN := hide (cutInv_end (unhide HI) hts)
        go_wp2
        go_ret
        obtain ⟨e1, e2⟩ := unhide HN
        obtain ⟨ao, cap, rfl, hr⟩ := row_of_owns hown
        rw [e1, e2] at hr
        exact ⟨ao, cap, by rw [← e1]; rfl, hr, hbel⟩

def rparts (l : Str) : List Str := if bodyB l then parts (bodyS l) else []
theorem rparts_no {l : Str} (h : bodyB l = false) : rparts l = [] := by unfold rparts; rw [h]; rfl
theorem rparts_yes {l : Str} (h : bodyB l = true) : rparts l = parts l.dropLast := by unfold rparts bodyS; rw [h]; rfl
theorem rpart_last {s : ByteArray} {st n : Nat} {xs : List Value} (h0 : 0 < s.size) (h : PartInv s (s.size - 1) st n xs) (hb : bodyB (sl s) = true) : n + 1 = (rparts (sl s)).length ∧ xs ++ [.string (s.extract st (s.size - 1))] = (rparts (sl s)).map strV := by
  obtain ⟨h1, h2, h3⟩ := h
  have hcur := part_cur s (s.size - 1) st (by omega) h3
  have e1 : s.extract st (s.size - 1) = bs (partTo ((sl s).take (s.size - 1))).2 := by rw [bs_extract, hcur]
  have ed : (sl s).dropLast = (sl s).take (s.size - 1) := by rw [List.dropLast_eq_take, sl_length]
  rw [rparts_yes hb, ed]
  unfold parts; rw [e1, h1, h2]; exact ⟨by simp, by simp [strV]⟩
set_option maxHeartbeats 2000000 in
theorem rparts_any (s : ByteArray) (w : World) (hs : s.size ≤ 4000) :
    Calls Tryd.prog 66 #[.string s] w fun e w' => ∃ ao cap, e = .returned (.slice ao (rparts (sl s)).length cap) ∧ Row w' ao (rparts (sl s)).length 1 ((rparts (sl s)).map strV) ∧ Below w.heap.size w w' := by
  obtain ⟨i0, hi, hz0, hz1, hz2⟩ := info_parts Tryd.infoStr
  have hsz : (0 : Int) ≤ s.size := by omega
  by_cases h0 : 0 < s.size
  · have HB := hide (bodyB_at s h0)
    by_cases hc : s[s.size - 1] = 59
    · have HBT : Hid (bodyB (sl s) = true) := by apply hide; rw [unhide HB, hc]; rfl
      have h0' : ((s.size : Int) == 0) = false := by rw [beq_eq_false_iff_ne]; omega
      go_enter Tryd.func66, Tryd.ntmps66
      go_wp2
      go_loopw [4, 5, 6] (fun v st i wr => (∃ k t n : Nat, ∃ xs : List Value, k < s.size ∧ t ≤ k ∧ n ≤ k ∧ i = .int .i64 k ∧ st = .int .i64 t ∧ wr.ownsRow w.heap.size 9 1 v n xs ∧ Below w.heap.size w wr ∧ Hid (PartInv s k t n xs)) ∨ (i = .int .i64 s.size ∧ ∃ t : Int, st = .int .i64 t ∧ wr.ownsRow w.heap.size 9 1 v (rparts (sl s)).length ((rparts (sl s)).map strV) ∧ Below w.heap.size w wr)) (fun _ _ i _ => s.size - (intOf i).toNat)
      case atStart => exact .inl ⟨0, 0, 0, [], h0, Nat.le_refl _, Nat.le_refl _, rfl, rfl, World.ownsRow_nil _ _ _ _, Below.refl _ _, hide ⟨by simp [partTo], by simp [partTo], by simp [partTo]⟩⟩
      case round =>
        rcases hrel with ⟨k, t, n, xs, hk, ht, hn, rfl, rfl, hown, hbel, HI⟩ | ⟨rfl, t, rfl, hown, hbel⟩
        · by_cases hl : k = s.size - 1
          · have HL : Hid (n + 1 = (rparts (sl s)).length ∧ xs ++ [.string (s.extract t k)] = (rparts (sl s)).map strV) := by
              apply hide; rw [hl]; rw [hl] at HI; exact rpart_last h0 (unhide HI) (unhide HBT)
            have h59 : s[k].toNat = 59 := by
              have : s[k] = s[s.size - 1] := by congr 1
              rw [this, hc]; rfl
            have e32 : ((s[k].toNat : Int) == 32) = false := by rw [beq_eq_false_iff_ne]; omega
            have elast : ((k : Int) == (s.size : Int) - 1) = true := by rw [beq_iff_eq]; omega
            have hk1 : k + 1 = s.size := by omega
            have HK1 := hide hk1
            clear hl h59 hc hk1
            go_wp2_with (first
              | (at_builtin; refine wpList_append_own _ rfl _ _ 27 rfl w.heap.size 9 i0 (.string ByteArray.empty) 1 16 Tryd.underlying27 hi hz0 hz1 hz2 rfl (by decide) _ _ _ rfl (hown.alloc _) ⟨wr.heap.size, 0, none⟩ 1 1 [.string (s.extract t k)] rfl rfl (news_one _ _) (by simp [Value.oneCell']) (by unfold maxLen; omega) (by omega) (by have := hbel.size; simp; omega) ?_)
              | go_in)
            intro v' w1 hown' hgrow _
            have hb1 := below_app hbel (by have := hbel.size; omega) hown hgrow
            rw [(unhide HL).1, (unhide HL).2] at hown'
            clear hgrow hown hbel
            go_wp2
            go_roundw
            case rel => exact .inr ⟨by have := unhide HK1; go_num, (k : Int) + 1, rfl, hown', hb1⟩
            case measure => have := unhide HK1; simp [intOf]; omega
          · by_cases hc2 : s[k] = 32
            · have HN := hide (partInv_hit (unhide HI) hk hc2)
              have e32 : ((s[k].toNat : Int) == 32) = true := by rw [hc2]; rfl
              have HC2 := hide hc2
              clear hc2
              go_wp2_with (first
                | (at_builtin; refine wpList_append_own _ rfl _ _ 27 rfl w.heap.size 9 i0 (.string ByteArray.empty) 1 16 Tryd.underlying27 hi hz0 hz1 hz2 rfl (by decide) _ _ _ rfl (hown.alloc _) ⟨wr.heap.size, 0, none⟩ 1 1 [.string (s.extract t k)] rfl rfl (news_one _ _) (by simp [Value.oneCell']) (by unfold maxLen; omega) (by omega) (by have := hbel.size; simp; omega) ?_)
                | go_in)
              intro v' w1 hown' hgrow _
              have hb1 := below_app hbel (by have := hbel.size; omega) hown hgrow
              clear hgrow hown hbel
              go_wp2
              go_roundw
              case rel => exact .inl ⟨k + 1, k + 1, n + 1, _, by omega, by omega, by omega, by go_num, by go_num, hown', hb1, HN⟩
              case measure => simp [intOf]; omega
            · have HN := hide (partInv_miss (unhide HI) hk hc2)
              have e32 : ((s[k].toNat : Int) == 32) = false := by
                rw [beq_eq_false_iff_ne]; intro h; exact hc2 (UInt8.toNat_inj.1 (by simpa using (by omega : (s[k]).toNat = 32)))
              have elast : ((k : Int) == (s.size : Int) - 1) = false := by rw [beq_eq_false_iff_ne]; omega
              have HC := hide hc2; clear hc2
              go_wp2
              go_roundw
              case rel => exact .inl ⟨k + 1, t, n, _, by omega, by omega, by omega, by go_num, rfl, hown, hbel, HN⟩
              case measure => simp [intOf]; omega
        · go_wp2
          go_ret
          obtain ⟨ao, cap, rfl, hr⟩ := row_of_owns hown
          exact ⟨ao, cap, rfl, hr, hbel⟩
    · have HBF : Hid (bodyB (sl s) = false) := by apply hide; rw [unhide HB]; exact beq_eq_false_iff_ne.2 hc
      have hc' : (((s[s.size - 1]).toNat : Int) != 59) = true := by
        rw [bne_iff_ne]; intro h; exact hc (UInt8.toNat_inj.1 (by simpa using (by omega : (s[s.size - 1]).toNat = 59)))
      have h0' : ((s.size : Int) == 0) = false := by rw [beq_eq_false_iff_ne]; omega
      clear hc hz0 hz1 hz2 hi
      go_enter Tryd.func66, Tryd.ntmps66
      go_wp2
      go_ret
      rw [rparts_no (unhide HBF)]
      exact ⟨none, 0, rfl, ⟨rfl, fun h => by simp at h⟩, Below.refl _ _⟩
  · have HBF := hide (bodyB_nil s (by omega))
    have h0' : ((s.size : Int) == 0) = true := by rw [beq_iff_eq]; omega
    go_enter Tryd.func66, Tryd.ntmps66
    go_wp2
    go_ret
    rw [rparts_no (unhide HBF)]
    exact ⟨none, 0, rfl, ⟨rfl, fun h => by simp at h⟩, Below.refl _ _⟩
end Go.Proofs.YtdcjimlhaklhfaaDoor

namespace Go.Proofs.YtdcjimlhaklhfaaDoor
open Go.RowKit
attribute [local go_sem ↓] Go.wp_at_zero Go.wp_at_succ
def node3 (ps : List Str) : Option Nd :=
  match ps with
  | [a, b, c] => if (number a 1 99).2 && (number b 0 99).2 && isName c (number a 1 99).1 then some ⟨(number a 1 99).1, (number b 0 99).1, c⟩ else none
  | _ => none
theorem readNode_node3 (l : Str) : readNode l = node3 (parts l) := rfl
theorem recNode_node3 (r : Str) : recNode r = node3 (rparts r) := by
  unfold recNode rparts; split
  · rfl
  · rfl
theorem numR_neg {l : Str} {lo hi : Int} (h : (number l lo hi).2 = false) : numR l lo hi = -1 := by unfold numR; rw [h]; rfl
theorem numR_yes {l : Str} {lo hi : Int} (h : (number l lo hi).2 = true) : numR l lo hi = (number l lo hi).1 := by unfold numR; rw [h]; rfl
theorem Tryd.infoRNode : (Tryd.prog.info? 110).map (fun i => (i.zero, i.size, i.bytes)) = some (some (.agg #[.int .i64 0, .int .i64 0, .string ByteArray.empty]), 3, 32) := by kernel_rfl
theorem set3 {W : World} {B : Nat} (x y z : Value) (h0 : (W.cell? ⟨B, 0, none⟩).isSome = true) (h1 : (W.cell? ⟨B, 1, none⟩).isSome = true) (h2 : (W.cell? ⟨B, 2, none⟩).isSome = true) :
    (((W.setCell ⟨B, 0, none⟩ x).setCell ⟨B, 1, none⟩ y).setCell ⟨B, 2, none⟩ z).cell? ⟨B, 0, none⟩ = some x ∧ (((W.setCell ⟨B, 0, none⟩ x).setCell ⟨B, 1, none⟩ y).setCell ⟨B, 2, none⟩ z).cell? ⟨B, 1, none⟩ = some y ∧ (((W.setCell ⟨B, 0, none⟩ x).setCell ⟨B, 1, none⟩ y).setCell ⟨B, 2, none⟩ z).cell? ⟨B, 2, none⟩ = some z := by
  obtain ⟨u0, e0⟩ := Option.isSome_iff_exists.1 h0
  obtain ⟨u1, e1⟩ := Option.isSome_iff_exists.1 h1
  obtain ⟨u2, e2⟩ := Option.isSome_iff_exists.1 h2
  refine ⟨?_, ?_, ?_⟩ <;> simp [go_sem, e0, e1, e2]
theorem lt_kept {W w1 : World} (hb : Below W.heap.size W w1) : ∀ b, b < W.heap.size → b < w1.heap.size := fun _ h => Nat.lt_of_lt_of_le h hb.size
theorem ns_call {W0 : World} {g : Nat} {a b c : Str} (hg : g < W0.heap.size) {W w1 : World} (hb : Below W.heap.size W w1) (h : W.cell? ⟨g, 0, none⟩ = some (.string (bs a)) ∧ W.cell? ⟨g, 1, none⟩ = some (.string (bs b)) ∧ W.cell? ⟨g, 2, none⟩ = some (.string (bs c)) ∧ Below W0.heap.size W0 W) :
    w1.cell? ⟨g, 0, none⟩ = some (.string (bs a)) ∧ w1.cell? ⟨g, 1, none⟩ = some (.string (bs b)) ∧ w1.cell? ⟨g, 2, none⟩ = some (.string (bs c)) ∧ Below W0.heap.size W0 w1 := by
  have hlt : g < W.heap.size := by have := h.2.2.2.size; omega
  exact ⟨by rw [hb.cell (p := ⟨g, 0, none⟩) hlt]; exact h.1, by rw [hb.cell (p := ⟨g, 1, none⟩) hlt]; exact h.2.1, by rw [hb.cell (p := ⟨g, 2, none⟩) hlt]; exact h.2.2.1, h.2.2.2.trans (hb.mono h.2.2.2.size)⟩
theorem ns_alloc {W0 : World} {g : Nat} {a b c : Str} (hg : g < W0.heap.size) {W : World} (h : W.cell? ⟨g, 0, none⟩ = some (.string (bs a)) ∧ W.cell? ⟨g, 1, none⟩ = some (.string (bs b)) ∧ W.cell? ⟨g, 2, none⟩ = some (.string (bs c)) ∧ Below W0.heap.size W0 W) (o : Obj) :
    (W.alloc o).cell? ⟨g, 0, none⟩ = some (.string (bs a)) ∧ (W.alloc o).cell? ⟨g, 1, none⟩ = some (.string (bs b)) ∧ (W.alloc o).cell? ⟨g, 2, none⟩ = some (.string (bs c)) ∧ Below W0.heap.size W0 (W.alloc o) :=
  ns_call hg ((Below.refl _ _).alloc (Nat.le_refl _) o) h
theorem ns_set {W0 : World} {g : Nat} {a b c : Str} (hg : g < W0.heap.size) {W : World} {blk : Nat} (hB : W0.heap.size ≤ blk) (h : W.cell? ⟨g, 0, none⟩ = some (.string (bs a)) ∧ W.cell? ⟨g, 1, none⟩ = some (.string (bs b)) ∧ W.cell? ⟨g, 2, none⟩ = some (.string (bs c)) ∧ Below W0.heap.size W0 W) (o : Nat) (v : Value) :
    (W.setCell ⟨blk, o, none⟩ v).cell? ⟨g, 0, none⟩ = some (.string (bs a)) ∧ (W.setCell ⟨blk, o, none⟩ v).cell? ⟨g, 1, none⟩ = some (.string (bs b)) ∧ (W.setCell ⟨blk, o, none⟩ v).cell? ⟨g, 2, none⟩ = some (.string (bs c)) ∧ Below W0.heap.size W0 (W.setCell ⟨blk, o, none⟩ v) := by
  have hk : ∀ j, (W.setCell ⟨blk, o, none⟩ v).cell? ⟨g, j, none⟩ = W.cell? ⟨g, j, none⟩ := fun j => World.cell?_of_block (heap_setCell_other W ⟨blk, o, none⟩ g v (show g ≠ blk by omega))
  exact ⟨by rw [hk]; exact h.1, by rw [hk]; exact h.2.1, by rw [hk]; exact h.2.2.1, h.2.2.2.setCell hB v⟩
set_option maxHeartbeats 2000000 in
theorem rnode_yes (a b c : Str) (g cap : Nat) (w : World) (hla : (bs a).size ≤ 4000) (hlb : (bs b).size ≤ 4000) (hlc : (bs c).size ≤ 4000) (hg : g < w.heap.size)
    (c0 : w.cell? ⟨g, 0, none⟩ = some (.string (bs a))) (c1 : w.cell? ⟨g, 1, none⟩ = some (.string (bs b))) (c2 : w.cell? ⟨g, 2, none⟩ = some (.string (bs c))) :
    Calls Tryd.prog 67 #[.slice (some ⟨g, 0, none⟩) 3 cap] w fun e w' => (∃ x y z, e = .returned (.tuple #[.agg #[.int .i64 x, .int .i64 y, .string z], .bool (node3 [a, b, c]).isSome]) ∧ (∀ n, node3 [a, b, c] = some n → x = n.id ∧ y = n.parent ∧ z = bs n.name)) ∧ Below w.heap.size w w' := by
  have HN3 : Hid (node3 [a, b, c] = if (number a 1 99).2 && (number b 0 99).2 && isName c (number a 1 99).1 then some ⟨(number a 1 99).1, (number b 0 99).1, c⟩ else none) := hide rfl
  generalize node3 [a, b, c] = R at *
  obtain ⟨W0, hW0⟩ : ∃ W0, w.alloc (Obj.cells #[Value.int IntKind.i64 0, Value.int IntKind.i64 0, Value.string ⟨#[]⟩] 110) = W0 := ⟨_, rfl⟩
  have HW0 := hide hW0
  have hgW : g < W0.heap.size := by rw [← hW0]; simp; omega
  have d0 : W0.cell? ⟨g, 0, none⟩ = some (.string (bs a)) := by rw [← hW0, ((Below.refl w.heap.size w).alloc (Nat.le_refl _) _).cell (p := ⟨g, 0, none⟩) hg]; exact c0
  have d1 : W0.cell? ⟨g, 1, none⟩ = some (.string (bs b)) := by rw [← hW0, ((Below.refl w.heap.size w).alloc (Nat.le_refl _) _).cell (p := ⟨g, 1, none⟩) hg]; exact c1
  have d2 : W0.cell? ⟨g, 2, none⟩ = some (.string (bs c)) := by rw [← hW0, ((Below.refl w.heap.size w).alloc (Nat.le_refl _) _).cell (p := ⟨g, 2, none⟩) hg]; exact c2
  have dB : Below W0.heap.size W0 W0 := Below.refl _ _
  have HD := hide (show W0.drew.cell? ⟨g, 0, none⟩ = some (.string (bs a)) ∧ W0.drew.cell? ⟨g, 1, none⟩ = some (.string (bs b)) ∧ W0.drew.cell? ⟨g, 2, none⟩ = some (.string (bs c)) ∧ Below W0.heap.size W0 W0.drew from ⟨d0, d1, d2, dB.drew⟩)
  clear d0 d1 d2 dB c0 c1 c2
  go_enter Tryd.func67, Tryd.ntmps67
  go_wp2
  try rw [hW0]
  clear hW0
  go_cut [4] from 6 (fun p wx => ∃ B : Nat, p = .pointer (some ⟨B, 0, none⟩) ∧ W0.heap.size ≤ B ∧ B < wx.heap.size ∧ wx.cell? ⟨B, 0, none⟩ = some (.int .i64 (numR a 1 99)) ∧ wx.cell? ⟨B, 1, none⟩ = some (.int .i64 (numR b 0 99)) ∧ wx.cell? ⟨B, 2, none⟩ = some (.string (bs c)) ∧ Below W0.heap.size W0 wx)
  case first =>
    go_region_held3 (fun w' => w'.cell? ⟨g, 0, none⟩ = some (.string (bs a)) ∧ w'.cell? ⟨g, 1, none⟩ = some (.string (bs b)) ∧ w'.cell? ⟨g, 2, none⟩ = some (.string (bs c)) ∧ Below W0.heap.size W0 w') (first | exact unhide HD | assumption | exact ns_alloc hgW (by assumption) _ | exact ns_set hgW (by omega) (ns_set hgW (by omega) (ns_set hgW (by omega) (by assumption) _ _) _ _) _ _) ((go_at_call 85; refine (rnumber_any _ _ _ _ (by first | exact hla | exact hlb) (by omega) (by omega)).mono ?_; rintro e w1 ⟨rfl, hb1⟩; have hs1 := ns_call hgW hb1 (by first | assumption | exact unhide HD); have hzz := hs1.2.2.2.size; obtain ⟨hc1, hf1⟩ := bcell hb1; have hz1 := hb1.size; (try simp at hz1); have hzs := lt_kept hb1))
    all_goals go_wp2_with fail
    all_goals go_meet
    all_goals refine ⟨_, rfl, ?_, ?_, ?_, ?_, ?_, ?_⟩
    all_goals first
      | omega
      | (exact hs1.2.2.2.alloc hzz _)
      | (exact ((hs1.2.2.2.setCell (by first | omega | simp) _).setCell (by first | omega | simp) _).setCell (by first | omega | simp) _)
      | (simp [sl_bs]; done)
      | (simp; omega)
      | (rw [(set3 _ _ _ (by simp [*]) (by simp [*]) (by simp [*])).1, sl_bs])
      | (rw [(set3 _ _ _ (by simp [*]) (by simp [*]) (by simp [*])).2.1, sl_bs])
      | (rw [(set3 _ _ _ (by simp [*]) (by simp [*]) (by simp [*])).2.2])
      | skip
  case rest =>
    obtain ⟨B, hp, hB, hBlt, e0, e1, e2, hbel⟩ := hcut
    subst hp
    have hNlt : w.heap.size < W0.heap.size := by rw [← unhide HW0]; simp
    obtain ⟨hc, hf⟩ := bcell hbel
    have s0 : wc.cell? ⟨w.heap.size, 0, none⟩ = some (.int .i64 0) := by rw [hc _ _ hNlt, ← unhide HW0]; exact news_three (.int .i64 0) (.int .i64 0) (.string ⟨#[]⟩) 110 0 _ rfl
    have s1 : wc.cell? ⟨w.heap.size, 1, none⟩ = some (.int .i64 0) := by rw [hc _ _ hNlt, ← unhide HW0]; exact news_three (.int .i64 0) (.int .i64 0) (.string ⟨#[]⟩) 110 1 _ rfl
    have s2 : wc.cell? ⟨w.heap.size, 2, none⟩ = some (.string ⟨#[]⟩) := by rw [hc _ _ hNlt, ← unhide HW0]; exact news_three (.int .i64 0) (.int .i64 0) (.string ⟨#[]⟩) 110 2 _ rfl
    have sf : ∀ j, wc.frozen? ⟨w.heap.size, j, none⟩ = false := by intro j; rw [hf _ _ hNlt, ← unhide HW0]; exact frozen_of_row _ _ _ _ _ (heap_alloc_new w _)
    have HBW : Hid (Below w.heap.size w wc) := hide (Below.trans (by rw [← unhide HW0]; exact (Below.refl _ _).alloc (Nat.le_refl _) _) (hbel.mono (Nat.le_of_lt hNlt)))
    have hNwc : w.heap.size < wc.heap.size := by have := hbel.size; omega
    have hNB : ¬ w.heap.size = B := by omega
    have na := number_bd a 1 99 (by omega)
    have nb := number_bd b 0 99 (by omega)
    clear hc hf hbel HD hgW HW0 hNlt
    cases hqa : (number a 1 99).2
    · have HNN : Hid (R = none) := by apply hide; rw [unhide HN3, hqa]; simp
      rw [numR_neg hqa] at e0
      clear hqa
      go_wp2
      refine bodyPost_ret (v := .tuple #[.agg #[.int .i64 0, .int .i64 0, .string ByteArray.empty], .bool false]) (by simp [results, Tryd.results67, go_sem, s0, s1, s2]; rfl) rfl ⟨⟨0, 0, ByteArray.empty, by rw [unhide HNN]; rfl, fun n hn => by rw [unhide HNN] at hn; cases hn⟩, ?_⟩
      exact (((unhide HBW).setCell (Nat.le_refl _) _).setCell (Nat.le_refl _) _).setCell (Nat.le_refl _) _
    · cases hqb : (number b 0 99).2
      · have HNN : Hid (R = none) := by apply hide; rw [unhide HN3, hqb]; simp
        rw [numR_neg hqb] at e1
        rw [numR_yes hqa] at e0
        clear hqa hqb
        go_wp2
        refine bodyPost_ret (v := .tuple #[.agg #[.int .i64 0, .int .i64 0, .string ByteArray.empty], .bool false]) (by simp [results, Tryd.results67, go_sem, s0, s1, s2]; rfl) rfl ⟨⟨0, 0, ByteArray.empty, by rw [unhide HNN]; rfl, fun n hn => by rw [unhide HNN] at hn; cases hn⟩, ?_⟩
        exact (((unhide HBW).setCell (Nat.le_refl _) _).setCell (Nat.le_refl _) _).setCell (Nat.le_refl _) _
      · have HR : Hid (R = if isName c (number a 1 99).1 then some ⟨(number a 1 99).1, (number b 0 99).1, c⟩ else none) := by apply hide; rw [unhide HN3, hqa, hqb]; simp
        rw [numR_yes hqb] at e1
        rw [numR_yes hqa] at e0
        have HNM := hide (fun W => named_any (bs c) (number a 1 99).1 W hlc na.1 na.2)
        rw [sl_bs] at HNM
        clear hqa hqb HN3
        generalize (number a 1 99).1 = x at *
        generalize (number b 0 99).1 = y at *
        generalize isName c x = q at *
        obtain ⟨na0, na1⟩ := na
        obtain ⟨nb0, nb1⟩ := nb
        go_wp2_with fail
        refine (unhide HNM _).mono ?_
        rintro e w2 ⟨rfl, hb2⟩
        obtain ⟨hc2, hf2⟩ := bcell hb2
        have f0 : w2.cell? ⟨B, 0, none⟩ = some (.int .i64 x) := (hc2 _ _ hBlt).trans e0
        have f1 : w2.cell? ⟨B, 1, none⟩ = some (.int .i64 y) := (hc2 _ _ hBlt).trans e1
        have f2 : w2.cell? ⟨B, 2, none⟩ = some (.string (bs c)) := (hc2 _ _ hBlt).trans e2
        have g0 := (hc2 _ 0 hNwc).trans s0
        have g1 := (hc2 _ 1 hNwc).trans s1
        have g2 := (hc2 _ 2 hNwc).trans s2
        have gf : ∀ j, w2.frozen? ⟨w.heap.size, j, none⟩ = false := fun j => (hf2 _ j hNwc).trans (sf j)
        have HB2 := hide ((unhide HBW).trans (hb2.mono (Nat.le_of_lt hNwc)))
        clear hc2 hf2 e0 e1 e2 s0 s1 s2 sf hb2
        go_wp2
        refine bodyPost_ret (v := .tuple #[.agg #[.int .i64 x, .int .i64 y, .string (bs c)], .bool q]) (by simp [results, Tryd.results67, go_sem, g0, g1, g2]) rfl ⟨⟨x, y, bs c, ?_, ?_⟩, ?_⟩
        · rw [unhide HR]; cases q <;> rfl
        · intro n hn
          rw [unhide HR] at hn
          split at hn
          · cases hn; exact ⟨rfl, rfl, rfl⟩
          · cases hn
        · exact (((unhide HB2).setCell (Nat.le_refl _) _).setCell (Nat.le_refl _) _).setCell (Nat.le_refl _) _
end Go.Proofs.YtdcjimlhaklhfaaDoor

namespace Go.Proofs.YtdcjimlhaklhfaaDoor
open Go.RowKit
theorem row_of_owns2 {w : World} {base : Nat} {e : TypeId} {size : Nat} {v : Value} {n : Nat} {xs : List Value} (h : w.ownsRow base e size v n xs) : ∃ ao cap, v = .slice ao n cap ∧ Row w ao n size xs ∧ n ≤ cap := by
  obtain ⟨ao, cap, hv, hr⟩ := row_of_owns h
  refine ⟨ao, cap, hv, hr, ?_⟩
  rcases h.2 with ⟨h1, h2⟩ | ⟨g, cap', cur, h1, _, _, h3, _⟩
  · omega
  · rw [hv] at h1; injection h1 with _ _ h4; omega
theorem node3_other {ps : List Str} (h : ps.length ≠ 3) : node3 ps = none := by
  unfold node3
  split
  · simp at h
  · rfl
set_option maxHeartbeats 1000000 in
theorem rnode_no (ao : Option Addr) (n cap : Nat) (w : World) (h3 : n ≠ 3) :
    Calls Tryd.prog 67 #[.slice ao n cap] w fun e w' => e = .returned (.tuple #[.agg #[.int .i64 0, .int .i64 0, .string ByteArray.empty], .bool false]) ∧ Below w.heap.size w w' := by
  have hne : ((n : Int) != 3) = true := by rw [bne_iff_ne]; omega
  go_enter Tryd.func67, Tryd.ntmps67
  go_wp2
  refine bodyPost_ret (v := .tuple #[.agg #[.int .i64 0, .int .i64 0, .string ByteArray.empty], .bool false]) (by simp [results, Tryd.results67, go_sem]; rfl) rfl ⟨rfl, ?_⟩
  exact (Below.refl _ _).alloc (Nat.le_refl _) _
theorem rnode_any (ps : List Str) (ao : Option Addr) (cap : Nat) (w : World) (hrow : Row w ao ps.length 1 (ps.map strV)) (hl : ∀ p ∈ ps, p.length ≤ 4000) :
    Calls Tryd.prog 67 #[.slice ao ps.length cap] w fun e w' => (∃ x y z, e = .returned (.tuple #[.agg #[.int .i64 x, .int .i64 y, .string z], .bool (node3 ps).isSome]) ∧ (∀ n, node3 ps = some n → x = n.id ∧ y = n.parent ∧ z = bs n.name)) ∧ Below w.heap.size w w' := by
  by_cases h3 : ps.length = 3
  · obtain ⟨a, b, c, rfl⟩ := len3 h3
    obtain ⟨g, rfl, hg, hc⟩ := hrow.2 (by simp)
    exact rnode_yes a b c g cap w (by rw [bs_size]; exact hl a (by simp)) (by rw [bs_size]; exact hl b (by simp)) (by rw [bs_size]; exact hl c (by simp)) hg (hc 0 _ rfl) (hc 1 _ rfl) (hc 2 _ rfl)
  · refine (rnode_no ao ps.length cap w h3).mono ?_
    rintro e w' ⟨rfl, hb⟩
    exact ⟨⟨0, 0, _, by rw [node3_other h3]; rfl, fun n hn => by rw [node3_other h3] at hn; cases hn⟩, hb⟩
theorem rparts_len (r : Str) (h : r.length ≤ 4000) : ∀ p ∈ rparts r, p.length ≤ 4000 := by
  intro p hp
  unfold rparts at hp
  split at hp
  · have := part_len _ p hp; have := bodyS_len r; omega
  · simp at hp
theorem rd_short {rs : List Str} {k : Nat} {ns : List Nd} (h : RdInv rs k ns) (hk : k < rs.length) (hn : recNode rs[k] = none) : (readNodes rs).length = k ∧ (readNodes rs).length < rs.length := by
  rw [rdInv_no h hk hn]; exact ⟨h.1, by rw [h.1]; exact hk⟩
theorem rd_full {rs : List Str} {k : Nat} {ns : List Nd} (h : RdInv rs k ns) (hk : ¬ k < rs.length) : ¬ (readNodes rs).length < rs.length ∧ readNodes rs = ns ∧ ns.length = k := by
  refine ⟨?_, rdInv_end h hk, h.1⟩
  rw [rdInv_end h hk, h.1]; exact hk
set_option maxHeartbeats 2000000 in
theorem nodes_any (s : ByteArray) (w : World) (hs : s.size ≤ 4000) :
    Calls Tryd.prog 46 #[.string s] w fun e w' => (((readNodes (cut (sl s))).length < (cut (sl s)).length ∧ e = .returned (.tuple #[.slice none 0 0, .int .i64 (readNodes (cut (sl s))).length])) ∨ (¬ (readNodes (cut (sl s))).length < (cut (sl s)).length ∧ ∃ ao cap, e = .returned (.tuple #[.slice ao (readNodes (cut (sl s))).length cap, .int .i64 (-1)]) ∧ Row w' ao (readNodes (cut (sl s))).length 3 (ndCells (readNodes (cut (sl s)))) ∧ (readNodes (cut (sl s))).length ≤ cap)) ∧ Below w.heap.size w w' := by
  obtain ⟨i0, hi, hz0, hz1, hz2⟩ := info_parts Tryd.infoRNode
  have HC := hide (fun W => rcut_any s W hs)
  have hrl : (cut (sl s)).length ≤ 4000 := by have := cut_length_le (sl s); rw [sl_length] at this; omega
  have HRM : Hid (∀ r ∈ cut (sl s), r.length ≤ 4000) := hide (fun r hr => by have := cut_mem_len (sl s) r hr; rw [sl_length] at this; omega)
  generalize cut (sl s) = rs at *
  go_enter Tryd.func46, Tryd.ntmps46
  go_wp2_with fail
  refine (unhide HC _).mono ?_
  rintro e w1 ⟨ao, cap, rfl, hrow, hb1⟩
  have HROW := hide hrow
  have HB1 := hide hb1
  clear hrow hb1
  go_wp2
  go_loopw [4, 6] (fun v i wr => ∃ k : Nat, ∃ ns : List Nd, k ≤ rs.length ∧ i = .int .i64 k ∧ wr.ownsRow w1.heap.size 110 3 v k (ndCells ns) ∧ Below w1.heap.size w1 wr ∧ Hid (RdInv rs k ns)) (fun _ i _ => rs.length - (intOf i).toNat)
  case atStart => exact ⟨0, [], Nat.zero_le _, rfl, World.ownsRow_nil _ _ _ _, Below.refl _ _, hide ⟨rfl, rfl⟩⟩
  case round =>
    obtain ⟨k, ns, hk, rfl, hown, hbel, HI⟩ := hrel
    by_cases hlt : k < rs.length
    · obtain ⟨g, hao, hg, hcell⟩ := str_cell (unhide HROW) hbel hlt
      rw [hao]
      have hrl2 : (rs[k]).length ≤ 4000 := unhide HRM _ (List.getElem_mem hlt)
      have HP := hide (fun W => rparts_any (bs rs[k]) W (by rw [bs_size]; exact hrl2))
      rw [sl_bs] at HP
      have HND := hide (fun ao cap W (hh : Row W ao (rparts rs[k]).length 1 ((rparts rs[k]).map strV)) => rnode_any (rparts rs[k]) ao cap W hh (rparts_len _ hrl2))
      have HREC := hide (recNode_node3 rs[k])
      have hsz := hbel.size
      clear hao
      generalize hr : rs[k] = r at *
      have HR := hide hr; clear hr
      generalize rparts r = ps at *
      go_wp2_with fail
      refine (unhide HP _).mono ?_
      rintro e w2 ⟨ao2, cap2, rfl, hrow2, hb2⟩
      have HROW2 := hide hrow2; clear hrow2
      go_wp2_with fail
      refine (unhide HND _ _ _ (unhide HROW2)).mono ?_
      rintro e w3 ⟨⟨x, y, z, rfl, hxyz⟩, hb3⟩
      have hb23 := hb2.trans (hb3.mono hb2.size)
      have HOWN := hide (own_below hown hb23)
      have HB3 := hide (hbel.trans (hb23.mono hsz))
      have hz3 : wr.heap.size ≤ w3.heap.size := hb23.size
      have HX := hide hxyz
      clear hxyz hb2 hb3 hb23 HP HND HROW2
      generalize node3 ps = R at *
      cases R with
      | none =>
        have HS := hide (rd_short (unhide HI) hlt (by rw [unhide HR, unhide HREC]))
        go_wp2
        go_ret2
        refine ⟨.inl ⟨(unhide HS).2, by rw [(unhide HS).1]; rfl⟩, ?_⟩
        exact (unhide HB1).trans (((unhide HB3).alloc (by omega) _).mono (unhide HB1).size)
      | some nd =>
        have HN := hide (rdInv_yes (unhide HI) hlt (n := nd) (by rw [unhide HR, unhide HREC]))
        obtain ⟨rfl, rfl, rfl⟩ := unhide HX nd rfl
        clear HX
        go_wp2_with (first
          | (at_builtin; (refine wpList_append_own _ rfl _ _ 89 rfl w1.heap.size 110 i0 (.agg #[.int .i64 0, .int .i64 0, .string ByteArray.empty]) 3 32 Tryd.underlying89 hi hz0 hz1 hz2 rfl (by decide) _ _ _ rfl (own_below (unhide HOWN) (((Below.refl _ _).alloc (Nat.le_refl _) _).alloc (by simp) _)) ⟨w3.heap.size + 1, 0, none⟩ 1 1 [.int .i64 nd.id, .int .i64 nd.parent, .string (bs nd.name)] rfl rfl (news_three' _ _ _ _ _) (by simp [Value.oneCell']) (by unfold maxLen; omega) (by omega) (by have := hbel.size; simp; omega) ?_))
          | go_in)
        intro v' w4 hown' hgrow _
        have hb4 : Below w1.heap.size w1 w4 := ((((unhide HB3).alloc (by omega) _).alloc (by simp; omega) _)).grown hgrow (by simp; omega) (own_ge hown)
        have hown2 : w4.ownsRow w1.heap.size 110 3 v' (k + 1) (ndCells (ns ++ [nd])) := by rw [ndCells_snoc]; exact hown'
        clear hgrow hown hbel hown'
        go_wp2
        go_roundw
        case rel => exact ⟨k + 1, _, by omega, by go_num, hown2, hb4, HN⟩
        case measure => simp [intOf]; omega
    · have HF := hide (rd_full (unhide HI) hlt)
      go_wp2
      go_ret2
      obtain ⟨f1, f2, f3⟩ := unhide HF
      obtain ⟨ao', cap', rfl, hr, hcap⟩ := row_of_owns2 hown
      rw [f2]
      rw [← f3] at hr
      refine ⟨.inr ⟨by rw [← f2]; exact f1, ao', cap', by rw [f3]; rfl, hr, by rw [f3]; exact hcap⟩, (unhide HB1).trans (hbel.mono (unhide HB1).size)⟩
end Go.Proofs.YtdcjimlhaklhfaaDoor

namespace Go.Proofs.YtdcjimlhaklhfaaDoor
open Go.RowKit
/-! The tree in memory. -/
def treeCells (t : Tr) : List Value := (List.range 100).map (fun i => .bool (t i).isSome) ++ ndCells ((List.range 100).map fun i => (t i).getD nd0)
theorem treeCells_length (t : Tr) : (treeCells t).length = 400 := by simp [treeCells, ndCells_length]
theorem treeCells_here (t : Tr) (i : Nat) (h : i < 100) : (treeCells t)[i]? = some (.bool (t i).isSome) := by
  unfold treeCells; rw [List.getElem?_append_left (by simpa using h)]; simp [h]
theorem treeCells_node (t : Tr) (i : Nat) (h : i < 100) : (treeCells t)[100 + i * 3]? = some (.int .i64 ((t i).getD nd0).id) ∧ (treeCells t)[100 + i * 3 + 1]? = some (.int .i64 ((t i).getD nd0).parent) ∧ (treeCells t)[100 + i * 3 + 2]? = some (.string (bs ((t i).getD nd0).name)) := by
  have := ndCells_get ((List.range 100).map fun i => (t i).getD nd0) i (by simpa using h)
  simp only [List.getElem_map, List.getElem_range] at this
  unfold treeCells
  refine ⟨?_, ?_, ?_⟩
  · rw [List.getElem?_append_right (by rw [List.length_map, List.length_range]; omega)]; simpa [Nat.add_sub_cancel_left] using this.1
  · rw [List.getElem?_append_right (by rw [List.length_map, List.length_range]; omega)]; simpa [Nat.add_assoc, Nat.add_sub_cancel_left] using this.2.1
  · rw [List.getElem?_append_right (by rw [List.length_map, List.length_range]; omega)]; simpa [Nat.add_assoc, Nat.add_sub_cancel_left] using this.2.2
/-- What lies behind the tree in its block, and the block's type. -/
structure Ext where
  rest : List Value
  ty : TypeId
def ext0 : Ext := ⟨[], 59⟩
def TreeAt (x : Ext) (w : World) (b : Nat) (t : Tr) : Prop := w.heap[b]? = some (.cells (treeCells t ++ x.rest).toArray x.ty (0, 0))
theorem TreeAt.cell {x : Ext} {w : World} {b : Nat} {t : Tr} (h : TreeAt x w b t) (j : Nat) (hj : j < 400 := by omega) : w.cell? ⟨b, j, none⟩ = (treeCells t)[j]? := by
  rw [cell_of_row w b j _ _ (0, 0) h]; simp only [List.getElem?_toArray]; rw [List.getElem?_append_left (by rw [treeCells_length]; exact hj)]
theorem TreeAt.here {x : Ext} {w : World} {b : Nat} {t : Tr} (h : TreeAt x w b t) (i : Nat) (hi : i < 100) : w.cell? ⟨b, i, none⟩ = some (.bool (t i).isSome) := by rw [h.cell i, treeCells_here t i hi]
theorem TreeAt.lt {x : Ext} {w : World} {b : Nat} {t : Tr} (h : TreeAt x w b t) : b < w.heap.size := lt_of_block h
theorem TreeAt.below {x : Ext} {w w' : World} {b : Nat} {t : Tr} (h : TreeAt x w b t) (hb : Below w.heap.size w w') : TreeAt x w' b t := by
  unfold TreeAt; rw [hb.block b h.lt]; exact h
theorem TreeAt.drewN {x : Ext} {w : World} {b : Nat} {t : Tr} (h : TreeAt x w b t) (n : Nat) : TreeAt x (w.drewN n) b t := h
set_option maxHeartbeats 400000 in
theorem has_nat {x : Ext} (t : Tr) (b m : Nat) (w : World) (ht : TrOk t) (hm : m ≤ 99) (hT : TreeAt x w b t) :
    Calls Tryd.prog 77 #[.pointer (some ⟨b, 0, none⟩), .int .i64 m] w fun e w' => e = .returned (.bool (t m).isSome) ∧ w' = w := by
  have hcell := hT.here m (by omega)
  have HT0 := hide ht.1
  clear hT ht
  by_cases h1 : 1 ≤ m
  · go_enter Tryd.func77, Tryd.ntmps77
    go_wp2
    go_ret
    exact ⟨rfl, rfl⟩
  · have hm0 : m = 0 := by omega
    subst hm0
    go_enter Tryd.func77, Tryd.ntmps77
    go_wp2
    go_ret
    exact ⟨by rw [unhide HT0]; rfl, rfl⟩
theorem has_any {x : Ext} (t : Tr) (b : Nat) (id : Int) (w : World) (ht : TrOk t) (h0 : 0 ≤ id) (h1 : id ≤ 99) (hT : TreeAt x w b t) :
    Calls Tryd.prog 77 #[.pointer (some ⟨b, 0, none⟩), .int .i64 id] w fun e w' => e = .returned (.bool (hasT t id)) ∧ w' = w := by
  obtain ⟨m, rfl⟩ := Int.eq_ofNat_of_zero_le h0
  exact has_nat t b m w ht (by omega) hT
set_option maxHeartbeats 400000 in
theorem isParent_any {x : Ext} (t : Tr) (b : Nat) (id : Int) (w : World) (ht : TrOk t) (h0 : 0 ≤ id) (h1 : id ≤ 99) (hT : TreeAt x w b t) :
    Calls Tryd.prog 75 #[.pointer (some ⟨b, 0, none⟩), .int .i64 id] w fun e w' => e = .returned (.bool (isParentT t id)) ∧ w' = w := by
  have HH := hide (has_any t b id w ht h0 h1 hT)
  have HF := hide (isFolder_any id w h0 (by omega))
  have HP : Hid (isParentT t id = (id == 0 || (id % 2 == 0 && hasT t id))) := hide rfl
  clear ht hT
  generalize hasT t id = r at *
  by_cases hz : id = 0
  · subst hz
    go_enter Tryd.func75, Tryd.ntmps75
    go_wp2
    go_ret
    exact ⟨ret_bool (by rw [unhide HP]; rfl), rfl⟩
  · have hz' : (id == 0) = false := by simpa using hz
    by_cases he : id % 2 = 0
    · have he' : (id % 2 == 0) = true := by simpa using he
      have HE := hide he; clear he
      have HZ := hide hz'
      rw [he'] at HF
      go_enter Tryd.func75, Tryd.ntmps75
      go_wp2_with (first | (go_at_call 91; refine (unhide HF).mono ?_; rintro e w' ⟨rfl, rfl⟩) | (go_at_call 77; refine (unhide HH).mono ?_; rintro e w' ⟨rfl, rfl⟩))
      go_ret
      exact ⟨ret_bool (by rw [unhide HP, unhide HZ, show (id % 2 == 0) = true by simpa using unhide HE]; rfl), rfl⟩
    · have he' : (id % 2 == 0) = false := by simpa using he
      have HE := hide he; clear he
      have HZ := hide hz'
      rw [he'] at HF
      go_enter Tryd.func75, Tryd.ntmps75
      go_wp2_with (first | (go_at_call 91; refine (unhide HF).mono ?_; rintro e w' ⟨rfl, rfl⟩) | (go_at_call 77; refine (unhide HH).mono ?_; rintro e w' ⟨rfl, rfl⟩))
      go_ret
      exact ⟨ret_bool (by rw [unhide HP, unhide HZ, show (id % 2 == 0) = false by simpa using unhide HE]; rfl), rfl⟩
theorem meetsF_hit (t : Tr) (f : Nat) (id : Int) : meetsF t (f + 1) id id = true := by simp [meetsF]
theorem meetsF_none {t : Tr} {f : Nat} {id goal : Int} (h : ¬ id = goal) (hn : t id.toNat = none) : meetsF t (f + 1) id goal = false := by simp [meetsF, h, hn]
theorem meetsF_some {t : Tr} {f : Nat} {id goal : Int} {n : Nd} (h : ¬ id = goal) (hn : t id.toNat = some n) : meetsF t (f + 1) id goal = meetsF t f n.parent goal := by simp [meetsF, h, hn]
set_option maxHeartbeats 1000000 in
theorem meets_any {x : Ext} (t : Tr) (b : Nat) (id goal : Int) (w : World) (ht : TrOk t) (h0 : 0 ≤ id) (h1 : id ≤ 99) (hT : TreeAt x w b t) :
    Calls Tryd.prog 76 #[.pointer (some ⟨b, 0, none⟩), .int .i64 id, .int .i64 goal] w fun e w' => e = .returned (.bool (meetsT t id goal)) ∧ w' = w := by
  have HO := hide ht
  have HT := hide hT
  clear ht hT
  have HM : Hid (meetsT t id goal = meetsF t 100 id goal) := hide rfl
  generalize meetsT t id goal = M at *
  go_enter Tryd.func76, Tryd.ntmps76
  go_wp2
  go_loop [7, 8] (fun d i => ∃ k : Nat, ∃ m : Int, k ≤ 100 ∧ i = .int .i64 k ∧ d = .int .i64 m ∧ 0 ≤ m ∧ m ≤ 99 ∧ Hid (M = meetsF t (100 - k) m goal)) (fun _ i => 101 - (intOf i).toNat)
  case atStart => exact ⟨0, id, by omega, rfl, rfl, h0, h1, HM⟩
  case round =>
    obtain ⟨k, m, hk, rfl, rfl, hm0, hm1, HI⟩ := hrel
    by_cases hlt : k ≤ 99
    · have hf : 100 - k = (99 - k) + 1 := by omega
      have HI2 : Hid (M = meetsF t ((99 - k) + 1) m goal) := by apply hide; rw [← hf]; exact unhide HI
      clear hf HI HM
      by_cases hg : m = goal
      · subst hg
        have hM := unhide HI2
        rw [meetsF_hit] at hM
        have HMt := hide hM; clear hM
        go_wp2
        go_ret
        exact ⟨ret_bool (unhide HMt).symm, rfl⟩
      · have hg' : (m == goal) = false := by simpa using hg
        obtain ⟨mn, rfl⟩ := Int.eq_ofNat_of_zero_le hm0
        have HH := hide (has_nat t b mn w (unhide HO) (by omega) (unhide HT))
        cases hn : t mn with
        | none =>
          have HMf := hide ((unhide HI2).trans (meetsF_none hg (by simpa using hn)))
          rw [hn] at HH
          clear hn
          go_wp2_with (go_at_call 77; refine (unhide HH).mono ?_; rintro e w' ⟨rfl, rfl⟩)
          go_ret
          exact ⟨ret_bool (unhide HMf).symm, rfl⟩
        | some n =>
          have HMf := hide ((unhide HI2).trans (meetsF_some hg (by simpa using hn)))
          have hb := (unhide HO).2 mn n hn
          have hcell := (unhide HT).cell (100 + mn * 3 + 1)
          rw [(treeCells_node t mn (by omega)).2.1, hn] at hcell
          rw [hn] at HH
          have hp0 : 0 ≤ n.parent := hb.2.2.2.1
          have hp1 : n.parent ≤ 99 := hb.2.2.2.2.1
          clear hn hb
          go_wp2_with (go_at_call 77; refine (unhide HH).mono ?_; rintro e w' ⟨rfl, rfl⟩)
          go_round
          case rel => exact ⟨k + 1, n.parent, by omega, by go_num, rfl, hp0, hp1, by apply hide; rw [show 100 - (k + 1) = 99 - k by omega]; exact unhide HMf⟩
          case measure => simp [intOf]; omega
    · have HMf : Hid (M = false) := by apply hide; rw [unhide HI, show 100 - k = 0 by omega]; rfl
      go_wp2
      go_ret
      exact ⟨ret_bool (unhide HMf).symm, rfl⟩
/-- put -/
theorem treeCells_put (t : Tr) (n : Nd) (m : Nat) (hm : n.id = m) (h : m < 100) :
    ((((treeCells t).set m (.bool true)).set (100 + m * 3) (.int .i64 n.id)).set (100 + m * 3 + 1) (.int .i64 n.parent)).set (100 + m * 3 + 2) (.string (bs n.name)) = treeCells (trPut t n) := by
  apply List.ext_getElem?
  intro j
  simp only [List.getElem?_set, List.length_set, treeCells_length]
  by_cases hj : j < 100
  · rw [treeCells_here _ j hj, treeCells_here _ j hj]
    rw [if_neg (by omega), if_neg (by omega), if_neg (by omega)]
    unfold trPut
    by_cases e : m = j
    · subst e; rw [if_pos rfl, if_pos (by omega), if_pos (by omega)]; rfl
    · rw [if_neg e, if_neg (by omega)]
  · by_cases hj4 : j < 400
    · obtain ⟨i, r, hi, hr, rfl⟩ : ∃ i r, i < 100 ∧ r < 3 ∧ j = 100 + i * 3 + r := ⟨(j - 100) / 3, (j - 100) % 3, by omega, by omega, by omega⟩
      have ht := treeCells_node t i hi
      have hp := treeCells_node (trPut t n) i hi
      by_cases e : m = i
      · subst e
        have e1 : trPut t n m = some n := by unfold trPut; rw [if_pos hm.symm]
        rw [e1] at hp
        match r, hr with
        | 0, _ => rw [if_neg (by omega), if_neg (by omega), if_pos (by omega), if_pos (by omega)]; simpa using hp.1.symm
        | 1, _ => rw [if_neg (by omega), if_pos (by omega), if_pos (by omega)]; simpa using hp.2.1.symm
        | 2, _ => rw [if_pos (by omega), if_pos (by omega)]; simpa using hp.2.2.symm
      · have e1 : trPut t n i = t i := by unfold trPut; rw [if_neg (by omega)]
        rw [e1] at hp
        rw [if_neg (by omega), if_neg (by omega), if_neg (by omega), if_neg (by omega)]
        match r, hr with
        | 0, _ => exact ht.1.trans hp.1.symm
        | 1, _ => exact ht.2.1.trans hp.2.1.symm
        | 2, _ => exact ht.2.2.trans hp.2.2.symm
    · rw [if_neg (by omega), if_neg (by omega), if_neg (by omega), if_neg (by omega), List.getElem?_eq_none (by rw [treeCells_length]; omega), List.getElem?_eq_none (by rw [treeCells_length]; omega)]
end Go.Proofs.YtdcjimlhaklhfaaDoor
