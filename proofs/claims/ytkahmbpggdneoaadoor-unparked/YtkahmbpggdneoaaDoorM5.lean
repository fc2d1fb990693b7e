import Derived.Test.YtkahmbpggdneoaaDoorM2
import Derived.Test.YtkahmbpggdneoaaDoorM1
import Derived.Laws.BytesArg
import Derived.Deep.RegionHeld3
import Derived.Deep.DrawnRows
namespace Go.Proofs.YtkahmbpggdneoaaDoor
open Go.RowKit
/-- A number in digits, by steps. -/
def decF : Nat → Nat → Str
  | 0, n => [UInt8.ofNat (48 + n % 10)]
  | f + 1, n => if n < 10 then [UInt8.ofNat (48 + n % 10)] else decF f (n / 10) ++ [UInt8.ofNat (48 + n % 10)]
def dec (n : Nat) : Str := decF n n
theorem decF_eq : ∀ (f g n : Nat), n ≤ f → n ≤ g → decF f n = decF g n := by
  intro f
  induction f with
  | zero => intro g n h1 h2; have : n = 0 := by omega
            subst this; cases g <;> simp [decF]
  | succ f ih =>
    intro g n h1 h2
    cases g with
    | zero => have : n = 0 := by omega
              subst this; simp [decF]
    | succ g =>
      simp only [decF]
      by_cases h : n < 10
      · rw [if_pos h, if_pos h]
      · rw [if_neg h, if_neg h, ih g (n / 10) (by omega) (by omega)]
theorem dec_small {n : Nat} (h : n < 10) : dec n = [UInt8.ofNat (48 + n % 10)] := by
  unfold dec; cases n with
  | zero => rfl
  | succ n => rw [decF, if_pos h]
theorem dec_big {n : Nat} (h : ¬ n < 10) : dec n = dec (n / 10) ++ [UInt8.ofNat (48 + n % 10)] := by
  obtain ⟨m, rfl⟩ : ∃ m, n = m + 1 := ⟨n - 1, by omega⟩
  unfold dec
  rw [decF, if_neg h, decF_eq m ((m + 1) / 10) ((m + 1) / 10) (by omega) (by omega)]
theorem digs_dec : ∀ n : Nat, n < 100 → digs (n : Int) = dec n := by decide +kernel
theorem dec_len_pos (n : Nat) : 1 ≤ (dec n).length := by
  by_cases h : n < 10
  · rw [dec_small h]; simp
  · rw [dec_big h]; simp
theorem dec_len (n : Nat) (hn : n ≤ 9999) : (dec n).length ≤ 4 := by
  by_cases h : n < 10
  · rw [dec_small h]; simp
  · rw [dec_big h]
    by_cases h1 : n / 10 < 10
    · rw [dec_small h1]; simp
    · rw [dec_big h1]
      by_cases h2 : n / 10 / 10 < 10
      · rw [dec_small h2]; simp
      · rw [dec_big h2, dec_small (by omega)]; simp
end Go.Proofs.YtkahmbpggdneoaaDoor

namespace Go.Proofs.YtkahmbpggdneoaaDoor
open Go.RowKit
theorem conv_one (W : World) (x : Int) : (convert 99 9 (.slice (some ⟨W.heap.size, 0, none⟩) 1 1)).run Tryd.prog (W.alloc (.cells #[.int .u8 x] 5)) = .ok (.string (bs [UInt8.ofNat x.toNat])) (W.alloc (.cells #[.int .u8 x] 5)) := by
  have := run_convert_bytes_arg (P := Tryd.prog) (W.alloc (.cells #[.int .u8 x] 5)) 99 5 Tryd.underlying99 Tryd.underlying5 W.heap.size 0 1 1 [x] rfl (fun i hi => by
    have hi0 : i = 0 := by omega
    subst hi0
    have := news_one (w := W) (.int .u8 x) 5 0 _ rfl
    exact this) 9 Tryd.underlying9
  exact this
theorem sl_append' (a b : ByteArray) : sl (a ++ b) = sl a ++ sl b := by simp [sl, ByteArray.data_append]
theorem bs_append (a b : Str) : bs a ++ bs b = bs (a ++ b) := by
  have h := sl_append' (bs a) (bs b)
  rw [sl_bs, sl_bs] at h
  rw [← bs_sl (bs a ++ bs b), h]
theorem add_one (S : Str) (h : S.length ≤ 1000000) (W : World) (c : UInt8) : (Op.stringOp .add (bs [c]) (bs S)).run Tryd.prog W = .ok (.string (bs (c :: S))) W := by
  rw [run_string_add_sum (P := Tryd.prog) W _ _ (by rw [bs_size, bs_size]; simp; omega), bs_append]; rfl
def DigInv (n m : Nat) (S : Str) : Prop := ∃ t, S = UInt8.ofNat (48 + m % 10) :: t ∧ dec n = dec m ++ t ∧ t.length + m ≤ n
theorem digInv_step {n m : Nat} {S : Str} (h : DigInv n m S) (hm : 10 ≤ m) : DigInv n (m / 10) (UInt8.ofNat (48 + m / 10 % 10) :: S) := by
  obtain ⟨t, h1, h2, h3⟩ := h
  refine ⟨S, rfl, ?_, ?_⟩
  · rw [h2, dec_big (by omega), h1]; simp
  · rw [h1]; simp; omega
theorem digInv_end {n m : Nat} {S : Str} (h : DigInv n m S) (hm : ¬ 10 ≤ m) : dec n = S := by
  obtain ⟨t, h1, h2, h3⟩ := h
  rw [h2, dec_small (by omega), h1]; rfl
theorem digInv_len {n m : Nat} {S : Str} (h : DigInv n m S) : S.length ≤ n + 1 := by
  obtain ⟨t, h1, h2, h3⟩ := h
  rw [h1]; simp; omega
set_option maxHeartbeats 1000000 in
theorem digits_nat (n : Nat) (w : World) (hn : n ≤ 99999) :
    Calls Tryd.prog 93 #[.int .i64 n] w fun e w' => e = .returned (.string (bs (dec n))) ∧ Below w.heap.size w w' := by
  have hconv := conv_one
  have hm0 : (0 : Int) ≤ (n : Int) % 10 := by omega
  have hm1 : (n : Int) % 10 ≤ 9 := by omega
  go_enter Tryd.func93, Tryd.ntmps93
  go_wp2
  go_loopw [0, 3] (fun a b wr => ∃ m : Nat, ∃ S : Str, m ≤ n ∧ a = .int .i64 m ∧ b = .string (bs S) ∧ Below w.heap.size w wr ∧ Hid (DigInv n m S)) (fun a _ _ => (intOf a).toNat)
  case atStart => exact ⟨n, _, Nat.le_refl _, rfl, rfl, (Below.refl _ _).alloc (Nat.le_refl _) _, hide ⟨[], rfl, by simp, by simp⟩⟩
  case round =>
    obtain ⟨m, S, hm, rfl, rfl, hbel, HI⟩ := hrel
    clear hm0 hm1
    by_cases hge : 10 ≤ m
    · have hadd := add_one S (by have := digInv_len (unhide HI); omega)
      have HI2 := hide (digInv_step (unhide HI) hge)
      have hq0 : (0 : Int) ≤ (m : Int) / 10 % 10 := by omega
      have hq1 : (m : Int) / 10 % 10 ≤ 9 := by omega
      have hsz := hbel.size
      go_wp2
      go_roundw
      case rel => exact ⟨m / 10, _, by omega, by go_num, rfl, hbel.alloc hsz _, by rw [show ((48 : UInt8) + UInt8.ofNat (m / 10 % 10)) = UInt8.ofNat (48 + m / 10 % 10) by simp]; exact HI2⟩
      case measure => simp [intOf]; omega
    · have HE := hide (digInv_end (unhide HI) hge)
      go_wp2
      go_ret
      exact ⟨ret_str (by rw [unhide HE]), hbel⟩
theorem digits_any (n : Int) (w : World) (h0 : 0 ≤ n) (h1 : n ≤ 99999) :
    Calls Tryd.prog 93 #[.int .i64 n] w fun e w' => e = .returned (.string (bs (dec n.toNat))) ∧ Below w.heap.size w w' := by
  obtain ⟨m, rfl⟩ := Int.eq_ofNat_of_zero_le h0
  exact digits_nat m w (by omega)
end Go.Proofs.YtkahmbpggdneoaaDoor

namespace Go.Proofs.YtkahmbpggdneoaaDoor
open Go.RowKit
def digB (c : UInt8) : Bool := decide (48 ≤ c.toNat) && decide (c.toNat ≤ 57)
theorem digB_iff (c : UInt8) : digB c = true ↔ 48 ≤ c.toNat ∧ c.toNat ≤ 57 := by simp [digB]
def valF (n : Nat) (l : Str) : Nat := l.foldl (fun n c => n * 10 + (c.toNat - 48)) n
def val (l : Str) : Nat := valF 0 l
theorem valF_ge : ∀ (l : Str) (n : Nat), n ≤ valF n l := by
  intro l
  induction l with
  | nil => intro n; exact Nat.le_refl _
  | cons c r ih => intro n; have := ih (n * 10 + (c.toNat - 48)); simp only [valF, List.foldl_cons] at this ⊢; omega
theorem val_snoc (l : Str) (c : UInt8) : val (l ++ [c]) = val l * 10 + (c.toNat - 48) := by simp [val, valF, List.foldl_append]
theorem numGo_val (hi : Int) : ∀ (l : Str) (n : Nat), l.all digB = true → (n : Int) ≤ hi → numGo hi n l = if (valF n l : Int) ≤ hi then some (valF n l : Int) else none := by
  intro l
  induction l with
  | nil => intro n _ h; simp [numGo, valF, h]
  | cons c r ih =>
    intro n ha h
    simp only [List.all_cons, Bool.and_eq_true] at ha
    have hd := (digB_iff c).1 ha.1
    have e : (n : Int) * 10 + ((c.toNat : Int) - 48) = ((n * 10 + (c.toNat - 48) : Nat) : Int) := by omega
    rw [numGo, if_pos hd, e]
    have hv : valF n (c :: r) = valF (n * 10 + (c.toNat - 48)) r := rfl
    by_cases hb : ((n * 10 + (c.toNat - 48) : Nat) : Int) > hi
    · rw [if_pos hb, hv, if_neg]
      have := valF_ge r (n * 10 + (c.toNat - 48)); omega
    · rw [if_neg hb, ih _ ha.2 (by omega), hv]
theorem numGo_bad (hi : Int) : ∀ (l : Str) (n : Int), l.all digB = false → numGo hi n l = none := by
  intro l
  induction l with
  | nil => intro n h; simp at h
  | cons c r ih =>
    intro n h
    rw [numGo]
    by_cases hd : 48 ≤ c.toNat ∧ c.toNat ≤ 57
    · rw [if_pos hd]
      have hr : r.all digB = false := by
        rw [List.all_cons, (digB_iff c).2 hd] at h; simpa using h
      rw [ih _ hr]; split <;> rfl
    · rw [if_neg hd]
theorem ofNat_dig (d : Nat) (h : d ≤ 9) : (UInt8.ofNat (48 + d)).toNat = 48 + d := by
  rw [UInt8.toNat_ofNat']; omega
theorem dec_digs (n : Nat) : (dec n).all digB = true ∧ val (dec n) = n := by
  have : ∀ f n, n ≤ f → (dec n).all digB = true ∧ val (dec n) = n := by
    intro f
    induction f with
    | zero => intro n h; have : n = 0 := by omega
              subst this; exact ⟨by decide, by decide⟩
    | succ f ih =>
      intro n h
      by_cases h10 : n < 10
      · rw [dec_small h10]
        have := ofNat_dig (n % 10) (by omega)
        refine ⟨?_, ?_⟩
        · simp only [List.all_cons, List.all_nil, Bool.and_true]; rw [digB_iff, this]; omega
        · simp only [val, valF, List.foldl_cons, List.foldl_nil]; rw [this]; omega
      · rw [dec_big h10]
        have := ofNat_dig (n % 10) (by omega)
        obtain ⟨i1, i2⟩ := ih (n / 10) (by omega)
        refine ⟨?_, ?_⟩
        · rw [List.all_append, i1]; simp only [List.all_cons, List.all_nil, Bool.and_true, Bool.true_and]; rw [digB_iff, this]; omega
        · rw [val_snoc, i2, this]; omega
  exact this n n (Nat.le_refl _)
theorem val_pos (l : Str) (c : UInt8) (h : 49 ≤ c.toNat) : 1 ≤ val (c :: l) := by
  have := valF_ge l (0 * 10 + (c.toNat - 48))
  simp only [val, valF, List.foldl_cons] at this ⊢; omega
theorem u8_digit (c : UInt8) (h : 48 ≤ c.toNat ∧ c.toNat ≤ 57) : UInt8.ofNat (48 + (c.toNat - 48)) = c := by
  apply UInt8.toNat_inj.1; rw [ofNat_dig _ (by omega)]; omega
theorem val_dec (l : Str) : l.all digB = true → numBad l = false → dec (val l) = l := by
  refine snoc_ind (P := fun l => l.all digB = true → numBad l = false → dec (val l) = l) ?_ ?_ l
  · intro _ h; simp [numBad] at h
  · intro a c ih ha hb
    rw [List.all_append, Bool.and_eq_true] at ha
    have hc := (digB_iff c).1 (by simpa using ha.2)
    rw [val_snoc]
    cases a with
    | nil =>
      have e : val [] * 10 + (c.toNat - 48) = c.toNat - 48 := by simp [val, valF]
      rw [e, dec_small (by omega), Nat.mod_eq_of_lt (by omega), u8_digit c hc]; rfl
    | cons b r =>
      have hb48 : ¬ b = 48 := by
        intro e; subst e; simp [numBad] at hb
      have hb' : 49 ≤ b.toNat := by
        have h1 := ((digB_iff b).1 (by have := ha.1; simp only [List.all_cons, Bool.and_eq_true] at this; exact this.1)).1
        have : b.toNat ≠ 48 := fun e => hb48 (UInt8.toNat_inj.1 (by simpa using e))
        omega
      have hv := val_pos r b hb'
      have hbad : numBad (b :: r) = false := by simp [numBad, hb48]
      rw [dec_big (by omega), show (val (b :: r) * 10 + (c.toNat - 48)) / 10 = val (b :: r) by omega, show (val (b :: r) * 10 + (c.toNat - 48)) % 10 = c.toNat - 48 by omega, ih ha.1 hbad, u8_digit c hc]
theorem dec_notBad (n : Nat) : numBad (dec n) = false := by
  have : ∀ f n, n ≤ f → numBad (dec n) = false ∧ (1 ≤ n → (dec n).headD 0 ≠ 48) := by
    intro f
    induction f with
    | zero => intro n h; have : n = 0 := by omega
              subst this; exact ⟨by decide, by omega⟩
    | succ f ih =>
      intro n h
      by_cases h10 : n < 10
      · rw [dec_small h10]
        have := ofNat_dig (n % 10) (by omega)
        refine ⟨by simp [numBad], fun h1 e => ?_⟩
        have e' : UInt8.ofNat (48 + n % 10) = 48 := e
        have := congrArg UInt8.toNat e'
        rw [ofNat_dig _ (by omega)] at this
        simp at this; omega
      · rw [dec_big h10]
        obtain ⟨i1, i2⟩ := ih (n / 10) (by omega)
        have i3 := i2 (by omega)
        have hp := dec_len_pos (n / 10)
        cases hd : dec (n / 10) with
        | nil => rw [hd] at hp; simp at hp
        | cons b r =>
          rw [hd] at i3
          refine ⟨?_, fun _ => by simpa using i3⟩
          have : b ≠ 48 := by simpa using i3
          simp [numBad, this]
  exact (this n n (Nat.le_refl _)).1
theorem val_lt (l : Str) : ∀ n, l.all digB = true → valF n l < (n + 1) * 10 ^ l.length := by
  induction l with
  | nil => intro n _; simp [valF]
  | cons c r ih =>
    intro n ha
    simp only [List.all_cons, Bool.and_eq_true] at ha
    have hd := (digB_iff c).1 ha.1
    have := ih (n * 10 + (c.toNat - 48)) ha.2
    have hv : valF n (c :: r) = valF (n * 10 + (c.toNat - 48)) r := rfl
    rw [hv, List.length_cons, Nat.pow_succ]
    refine Nat.lt_of_lt_of_le this ?_
    rw [Nat.mul_comm (10 ^ r.length) 10, ← Nat.mul_assoc]
    exact Nat.mul_le_mul_right _ (by omega)
/-- What the document's reader of numbers answers. -/
def numR (l : Str) (lo hi : Int) : Int := if (number l lo hi).2 then (number l lo hi).1 else -1
theorem numR_digits {l : Str} {lo hi : Int} (ha : l.all digB = true) (hb : numBad l = false) (h0 : 0 ≤ hi) : numR l lo hi = if lo ≤ (val l : Int) ∧ (val l : Int) ≤ hi then (val l : Int) else -1 := by
  have hg := numGo_val hi l 0 ha h0
  rw [show ((0 : Nat) : Int) = 0 from rfl] at hg
  unfold numR
  by_cases h : (val l : Int) ≤ hi
  · rw [if_pos (show (valF 0 l : Int) ≤ hi from h)] at hg
    rw [number_some hb hg]
    show (if decide (lo ≤ (val l : Int)) = true then (val l : Int) else -1) = _
    by_cases h1 : lo ≤ (val l : Int)
    · rw [if_pos (by simpa using h1), if_pos ⟨h1, h⟩]
    · rw [if_neg (by simpa using h1), if_neg (fun hh => h1 hh.1)]
  · rw [if_neg (show ¬ (valF 0 l : Int) ≤ hi from h)] at hg
    rw [number_none hg]
    exact (if_neg (fun hh => h hh.2)).symm
theorem numR_nodig {l : Str} {lo hi : Int} (ha : l.all digB = false) : numR l lo hi = -1 := by
  unfold numR; rw [number_none (numGo_bad hi l 0 ha)]; rfl
theorem numR_bad {l : Str} {lo hi : Int} (hb : numBad l = true) : numR l lo hi = -1 := by
  unfold numR; rw [number_bad hb]; rfl
theorem numR_long {l : Str} {lo hi : Int} (h0 : 0 ≤ hi) (h1 : hi ≤ 9999) (hl : 4 < l.length) : numR l lo hi = -1 := by
  cases ha : l.all digB
  · exact numR_nodig ha
  · cases hb : numBad l
    · rw [numR_digits ha hb h0, if_neg]
      rintro ⟨_, h⟩
      have := dec_len (val l) (by omega)
      rw [val_dec l ha hb] at this
      omega
    · exact numR_bad hb
theorem numR_empty {l : Str} {lo hi : Int} (hl : l.length < 1) : numR l lo hi = -1 := by
  have : l = [] := List.length_eq_zero_iff.1 (by omega)
  exact numR_bad (by simp [numBad, this])
/-- all digits: where the digits of the value are the text itself, and where not. -/
theorem numR_eq {l : Str} {lo hi : Int} (ha : l.all digB = true) (h0 : 0 ≤ hi) (he : dec (val l) = l) : numR l lo hi = if lo ≤ (val l : Int) ∧ (val l : Int) ≤ hi then (val l : Int) else -1 :=
  numR_digits ha (by rw [← he]; exact dec_notBad _) h0
theorem numR_ne {l : Str} {lo hi : Int} (ha : l.all digB = true) (he : ¬ dec (val l) = l) : numR l lo hi = -1 := by
  cases hb : numBad l
  · exact absurd (val_dec l ha hb) he
  · exact numR_bad hb
theorem numR_out {l : Str} {lo hi : Int} (ha : l.all digB = true) (h0 : 0 ≤ hi) (ho : (val l : Int) < lo ∨ hi < (val l : Int)) : numR l lo hi = -1 := by
  cases hb : numBad l
  · rw [numR_digits ha hb h0, if_neg (by omega)]
  · exact numR_bad hb
end Go.Proofs.YtkahmbpggdneoaaDoor

namespace Go.Proofs.YtkahmbpggdneoaaDoor
open Go.RowKit
theorem val_le4 (l : Str) (h : l.all digB = true) (hl : l.length ≤ 4) : val l ≤ 9999 := by
  have := val_lt l 0 h
  have h2 : 10 ^ l.length ≤ 10 ^ 4 := Nat.pow_le_pow_right (by omega) hl
  simp only [val]; omega
theorem all_take {s : ByteArray} {k : Nat} (h : k < s.size) (ha : ((sl s).take k).all digB = true) (hd : 48 ≤ s[k].toNat ∧ s[k].toNat ≤ 57) : ((sl s).take (k + 1)).all digB = true := by
  rw [take_snoc s k h, List.all_append, ha]; simp [(digB_iff _).2 hd]
theorem all_not {s : ByteArray} {k : Nat} (h : k < s.size) (hd : ¬ (48 ≤ s[k].toNat ∧ s[k].toNat ≤ 57)) : (sl s).all digB = false := by
  rw [← List.take_append_drop k (sl s), List.all_append, drop_cons s k h, List.all_cons]
  have : digB s[k] = false := by cases hq : digB s[k]; rfl; exact absurd ((digB_iff _).1 hq) hd
  rw [this]; simp
set_option maxHeartbeats 2000000 in
theorem rnumber_any (s : ByteArray) (lo hi : Int) (w : World) (hs : s.size ≤ 4000) (hb : 0 ≤ hi) (hb' : hi ≤ 9999) :
    Calls Tryd.prog 85 #[.string s, .int .i64 lo, .int .i64 hi] w fun e w' => e = .returned (.int .i64 (numR (sl s) lo hi)) ∧ Below w.heap.size w w' := by
  by_cases h1 : s.size < 1
  · have HF : Hid (numR (sl s) lo hi = -1) := hide (numR_empty (by rw [sl_length]; exact h1))
    go_enter Tryd.func85, Tryd.ntmps85
    go_wp2
    go_ret
    exact ⟨ret_int (unhide HF).symm, Below.refl _ _⟩
  · by_cases h4 : 4 < s.size
    · have HF : Hid (numR (sl s) lo hi = -1) := hide (numR_long hb hb' (by rw [sl_length]; exact h4))
      go_enter Tryd.func85, Tryd.ntmps85
      go_wp2
      go_ret
      exact ⟨ret_int (unhide HF).symm, Below.refl _ _⟩
    · go_enter Tryd.func85, Tryd.ntmps85
      go_wp2
      go_loop [7, 8] (fun n i => ∃ k m : Nat, k ≤ s.size ∧ i = .int .i64 k ∧ n = .int .i64 m ∧ m ≤ 9999 ∧ Hid (m = val ((sl s).take k) ∧ ((sl s).take k).all digB = true)) (fun _ i => s.size - (intOf i).toNat)
      case atStart => exact ⟨0, 0, Nat.zero_le _, rfl, rfl, by omega, hide ⟨by simp [val, valF], by simp⟩⟩
      case round =>
        obtain ⟨k, m, hk, rfl, rfl, hm, HI⟩ := hrel
        by_cases hlt : k < s.size
        · by_cases hd : 48 ≤ s[k].toNat ∧ s[k].toNat ≤ 57
          · have HA := hide (all_take hlt (unhide HI).2 hd)
            have HV : Hid (m * 10 + (s[k].toNat - 48) = val ((sl s).take (k + 1))) := by
              apply hide; rw [take_snoc s k hlt, val_snoc, ← (unhide HI).1]
            have hb4 : m * 10 + (s[k].toNat - 48) ≤ 9999 := by
              rw [unhide HV]; exact val_le4 _ (unhide HA) (by rw [List.length_take]; omega)
            obtain ⟨hd1, hd2⟩ := hd
            go_wp2
            go_round
            case rel => exact ⟨k + 1, m * 10 + (s[k].toNat - 48), by omega, by go_num, by go_num, hb4, hide ⟨unhide HV, unhide HA⟩⟩
            case measure => simp [intOf]; omega
          · have HF : Hid (numR (sl s) lo hi = -1) := hide (numR_nodig (all_not hlt hd))
            have hd' : s[k].toNat < 48 ∨ 57 < s[k].toNat := by omega
            clear hd
            rcases hd' with hd | hd
            all_goals
              go_wp2
              go_ret
              exact ⟨ret_int (unhide HF).symm, Below.refl _ _⟩
        · have hks : k = s.size := by omega
          subst hks
          have hI := unhide HI
          rw [List.take_of_length_le (by rw [sl_length]; omega)] at hI
          have HI2 := hide hI; clear hI HI
          by_cases hlo : (m : Int) < lo
          · have HF : Hid (numR (sl s) lo hi = -1) := hide (numR_out (unhide HI2).2 hb (by rw [← (unhide HI2).1]; exact .inl hlo))
            go_wp2
            go_ret
            exact ⟨ret_int (unhide HF).symm, Below.refl _ _⟩
          · by_cases hhi : hi < (m : Int)
            · have HF : Hid (numR (sl s) lo hi = -1) := hide (numR_out (unhide HI2).2 hb (by rw [← (unhide HI2).1]; exact .inr hhi))
              go_wp2
              go_ret
              exact ⟨ret_int (unhide HF).symm, Below.refl _ _⟩
            · have HD := hide (fun W => digits_nat m W (by omega))
              by_cases he : dec m = sl s
              · have HF : Hid (numR (sl s) lo hi = m) := by
                  apply hide; rw [numR_eq (unhide HI2).2 hb (by rw [← (unhide HI2).1]; exact he), ← (unhide HI2).1, if_pos (by omega)]
                have hne : ((bs (dec m)).toList == s.toList) = true := by rw [tl_sl, tl_sl, sl_bs, he]; simp
                have HE := hide he; clear he
                go_wp2_with fail
                refine (unhide HD _).mono ?_
                rintro e w1 ⟨rfl, hb1⟩
                go_wp2
                go_ret
                exact ⟨ret_int (unhide HF).symm, hb1⟩
              · have HF : Hid (numR (sl s) lo hi = -1) := hide (numR_ne (unhide HI2).2 (by rw [← (unhide HI2).1]; exact he))
                have hne : ((bs (dec m)).toList == s.toList) = false := by rw [tl_sl, tl_sl, sl_bs]; simpa using he
                have HE := hide he; clear he
                go_wp2_with fail
                refine (unhide HD _).mono ?_
                rintro e w1 ⟨rfl, hb1⟩
                go_wp2
                go_ret
                exact ⟨ret_int (unhide HF).symm, hb1⟩
end Go.Proofs.YtkahmbpggdneoaaDoor

namespace Go.Proofs.YtkahmbpggdneoaaDoor
open Go.RowKit
attribute [local go_sem ↓] Go.wp_at_zero Go.wp_at_succ
theorem plain_tilde : plainB 126 = false := by decide
theorem isName_at {s : ByteArray} {id : Int} {p : Nat} (hp : plainLen (sl s) = p) : isName (sl s) id = (decide (1 ≤ p) && decide (p ≤ 8) && (p == s.size || (sl s).drop p == 126 :: digs id)) := by
  unfold isName; rw [hp, sl_length]
set_option maxHeartbeats 2000000 in
theorem named_any (s : ByteArray) (id : Int) (w : World) (hs : s.size ≤ 4000) (h0 : 0 ≤ id) (h1 : id ≤ 99) :
    Calls Tryd.prog 86 #[.int .i64 id, .string s] w fun e w' => e = .returned (.bool (isName (sl s) id)) ∧ Below w.heap.size w w' := by
  have HD := hide (fun W => digits_any id W h0 (by omega))
  have HDD : Hid (dec id.toNat = digs id) := by apply hide; rw [← digs_dec id.toNat (by omega), Int.toNat_of_nonneg h0]
  rw [unhide HDD] at HD
  go_enter Tryd.func86, Tryd.ntmps86
  go_wp2
  go_loop [5] (fun i => ∃ k : Nat, k ≤ s.size ∧ i = .int .i64 k ∧ Hid (((sl s).take k).all plainB = true)) (fun i => s.size - (intOf i).toNat)
  case atStart => exact ⟨0, Nat.zero_le _, rfl, hide (by simp)⟩
  case round =>
    obtain ⟨k, hk, rfl, HA⟩ := hrel
    by_cases hgo : ∃ h : k < s.size, plainB s[k] = true
    · obtain ⟨hlt, hp⟩ := hgo
      have HA2 : Hid (((sl s).take (k + 1)).all plainB = true) := by apply hide; rw [take_snoc s k hlt]; simp [hp]; simpa using unhide HA
      have key : ((s[k].toNat : Int) != 126) = true ∧ ((97 ≤ s[k].toNat ∧ s[k].toNat ≤ 122) ∨ (48 ≤ s[k].toNat ∧ s[k].toNat ≤ 57) ∨ s[k].toNat = 46) := by
        simp [plainB] at hp
        refine ⟨by rw [bne_iff_ne]; omega, by omega⟩
      obtain ⟨ht, hc⟩ := key
      clear hp
      rcases hc with ⟨c1, c2⟩ | ⟨c1, c2⟩ | c1
      · go_wp2
        go_round
        case rel => exact ⟨k + 1, by omega, by go_num, HA2⟩
        case measure => simp [intOf]; omega
      · go_wp2
        go_round
        case rel => exact ⟨k + 1, by omega, by go_num, HA2⟩
        case measure => simp [intOf]; omega
      · have c3 : ((s[k].toNat : Int) != 46) = false := by rw [bne_eq_false_iff_eq]; omega
        have c4 : (s[k].toNat : Int) < 48 := by omega
        have c5 : (s[k].toNat : Int) < 97 := by omega
        clear c1
        go_wp2
        go_round
        case rel => exact ⟨k + 1, by omega, by go_num, HA2⟩
        case measure => simp [intOf]; omega
    · have HPL : Hid (plainLen (sl s) = k) := by
        apply hide
        refine plainLen_stop (sl s) k (by rw [sl_length]; exact hk) (unhide HA) (fun c r h => ?_)
        by_cases hlt : k < s.size
        · rw [drop_cons s k hlt] at h; cases h
          cases hq : plainB s[k]
          · rfl
          · exact absurd ⟨hlt, hq⟩ hgo
        · rw [List.drop_eq_nil_of_le (by rw [sl_length]; omega)] at h; cases h
      have HN := hide (isName_at (id := id) (unhide HPL))
      by_cases hlt : k < s.size
      · by_cases ht : s[k] = 126
        · have ht' : ((s[k].toNat : Int) != 126) = false := by rw [bne_eq_false_iff_eq, ht]; rfl
          have hke : ((k : Int) == (s.size : Int)) = false := by rw [beq_eq_false_iff_ne]; omega
          have HKE : Hid ((k == s.size) = false) := hide (by rw [beq_eq_false_iff_ne]; omega)
          clear ht hgo
          by_cases hk1 : 1 ≤ k
          · by_cases hk8 : k ≤ 8
            · have HF : Hid (isName (sl s) id = ((sl s).drop k == 126 :: digs id)) := by apply hide; rw [unhide HN, unhide HKE]; simp [hk1, hk8]
              have hadd : ∀ W : World, (Op.stringOp .add ⟨#[126]⟩ (bs (digs id))).run Tryd.prog W = .ok (.string (⟨#[126]⟩ ++ bs (digs id))) W := fun W => run_string_add_sum (P := Tryd.prog) W _ _ (by rw [bs_size]; have := digs_len id; show 1 + _ ≤ _; omega)
              have hk0 : (0 : Int) ≤ (k : Int) := by omega
              have hks : (k : Int) ≤ (s.size : Int) := by omega
              have hd1 : decide (1 ≤ (k : Int)) = true := by simp; omega
              have hd8 : decide ((k : Int) ≤ 8) = true := by simp; omega
              go_wp2
              go_region_held3 (fun _ => True) (trivial) ((go_at_call 93; refine (unhide HD _).mono ?_; rintro e w1 ⟨rfl, hb1⟩))
              go_wp2
              go_ret
              exact ⟨ret_bool (by rw [tail_eq, unhide HF]), (Below.refl w.heap.size w).drew.trans hb1⟩
            · have HF : Hid (isName (sl s) id = false) := by apply hide; rw [unhide HN]; simp [hk8]
              have hd8 : decide ((k : Int) ≤ 8) = false := by simp; omega
              have hd1 : decide (1 ≤ (k : Int)) = true := by simp; omega
              go_wp2
              go_quiet (fail)
              go_wp2
              go_ret
              exact ⟨ret_bool (unhide HF).symm, below_drewN (Below.refl _ _) _⟩
          · have HF : Hid (isName (sl s) id = false) := by apply hide; rw [unhide HN]; simp [hk1]
            have hd1 : decide (1 ≤ (k : Int)) = false := by simp; omega
            go_wp2
            go_quiet (fail)
            go_wp2
            go_ret
            exact ⟨ret_bool (unhide HF).symm, below_drewN (Below.refl _ _) _⟩
        · have HF : Hid (isName (sl s) id = false) := by
            apply hide; rw [unhide HN]
            have e1 : (k == s.size) = false := by rw [beq_eq_false_iff_ne]; omega
            have e2 : ((sl s).drop k == 126 :: digs id) = false := by rw [drop_cons s k hlt, beq_eq_false_iff_ne]; intro h; injection h with h _; exact ht h
            rw [e1, e2]; simp
          have ht' : ((s[k].toNat : Int) != 126) = true := by
            rw [bne_iff_ne]; intro h; exact ht (UInt8.toNat_inj.1 (by simpa using (by omega : (s[k]).toNat = 126)))
          have hcc : (s[k].toNat < 48 ∧ ((s[k].toNat : Int) != 46) = true) ∨ (57 < s[k].toNat ∧ s[k].toNat < 97 ∧ ((s[k].toNat : Int) != 46) = true) ∨ (122 < s[k].toNat ∧ ((s[k].toNat : Int) != 46) = true) := by
            have hq : plainB s[k] = false := by
              cases hq : plainB s[k]
              · rfl
              · exact absurd ⟨hlt, hq⟩ hgo
            simp [plainB] at hq
            have : ((s[k].toNat : Int) != 46) = true := by rw [bne_iff_ne]; omega
            simp only [this, and_true]
            omega
          clear ht hgo
          rcases hcc with ⟨c1, c2⟩ | ⟨c1, c2, c3⟩ | ⟨c1, c2⟩
          all_goals
            go_wp2
            go_ret
            exact ⟨ret_bool (unhide HF).symm, Below.refl _ _⟩
      · have hke : k = s.size := by omega
        clear hgo
        have hke' : ((k : Int) == (s.size : Int)) = true := by rw [beq_iff_eq]; omega
        by_cases hk1 : 1 ≤ k
        · by_cases hk8 : k ≤ 8
          · have HF : Hid (isName (sl s) id = true) := by apply hide; rw [unhide HN]; simp [hk1, hk8, hke.symm]
            have hd1 : decide (1 ≤ (k : Int)) = true := by simp; omega
            have hd8 : decide ((k : Int) ≤ 8) = true := by simp; omega
            clear hke
            go_wp2
            go_quiet (fail)
            go_wp2
            go_ret
            exact ⟨ret_bool (unhide HF).symm, below_drewN (Below.refl _ _) _⟩
          · have HF : Hid (isName (sl s) id = false) := by apply hide; rw [unhide HN]; simp [hk8]
            have hd8 : decide ((k : Int) ≤ 8) = false := by simp; omega
            have hd1 : decide (1 ≤ (k : Int)) = true := by simp; omega
            clear hke
            go_wp2
            go_quiet (fail)
            go_wp2
            go_ret
            exact ⟨ret_bool (unhide HF).symm, below_drewN (Below.refl _ _) _⟩
        · have HF : Hid (isName (sl s) id = false) := by apply hide; rw [unhide HN]; simp [hk1]
          have hd1 : decide (1 ≤ (k : Int)) = false := by simp; omega
          clear hke
          go_wp2
          go_quiet (fail)
          go_wp2
          go_ret
          exact ⟨ret_bool (unhide HF).symm, below_drewN (Below.refl _ _) _⟩
end Go.Proofs.YtkahmbpggdneoaaDoor

namespace Go.Proofs.YtkahmbpggdneoaaDoor
open Go.RowKit
attribute [local go_sem ↓] Go.wp_at_zero Go.wp_at_succ
set_option maxHeartbeats 1000000 in
theorem rcut_any (s : ByteArray) (w : World) (hs : s.size ≤ 4000) :
    Calls Tryd.prog 27 #[.string s] w fun e w' => ∃ ao cap, e = .returned (.slice ao (cut (sl s)).length cap) ∧ Row w' ao (cut (sl s)).length 1 ((cut (sl s)).map strV) ∧ Below w.heap.size w w' := by
  obtain ⟨i0, hi, hz0, hz1, hz2⟩ := info_parts Tryd.infoStr
  have hsz : (0 : Int) ≤ s.size := by omega
  go_enter Tryd.func27, Tryd.ntmps27
  go_wp2
  go_loopw [3, 4, 5] (fun v st i wr => ∃ k t n : Nat, ∃ xs : List Value, k ≤ s.size ∧ t ≤ k ∧ n ≤ k ∧ i = .int .i64 k ∧ st = .int .i64 t ∧ wr.ownsRow w.heap.size 9 1 v n xs ∧ Below w.heap.size w wr ∧ Hid (CutInv s k t n xs)) (fun _ _ i _ => s.size - (intOf i).toNat)
  case atStart => exact ⟨0, 0, 0, [], Nat.zero_le _, Nat.le_refl _, Nat.le_refl _, rfl, rfl, World.ownsRow_nil _ _ _ _, Below.refl _ _, hide ⟨by simp [cutTo], by simp [cutTo], by simp [cutTo]⟩⟩
  case round =>
    obtain ⟨k, t, n, xs, hk, ht, hn, rfl, rfl, hown, hbel, HI⟩ := hrel
    by_cases hlt : k < s.size
    · by_cases hc : s[k] = 59
      · have HN := hide (cutInv_hit (unhide HI) hlt hc)
        go_wp2_with (first
          | (at_builtin; refine wpList_append_own _ rfl _ _ 27 rfl w.heap.size 9 i0 (.string ByteArray.empty) 1 16 Tryd.underlying27 hi hz0 hz1 hz2 rfl (by decide) _ _ _ rfl (hown.alloc _) ⟨wr.heap.size, 0, none⟩ 1 1 [.string (s.extract t (k + 1))] rfl rfl (news_one _ _) (by simp [Value.oneCell']) (by unfold maxLen; omega) (by omega) (by have := hbel.size; simp; omega) ?_)
          | go_in)
        intro v' w1 hown' hgrow _
        have hb1 := below_app hbel (by have := hbel.size; omega) hown hgrow
        clear hgrow hown hbel
        go_wp2
        go_roundw
        case rel => exact ⟨k + 1, k + 1, n + 1, _, by omega, by omega, by omega, by go_num, by go_num, hown', hb1, HN⟩
        case measure => simp [intOf]; omega
      · have HN := hide (cutInv_miss (unhide HI) hlt hc)
        have hc' : (((s[k]).toNat : Int) == 59) = false := by
          rw [beq_eq_false_iff_ne]; intro h; exact hc (UInt8.toNat_inj.1 (by simpa using (by omega : (s[k]).toNat = 59)))
        have HC := hide hc; clear hc
        go_wp2
        go_roundw
        case rel => exact ⟨k + 1, t, n, _, by omega, by omega, by omega, by go_num, rfl, hown, hbel, HN⟩
        case measure => simp [intOf]; omega
    · have hks : k = s.size := by omega
      subst hks
      by_cases hts : t < s.size
      · have HN := hide (cutInv_last (unhide HI) hts)
        go_wp2_with (first
          | (at_builtin; refine wpList_append_own _ rfl _ _ 27 rfl w.heap.size 9 i0 (.string ByteArray.empty) 1 16 Tryd.underlying27 hi hz0 hz1 hz2 rfl (by decide) _ _ _ rfl (hown.alloc _) ⟨wr.heap.size, 0, none⟩ 1 1 [.string (s.extract t s.size)] rfl rfl (news_one _ _) (by simp [Value.oneCell']) (by unfold maxLen; omega) (by omega) (by have := hbel.size; simp; omega) ?_)
          | go_in)
        intro v' w1 hown' hgrow _
        have hb1 := below_app hbel (by have := hbel.size; omega) hown hgrow
        clear hgrow hown hbel
        go_wp2
        go_ret
        obtain ⟨e1, e2⟩ := unhide HN
        obtain ⟨ao, cap, rfl, hr⟩ := row_of_owns hown'
        rw [e1, e2] at hr
        exact ⟨ao, cap, by rw [← e1]; rfl, hr, hb1⟩
      · have HN := hide (cutInv_end (unhide HI) hts)
        go_wp2
        go_ret
        obtain ⟨e1, e2⟩ := unhide HN
        obtain ⟨ao, cap, rfl, hr⟩ := row_of_owns hown
        rw [e1, e2] at hr
        exact ⟨ao, cap, by rw [← e1]; rfl, hr, hbel⟩

def rparts (l : Str) : List Str := if bodyB l then parts (bodyS l) else []
theorem rparts_no {l : Str} (h : bodyB l = false) : rparts l = [] := by unfold rparts; rw [h]; rfl
theorem rparts_yes {l : Str} (h : bodyB l = true) : rparts l = parts l.dropLast := by unfold rparts bodyS; rw [h]; rfl
theorem rpart_last {s : ByteArray} {st n : Nat} {xs : List Value} (h0 : 0 < s.size) (h : PartInv s (s.size - 1) st n xs) (hb : bodyB (sl s) = true) : n + 1 = (rparts (sl s)).length ∧ xs ++ [.string (s.extract st (s.size - 1))] = (rparts (sl s)).map strV := by
  obtain ⟨h1, h2, h3⟩ := h
  have hcur := part_cur s (s.size - 1) st (by omega) h3
  have e1 : s.extract st (s.size - 1) = bs (partTo ((sl s).take (s.size - 1))).2 := by rw [bs_extract, hcur]
  have ed : (sl s).dropLast = (sl s).take (s.size - 1) := by rw [List.dropLast_eq_take, sl_length]
  rw [rparts_yes hb, ed]
  unfold parts; rw [e1, h1, h2]; exact ⟨by simp, by simp [strV]⟩
set_option maxHeartbeats 2000000 in
theorem rparts_any (s : ByteArray) (w : World) (hs : s.size ≤ 4000) :
    Calls Tryd.prog 66 #[.string s] w fun e w' => ∃ ao cap, e = .returned (.slice ao (rparts (sl s)).length cap) ∧ Row w' ao (rparts (sl s)).length 1 ((rparts (sl s)).map strV) ∧ Below w.heap.size w w' := by
  obtain ⟨i0, hi, hz0, hz1, hz2⟩ := info_parts Tryd.infoStr
  have hsz : (0 : Int) ≤ s.size := by omega
  by_cases h0 : 0 < s.size
  · have HB := hide (bodyB_at s h0)
    by_cases hc : s[s.size - 1] = 59
    · have HBT : Hid (bodyB (sl s) = true) := by apply hide; rw [unhide HB, hc]; rfl
      have h0' : ((s.size : Int) == 0) = false := by rw [beq_eq_false_iff_ne]; omega
      go_enter Tryd.func66, Tryd.ntmps66
      go_wp2
      go_loopw [4, 5, 6] (fun v st i wr => (∃ k t n : Nat, ∃ xs : List Value, k < s.size ∧ t ≤ k ∧ n ≤ k ∧ i = .int .i64 k ∧ st = .int .i64 t ∧ wr.ownsRow w.heap.size 9 1 v n xs ∧ Below w.heap.size w wr ∧ Hid (PartInv s k t n xs)) ∨ (i = .int .i64 s.size ∧ ∃ t : Int, st = .int .i64 t ∧ wr.ownsRow w.heap.size 9 1 v (rparts (sl s)).length ((rparts (sl s)).map strV) ∧ Below w.heap.size w wr)) (fun _ _ i _ => s.size - (intOf i).toNat)
      case atStart => exact .inl ⟨0, 0, 0, [], h0, Nat.le_refl _, Nat.le_refl _, rfl, rfl, World.ownsRow_nil _ _ _ _, Below.refl _ _, hide ⟨by simp [partTo], by simp [partTo], by simp [partTo]⟩⟩
      case round =>
        rcases hrel with ⟨k, t, n, xs, hk, ht, hn, rfl, rfl, hown, hbel, HI⟩ | ⟨rfl, t, rfl, hown, hbel⟩
        · by_cases hl : k = s.size - 1
          · have HL : Hid (n + 1 = (rparts (sl s)).length ∧ xs ++ [.string (s.extract t k)] = (rparts (sl s)).map strV) := by
              apply hide; rw [hl]; rw [hl] at HI; exact rpart_last h0 (unhide HI) (unhide HBT)
            have h59 : s[k].toNat = 59 := by
              have : s[k] = s[s.size - 1] := by congr 1
              rw [this, hc]; rfl
            have e32 : ((s[k].toNat : Int) == 32) = false := by rw [beq_eq_false_iff_ne]; omega
            have elast : ((k : Int) == (s.size : Int) - 1) = true := by rw [beq_iff_eq]; omega
            have hk1 : k + 1 = s.size := by omega
            have HK1 := hide hk1
            clear hl h59 hc hk1
            go_wp2_with (first
              | (at_builtin; refine wpList_append_own _ rfl _ _ 27 rfl w.heap.size 9 i0 (.string ByteArray.empty) 1 16 Tryd.underlying27 hi hz0 hz1 hz2 rfl (by decide) _ _ _ rfl (hown.alloc _) ⟨wr.heap.size, 0, none⟩ 1 1 [.string (s.extract t k)] rfl rfl (news_one _ _) (by simp [Value.oneCell']) (by unfold maxLen; omega) (by omega) (by have := hbel.size; simp; omega) ?_)
              | go_in)
            intro v' w1 hown' hgrow _
            have hb1 := below_app hbel (by have := hbel.size; omega) hown hgrow
            rw [(unhide HL).1, (unhide HL).2] at hown'
            clear hgrow hown hbel
            go_wp2
            go_roundw
            case rel => exact .inr ⟨by have := unhide HK1; go_num, (k : Int) + 1, rfl, hown', hb1⟩
            case measure => have := unhide HK1; simp [intOf]; omega
          · by_cases hc2 : s[k] = 32
            · have HN := hide (partInv_hit (unhide HI) hk hc2)
              have e32 : ((s[k].toNat : Int) == 32) = true := by rw [hc2]; rfl
              have HC2 := hide hc2
              clear hc2
              go_wp2_with (first
                | (at_builtin; refine wpList_append_own _ rfl _ _ 27 rfl w.heap.size 9 i0 (.string ByteArray.empty) 1 16 Tryd.underlying27 hi hz0 hz1 hz2 rfl (by decide) _ _ _ rfl (hown.alloc _) ⟨wr.heap.size, 0, none⟩ 1 1 [.string (s.extract t k)] rfl rfl (news_one _ _) (by simp [Value.oneCell']) (by unfold maxLen; omega) (by omega) (by have := hbel.size; simp; omega) ?_)
                | go_in)
              intro v' w1 hown' hgrow _
              have hb1 := below_app hbel (by have := hbel.size; omega) hown hgrow
              clear hgrow hown hbel
              go_wp2
              go_roundw
              case rel => exact .inl ⟨k + 1, k + 1, n + 1, _, by omega, by omega, by omega, by go_num, by go_num, hown', hb1, HN⟩
              case measure => simp [intOf]; omega
            · have HN := hide (partInv_miss (unhide HI) hk hc2)
              have e32 : ((s[k].toNat : Int) == 32) = false := by
                rw [beq_eq_false_iff_ne]; intro h; exact hc2 (UInt8.toNat_inj.1 (by simpa using (by omega : (s[k]).toNat = 32)))
              have elast : ((k : Int) == (s.size : Int) - 1) = false := by rw [beq_eq_false_iff_ne]; omega
              have HC := hide hc2; clear hc2
              go_wp2
              go_roundw
              case rel => exact .inl ⟨k + 1, t, n, _, by omega, by omega, by omega, by go_num, rfl, hown, hbel, HN⟩
              case measure => simp [intOf]; omega
        · go_wp2
          go_ret
          obtain ⟨ao, cap, rfl, hr⟩ := row_of_owns hown
          exact ⟨ao, cap, rfl, hr, hbel⟩
    · have HBF : Hid (bodyB (sl s) = false) := by apply hide; rw [unhide HB]; exact beq_eq_false_iff_ne.2 hc
      have hc' : (((s[s.size - 1]).toNat : Int) != 59) = true := by
        rw [bne_iff_ne]; intro h; exact hc (UInt8.toNat_inj.1 (by simpa using (by omega : (s[s.size - 1]).toNat = 59)))
      have h0' : ((s.size : Int) == 0) = false := by rw [beq_eq_false_iff_ne]; omega
      clear hc hz0 hz1 hz2 hi
      go_enter Tryd.func66, Tryd.ntmps66
      go_wp2
      go_ret
      rw [rparts_no (unhide HBF)]
      exact ⟨none, 0, rfl, ⟨rfl, fun h => by simp at h⟩, Below.refl _ _⟩
  · have HBF := hide (bodyB_nil s (by omega))
    have h0' : ((s.size : Int) == 0) = true := by rw [beq_iff_eq]; omega
    go_enter Tryd.func66, Tryd.ntmps66
    go_wp2
    go_ret
    rw [rparts_no (unhide HBF)]
    exact ⟨none, 0, rfl, ⟨rfl, fun h => by simp at h⟩, Below.refl _ _⟩
end Go.Proofs.YtkahmbpggdneoaaDoor
