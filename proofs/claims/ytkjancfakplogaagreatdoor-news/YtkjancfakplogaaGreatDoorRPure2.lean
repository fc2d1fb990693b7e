import Derived.Test.YtkjancfakplogaaGreatDoorRPure1
namespace Go.Proofs.YtkjancfakplogaaGreatDoor
open Go.RowKit
def digB (c : UInt8) : Bool := decide (48 ≤ c.toNat) && decide (c.toNat ≤ 57)
theorem digB_iff (c : UInt8) : digB c = true ↔ 48 ≤ c.toNat ∧ c.toNat ≤ 57 := by simp [digB]
def valF (n : Nat) (l : Str) : Nat := l.foldl (fun n c => n * 10 + (c.toNat - 48)) n
def val (l : Str) : Nat := valF 0 l
theorem valF_ge : ∀ (l : Str) (n : Nat), n ≤ valF n l := by
  intro l
  induction l with
  | nil => intro n; exact Nat.le_refl _
  | cons c r ih => intro n; have := ih (n * 10 + (c.toNat - 48)); simp only [valF, List.foldl_cons] at this ⊢; omega
theorem val_snoc (l : Str) (c : UInt8) : val (l ++ [c]) = val l * 10 + (c.toNat - 48) := by simp [val, valF, List.foldl_append]
theorem numGo_val (hi : Int) : ∀ (l : Str) (n : Nat), l.all digB = true → (n : Int) ≤ hi → numGo hi n l = if (valF n l : Int) ≤ hi then some (valF n l : Int) else none := by
  intro l
  induction l with
  | nil => intro n _ h; simp [numGo, valF, h]
  | cons c r ih =>
    intro n ha h
    simp only [List.all_cons, Bool.and_eq_true] at ha
    have hd := (digB_iff c).1 ha.1
    have e : (n : Int) * 10 + ((c.toNat : Int) - 48) = ((n * 10 + (c.toNat - 48) : Nat) : Int) := by omega
    rw [numGo, if_pos hd, e]
    have hv : valF n (c :: r) = valF (n * 10 + (c.toNat - 48)) r := rfl
    by_cases hb : ((n * 10 + (c.toNat - 48) : Nat) : Int) > hi
    · rw [if_pos hb, hv, if_neg]
      have := valF_ge r (n * 10 + (c.toNat - 48)); omega
    · rw [if_neg hb, ih _ ha.2 (by omega), hv]
theorem numGo_bad (hi : Int) : ∀ (l : Str) (n : Int), l.all digB = false → numGo hi n l = none := by
  intro l
  induction l with
  | nil => intro n h; simp at h
  | cons c r ih =>
    intro n h
    rw [numGo]
    by_cases hd : 48 ≤ c.toNat ∧ c.toNat ≤ 57
    · rw [if_pos hd]
      have hr : r.all digB = false := by
        rw [List.all_cons, (digB_iff c).2 hd] at h; simpa using h
      rw [ih _ hr]; split <;> rfl
    · rw [if_neg hd]
theorem ofNat_dig (d : Nat) (h : d ≤ 9) : (UInt8.ofNat (48 + d)).toNat = 48 + d := by
  rw [UInt8.toNat_ofNat']; omega
theorem dec_digs (n : Nat) : (dec n).all digB = true ∧ val (dec n) = n := by
  have : ∀ f n, n ≤ f → (dec n).all digB = true ∧ val (dec n) = n := by
    intro f
    induction f with
    | zero => intro n h; have : n = 0 := by omega
              subst this; exact ⟨by decide, by decide⟩
    | succ f ih =>
      intro n h
      by_cases h10 : n < 10
      · rw [dec_small h10]
        have := ofNat_dig (n % 10) (by omega)
        refine ⟨?_, ?_⟩
        · simp only [List.all_cons, List.all_nil, Bool.and_true]; rw [digB_iff, this]; omega
        · simp only [val, valF, List.foldl_cons, List.foldl_nil]; rw [this]; omega
      · rw [dec_big h10]
        have := ofNat_dig (n % 10) (by omega)
        obtain ⟨i1, i2⟩ := ih (n / 10) (by omega)
        refine ⟨?_, ?_⟩
        · rw [List.all_append, i1]; simp only [List.all_cons, List.all_nil, Bool.and_true, Bool.true_and]; rw [digB_iff, this]; omega
        · rw [val_snoc, i2, this]; omega
  exact this n n (Nat.le_refl _)
theorem val_pos (l : Str) (c : UInt8) (h : 49 ≤ c.toNat) : 1 ≤ val (c :: l) := by
  have := valF_ge l (0 * 10 + (c.toNat - 48))
  simp only [val, valF, List.foldl_cons] at this ⊢; omega
theorem u8_digit (c : UInt8) (h : 48 ≤ c.toNat ∧ c.toNat ≤ 57) : UInt8.ofNat (48 + (c.toNat - 48)) = c := by
  apply UInt8.toNat_inj.1; rw [ofNat_dig _ (by omega)]; omega
theorem val_dec (l : Str) : l.all digB = true → numBad l = false → dec (val l) = l := by
  refine snoc_ind (P := fun l => l.all digB = true → numBad l = false → dec (val l) = l) ?_ ?_ l
  · intro _ h; simp [numBad] at h
  · intro a c ih ha hb
    rw [List.all_append, Bool.and_eq_true] at ha
    have hc := (digB_iff c).1 (by simpa using ha.2)
    rw [val_snoc]
    cases a with
    | nil =>
      have e : val [] * 10 + (c.toNat - 48) = c.toNat - 48 := by simp [val, valF]
      rw [e, dec_small (by omega), Nat.mod_eq_of_lt (by omega), u8_digit c hc]; rfl
    | cons b r =>
      have hb48 : ¬ b = 48 := by
        intro e; subst e; simp [numBad] at hb
      have hb' : 49 ≤ b.toNat := by
        have h1 := ((digB_iff b).1 (by have := ha.1; simp only [List.all_cons, Bool.and_eq_true] at this; exact this.1)).1
        have : b.toNat ≠ 48 := fun e => hb48 (UInt8.toNat_inj.1 (by simpa using e))
        omega
      have hv := val_pos r b hb'
      have hbad : numBad (b :: r) = false := by simp [numBad, hb48]
      rw [dec_big (by omega), show (val (b :: r) * 10 + (c.toNat - 48)) / 10 = val (b :: r) by omega, show (val (b :: r) * 10 + (c.toNat - 48)) % 10 = c.toNat - 48 by omega, ih ha.1 hbad, u8_digit c hc]
theorem dec_notBad (n : Nat) : numBad (dec n) = false := by
  have : ∀ f n, n ≤ f → numBad (dec n) = false ∧ (1 ≤ n → (dec n).headD 0 ≠ 48) := by
    intro f
    induction f with
    | zero => intro n h; have : n = 0 := by omega
              subst this; exact ⟨by decide, by omega⟩
    | succ f ih =>
      intro n h
      by_cases h10 : n < 10
      · rw [dec_small h10]
        have := ofNat_dig (n % 10) (by omega)
        refine ⟨by simp [numBad], fun h1 e => ?_⟩
        have e' : UInt8.ofNat (48 + n % 10) = 48 := e
        have := congrArg UInt8.toNat e'
        rw [ofNat_dig _ (by omega)] at this
        simp at this; omega
      · rw [dec_big h10]
        obtain ⟨i1, i2⟩ := ih (n / 10) (by omega)
        have i3 := i2 (by omega)
        have hp := dec_len_pos (n / 10)
        cases hd : dec (n / 10) with
        | nil => rw [hd] at hp; simp at hp
        | cons b r =>
          rw [hd] at i3
          refine ⟨?_, fun _ => by simpa using i3⟩
          have : b ≠ 48 := by simpa using i3
          simp [numBad, this]
  exact (this n n (Nat.le_refl _)).1
theorem val_lt (l : Str) : ∀ n, l.all digB = true → valF n l < (n + 1) * 10 ^ l.length := by
  induction l with
  | nil => intro n _; simp [valF]
  | cons c r ih =>
    intro n ha
    simp only [List.all_cons, Bool.and_eq_true] at ha
    have hd := (digB_iff c).1 ha.1
    have := ih (n * 10 + (c.toNat - 48)) ha.2
    have hv : valF n (c :: r) = valF (n * 10 + (c.toNat - 48)) r := rfl
    rw [hv, List.length_cons, Nat.pow_succ]
    refine Nat.lt_of_lt_of_le this ?_
    rw [Nat.mul_comm (10 ^ r.length) 10, ← Nat.mul_assoc]
    exact Nat.mul_le_mul_right _ (by omega)
/-- What the document's reader of numbers answers. -/
def numR (l : Str) (lo hi : Int) : Int := if (number l lo hi).2 then (number l lo hi).1 else -1
theorem numR_digits {l : Str} {lo hi : Int} (ha : l.all digB = true) (hb : numBad l = false) (h0 : 0 ≤ hi) : numR l lo hi = if lo ≤ (val l : Int) ∧ (val l : Int) ≤ hi then (val l : Int) else -1 := by
  have hg := numGo_val hi l 0 ha h0
  rw [show ((0 : Nat) : Int) = 0 from rfl] at hg
  unfold numR
  by_cases h : (val l : Int) ≤ hi
  · rw [if_pos (show (valF 0 l : Int) ≤ hi from h)] at hg
    rw [number_some hb hg]
    show (if decide (lo ≤ (val l : Int)) = true then (val l : Int) else -1) = _
    by_cases h1 : lo ≤ (val l : Int)
    · rw [if_pos (by simpa using h1), if_pos ⟨h1, h⟩]
    · rw [if_neg (by simpa using h1), if_neg (fun hh => h1 hh.1)]
  · rw [if_neg (show ¬ (valF 0 l : Int) ≤ hi from h)] at hg
    rw [number_none hg]
    exact (if_neg (fun hh => h hh.2)).symm
theorem numR_nodig {l : Str} {lo hi : Int} (ha : l.all digB = false) : numR l lo hi = -1 := by
  unfold numR; rw [number_none (numGo_bad hi l 0 ha)]; rfl
theorem numR_bad {l : Str} {lo hi : Int} (hb : numBad l = true) : numR l lo hi = -1 := by
  unfold numR; rw [number_bad hb]; rfl
theorem numR_long {l : Str} {lo hi : Int} (h0 : 0 ≤ hi) (h1 : hi ≤ 9999) (hl : 4 < l.length) : numR l lo hi = -1 := by
  cases ha : l.all digB
  · exact numR_nodig ha
  · cases hb : numBad l
    · rw [numR_digits ha hb h0, if_neg]
      rintro ⟨_, h⟩
      have := dec_len (val l) (by omega)
      rw [val_dec l ha hb] at this
      omega
    · exact numR_bad hb
theorem numR_empty {l : Str} {lo hi : Int} (hl : l.length < 1) : numR l lo hi = -1 := by
  have : l = [] := List.length_eq_zero_iff.1 (by omega)
  exact numR_bad (by simp [numBad, this])
/-- all digits: where the digits of the value are the text itself, and where not. -/
theorem numR_eq {l : Str} {lo hi : Int} (ha : l.all digB = true) (h0 : 0 ≤ hi) (he : dec (val l) = l) : numR l lo hi = if lo ≤ (val l : Int) ∧ (val l : Int) ≤ hi then (val l : Int) else -1 :=
  numR_digits ha (by rw [← he]; exact dec_notBad _) h0
theorem numR_ne {l : Str} {lo hi : Int} (ha : l.all digB = true) (he : ¬ dec (val l) = l) : numR l lo hi = -1 := by
  cases hb : numBad l
  · exact absurd (val_dec l ha hb) he
  · exact numR_bad hb
theorem numR_out {l : Str} {lo hi : Int} (ha : l.all digB = true) (h0 : 0 ≤ hi) (ho : (val l : Int) < lo ∨ hi < (val l : Int)) : numR l lo hi = -1 := by
  cases hb : numBad l
  · rw [numR_digits ha hb h0, if_neg (by omega)]
  · exact numR_bad hb
end Go.Proofs.YtkjancfakplogaaGreatDoor
