import Derived.Test.YtkjancfakplogaaGreatDoorPure3
namespace Go.Proofs.YtkjancfakplogaaGreatDoor
open Go.RowKit
/-- A number in digits, by steps. -/
def decF : Nat → Nat → Str
  | 0, n => [UInt8.ofNat (48 + n % 10)]
  | f + 1, n => if n < 10 then [UInt8.ofNat (48 + n % 10)] else decF f (n / 10) ++ [UInt8.ofNat (48 + n % 10)]
def dec (n : Nat) : Str := decF n n
theorem decF_eq : ∀ (f g n : Nat), n ≤ f → n ≤ g → decF f n = decF g n := by
  intro f
  induction f with
  | zero => intro g n h1 h2; have : n = 0 := by omega
            subst this; cases g <;> simp [decF]
  | succ f ih =>
    intro g n h1 h2
    cases g with
    | zero => have : n = 0 := by omega
              subst this; simp [decF]
    | succ g =>
      simp only [decF]
      by_cases h : n < 10
      · rw [if_pos h, if_pos h]
      · rw [if_neg h, if_neg h, ih g (n / 10) (by omega) (by omega)]
theorem dec_small {n : Nat} (h : n < 10) : dec n = [UInt8.ofNat (48 + n % 10)] := by
  unfold dec; cases n with
  | zero => rfl
  | succ n => rw [decF, if_pos h]
theorem dec_big {n : Nat} (h : ¬ n < 10) : dec n = dec (n / 10) ++ [UInt8.ofNat (48 + n % 10)] := by
  obtain ⟨m, rfl⟩ : ∃ m, n = m + 1 := ⟨n - 1, by omega⟩
  unfold dec
  rw [decF, if_neg h, decF_eq m ((m + 1) / 10) ((m + 1) / 10) (by omega) (by omega)]
theorem digs_dec : ∀ n : Nat, n < 100 → digs (n : Int) = dec n := by decide +kernel
theorem dec_len_pos (n : Nat) : 1 ≤ (dec n).length := by
  by_cases h : n < 10
  · rw [dec_small h]; simp
  · rw [dec_big h]; simp
theorem dec_len (n : Nat) (hn : n ≤ 9999) : (dec n).length ≤ 4 := by
  by_cases h : n < 10
  · rw [dec_small h]; simp
  · rw [dec_big h]
    by_cases h1 : n / 10 < 10
    · rw [dec_small h1]; simp
    · rw [dec_big h1]
      by_cases h2 : n / 10 / 10 < 10
      · rw [dec_small h2]; simp
      · rw [dec_big h2, dec_small (by omega)]; simp
end Go.Proofs.YtkjancfakplogaaGreatDoor
