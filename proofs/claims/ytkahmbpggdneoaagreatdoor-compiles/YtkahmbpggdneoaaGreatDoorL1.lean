import Derived.Test.YtkahmbpggdneoaaGreatDoorM6
import Derived.Test.YtkahmbpggdneoaaGreatDoorM2
namespace Go.Proofs.YtkahmbpggdneoaaGreatDoor
open Go.RowKit
/-- A script's steps in memory: five cells each. -/
def OpsAt (w : World) (ao : Option Addr) (len : Nat) : Prop :=
  0 < len → ∃ b off, ao = some ⟨b, off, none⟩ ∧ b < w.heap.size ∧ ∀ i, i < len → ∃ (k x y : Int) (s t : ByteArray),
    w.cell? ⟨b, off + i * 5, none⟩ = some (.int .i64 k) ∧ w.cell? ⟨b, off + i * 5 + 1, none⟩ = some (.int .i64 x) ∧ w.cell? ⟨b, off + i * 5 + 2, none⟩ = some (.int .i64 y) ∧ w.cell? ⟨b, off + i * 5 + 3, none⟩ = some (.string s) ∧ w.cell? ⟨b, off + i * 5 + 4, none⟩ = some (.string t)
set_option maxHeartbeats 1000000 in
theorem plain_check (x y : Int) (s t : ByteArray) (w : World) :
    Calls Tryz.prog 8 #[.agg #[.int .i64 1, .int .i64 x, .int .i64 y, .string s, .string t]] w fun e w' => e = .returned (.bool true) ∧ Below w.heap.size w w' := by
  have HC := hide (fun W => check_any s W)
  have HR := hide (fun W => rcheck_any s W)
  rw [check_same] at HR
  generalize checkT (sl s) = c at *
  go_enter Tryz.func8, Tryz.ntmps8
  go_wp2_with fail
  refine (unhide HC _).mono ?_
  rintro e w1 ⟨rfl, hb1⟩
  obtain ⟨hc1, hf1⟩ := bcell hb1
  have hz1 := lt_kept hb1
  have HB1 : Hid (Below w.heap.size w w1) := hide (((Below.refl _ _).alloc (Nat.le_refl _) _).trans (hb1.mono (by simp)))
  clear hb1
  go_wp2_with fail
  refine (unhide HR _).mono ?_
  rintro e w2 ⟨rfl, hb2⟩
  have HB2 : Hid (Below w.heap.size w w2) := hide ((unhide HB1).trans (hb2.mono (unhide HB1).size))
  clear hb2 hc1 hf1 hz1
  go_wp2_with go_in
  go_ret
  exact ⟨ret_bool (by simp), unhide HB2⟩
set_option maxHeartbeats 1000000 in
theorem step_check (v : Value) (x y : Int) (s t : ByteArray) (w : World) :
    Calls Tryz.prog 7 #[v, .agg #[.int .i64 1, .int .i64 x, .int .i64 y, .string s, .string t]] w fun e w' => e = .returned (.bool true) ∧ Below w.heap.size w w' := by
  have HP := hide (fun W => plain_check x y s t W)
  go_enter Tryz.func7, Tryz.ntmps7
  go_wp2_with fail
  refine (unhide HP _).mono ?_
  rintro e w1 ⟨rfl, hb1⟩
  go_wp2
  go_ret
  exact ⟨rfl, ((Below.refl _ _).alloc (Nat.le_refl _) _).trans (hb1.mono (by simp))⟩
set_option maxHeartbeats 2000000 in
theorem upto_check (ao : Option Addr) (len cap : Nat) (w : World) (hops : OpsAt w ao len) (hlen : len ≤ 140737488355328) :
    Calls Tryz.prog 6 #[.slice ao len cap, .int .i64 1, .int .i64 1, .int .i64 1, .int .i64 1] w fun e w' => e = .returned (.int .i64 (-1)) ∧ Below w.heap.size w w' := by
  have HO := hide hops; clear hops
  go_enter Tryz.func6, Tryz.ntmps6
  go_wp2
  go_loopw [12] (fun i wr => ∃ k : Nat, k ≤ len ∧ i = .int .i64 k ∧ Below w.heap.size w wr) (fun i _ => len - (intOf i).toNat)
  case atStart => exact ⟨0, Nat.zero_le _, rfl, (Below.refl _ _).alloc (Nat.le_refl _) _⟩
  case round =>
    obtain ⟨k, hk, rfl, hbel⟩ := hrel
    have hsz := hbel.size
    by_cases hlt : k < len
    · obtain ⟨b, off, hao, hb, hcells⟩ := unhide HO (by omega)
      obtain ⟨kd, x, y, s, t, e0, e1, e2, e3, e4⟩ := hcells k hlt
      clear hcells
      rw [← hbel.cell (p := ⟨b, _, none⟩) hb] at e0 e1 e2 e3 e4
      rw [hao]
      clear hao
      by_cases h1 : kd = 1
      · subst h1
        have HS := hide (fun v W => step_check v x y s t W)
        have HB1 := hide (hbel.alloc hsz (.cells #[.int .i64 1, .int .i64 x, .int .i64 y, .string s, .string t] 30))
        go_wp2_with fail
        refine (unhide HS _ _).mono ?_
        rintro e w2 ⟨rfl, hb2⟩
        obtain ⟨hc2, hf2⟩ := bcell hb2
        have HB2 : Hid (Below w.heap.size w w2) := hide ((unhide HB1).trans (hb2.mono (by simp; omega)))
        clear hb2 e0 e1 e2 e3 e4
        go_wp2
        go_roundw
        case rel => exact ⟨k + 1, by omega, by go_num, unhide HB2⟩
        case measure => simp [intOf]; omega
      · have HB1 := hide (hbel.alloc hsz (.cells #[.int .i64 kd, .int .i64 x, .int .i64 y, .string s, .string t] 30))
        have h12 : kd < 1 ∨ 1 < kd := by omega
        clear h1
        rcases h12 with h1 | h1
        all_goals
          go_wp2
          go_roundw
          case rel => exact ⟨k + 1, by omega, by go_num, unhide HB1⟩
          case measure => simp [intOf]; omega
    · go_wp2
      go_ret
      exact ⟨rfl, hbel⟩
set_option maxHeartbeats 1000000 in
theorem checks_any (ao : Option Addr) (len cap : Nat) (w : World) (hops : OpsAt w ao len) (hlen : len ≤ 140737488355328) :
    Calls Tryz.prog 3 #[.slice ao len cap] w fun e w' => e = .returned (.bool true) ∧ Below w.heap.size w w' := by
  have HU := hide (upto_check ao len cap w hops hlen)
  clear hops
  go_enter Tryz.func3, Tryz.ntmps3
  go_wp2_with fail
  refine (unhide HU).mono ?_
  rintro e w1 ⟨rfl, hb1⟩
  go_wp2
  go_ret
  exact ⟨rfl, hb1⟩
end Go.Proofs.YtkahmbpggdneoaaGreatDoor
