import Derived.Test.YtkahmbpggdneoaaGreatDoorL1
import Derived.Test.YtkahmbpggdneoaaGreatDoorS7
namespace Go.Proofs.YtkahmbpggdneoaaGreatDoor
open Go.RowKit
set_option maxHeartbeats 1000000 in
theorem compiled_any (s t : ByteArray) (w : World) :
    Calls Tryz.prog 23 #[.string s, .string t] w fun e w' => e = .returned (.tuple #[.string (bs (compileT (sl s) (sl t))), .bool true]) ∧ Below w.heap.size w w' := by
  have HC := hide (fun W => compile_any s t W)
  have HR := hide (fun W => rcompiled_any s t W)
  generalize compileT (sl s) (sl t) = sc at *
  generalize compileE (sl s) (sl t) = E at *
  go_enter Tryz.func23, Tryz.ntmps23
  go_wp2_with fail
  refine (unhide HC _).mono ?_
  rintro e w1 ⟨rfl, hb1⟩
  have HB1 := hide hb1
  clear hb1
  go_wp2_with (first | (go_at_call 46; refine (unhide HR _).mono ?_; rintro e w2 ⟨rfl, hb2⟩) | go_in)
  have HB2 := hide ((unhide HB1).trans (hb2.mono (unhide HB1).size))
  clear hb2
  go_ret2
  exact ⟨rfl, unhide HB2⟩
set_option maxHeartbeats 1000000 in
theorem plain_compile (x y : Int) (s t : ByteArray) (w : World) :
    Calls Tryz.prog 8 #[.agg #[.int .i64 3, .int .i64 x, .int .i64 y, .string s, .string t]] w fun e w' => e = .returned (.bool true) ∧ Below w.heap.size w w' := by
  have HC := hide (fun W => compiled_any s t W)
  generalize compileT (sl s) (sl t) = sc at *
  go_enter Tryz.func8, Tryz.ntmps8
  go_wp2_with fail
  refine (unhide HC _).mono ?_
  rintro e w1 ⟨rfl, hb1⟩
  have HB1 : Hid (Below w.heap.size w w1) := hide (((Below.refl _ _).alloc (Nat.le_refl _) _).trans (hb1.mono (by simp)))
  clear hb1
  go_wp2
  go_ret
  exact ⟨rfl, unhide HB1⟩
set_option maxHeartbeats 1000000 in
theorem step_compile (v : Value) (x y : Int) (s t : ByteArray) (w : World) :
    Calls Tryz.prog 7 #[v, .agg #[.int .i64 3, .int .i64 x, .int .i64 y, .string s, .string t]] w fun e w' => e = .returned (.bool true) ∧ Below w.heap.size w w' := by
  have HP := hide (fun W => plain_compile x y s t W)
  go_enter Tryz.func7, Tryz.ntmps7
  go_wp2_with fail
  refine (unhide HP _).mono ?_
  rintro e w1 ⟨rfl, hb1⟩
  go_wp2
  go_ret
  exact ⟨rfl, ((Below.refl _ _).alloc (Nat.le_refl _) _).trans (hb1.mono (by simp))⟩
set_option maxHeartbeats 2000000 in
theorem upto_compile (ao : Option Addr) (len cap : Nat) (w : World) (hops : OpsAt w ao len) (hlen : len ≤ 140737488355328) :
    Calls Tryz.prog 6 #[.slice ao len cap, .int .i64 3, .int .i64 3, .int .i64 3, .int .i64 3] w fun e w' => e = .returned (.int .i64 (-1)) ∧ Below w.heap.size w w' := by
  have HO := hide hops; clear hops
  go_enter Tryz.func6, Tryz.ntmps6
  go_wp2
  go_loopw [12] (fun i wr => ∃ k : Nat, k ≤ len ∧ i = .int .i64 k ∧ Below w.heap.size w wr) (fun i _ => len - (intOf i).toNat)
  case atStart => exact ⟨0, Nat.zero_le _, rfl, (Below.refl _ _).alloc (Nat.le_refl _) _⟩
  case round =>
    obtain ⟨k, hk, rfl, hbel⟩ := hrel
    have hsz := hbel.size
    by_cases hlt : k < len
    · obtain ⟨b, off, hao, hb, hcells⟩ := unhide HO (by omega)
      obtain ⟨kd, x, y, s, t, e0, e1, e2, e3, e4⟩ := hcells k hlt
      clear hcells
      rw [← hbel.cell (p := ⟨b, _, none⟩) hb] at e0 e1 e2 e3 e4
      rw [hao]
      clear hao
      by_cases h1 : kd = 3
      · subst h1
        have HS := hide (fun v W => step_compile v x y s t W)
        have HB1 := hide (hbel.alloc hsz (.cells #[.int .i64 3, .int .i64 x, .int .i64 y, .string s, .string t] 30))
        go_wp2_with fail
        refine (unhide HS _ _).mono ?_
        rintro e w2 ⟨rfl, hb2⟩
        obtain ⟨hc2, hf2⟩ := bcell hb2
        have HB2 : Hid (Below w.heap.size w w2) := hide ((unhide HB1).trans (hb2.mono (by simp; omega)))
        clear hb2 e0 e1 e2 e3 e4
        go_wp2
        go_roundw
        case rel => exact ⟨k + 1, by omega, by go_num, unhide HB2⟩
        case measure => simp [intOf]; omega
      · have HB1 := hide (hbel.alloc hsz (.cells #[.int .i64 kd, .int .i64 x, .int .i64 y, .string s, .string t] 30))
        have h12 : kd < 3 ∨ 3 < kd := by omega
        clear h1
        rcases h12 with h1 | h1
        all_goals
          go_wp2
          go_roundw
          case rel => exact ⟨k + 1, by omega, by go_num, unhide HB1⟩
          case measure => simp [intOf]; omega
    · go_wp2
      go_ret
      exact ⟨rfl, hbel⟩
set_option maxHeartbeats 1000000 in
theorem compiles_any (ao : Option Addr) (len cap : Nat) (w : World) (hops : OpsAt w ao len) (hlen : len ≤ 140737488355328) :
    Calls Tryz.prog 5 #[.slice ao len cap] w fun e w' => e = .returned (.bool true) ∧ Below w.heap.size w w' := by
  have HU := hide (upto_compile ao len cap w hops hlen)
  clear hops
  go_enter Tryz.func5, Tryz.ntmps5
  go_wp2_with fail
  refine (unhide HU).mono ?_
  rintro e w1 ⟨rfl, hb1⟩
  go_wp2
  go_ret
  exact ⟨rfl, hb1⟩
end Go.Proofs.YtkahmbpggdneoaaGreatDoor
