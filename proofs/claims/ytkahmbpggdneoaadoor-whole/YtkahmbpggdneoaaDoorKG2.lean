import Derived.Test.YtkahmbpggdneoaaDoorKG1
import Derived.Test.YtkahmbpggdneoaaDoorW8
import Derived.Test.YtkahmbpggdneoaaDoorRPure3
namespace Go.Proofs.YtkahmbpggdneoaaDoor
open Go.RowKit
set_option maxHeartbeats 1000000 in
theorem find_any (ns : List Nd) (id : Int) (ao : Option Addr) (cap : Nat) (w : World) (hrow : Row w ao ns.length 3 (ndCells ns)) (hl : ns.length ≤ 4000) :
    Calls Tryd.prog 18 #[.slice ao ns.length cap, .int .i64 id] w fun e w' => e = .returned (.int .i64 (findR ns id)) ∧ w' = w := by
  have HROW := hide hrow; clear hrow
  have HB := hide (Below.refl w.heap.size w)
  go_enter Tryd.func18, Tryd.ntmps18
  go_wp2
  go_loop [5] (fun i => ∃ k : Nat, k ≤ ns.length ∧ i = .int .i64 k ∧ Hid (NoIn (idIs ns id) 0 k)) (fun i => ns.length - (intOf i).toNat)
  case atStart => exact ⟨0, Nat.zero_le _, rfl, hide (fun j h1 h2 => by omega)⟩
  case round =>
    obtain ⟨k, hk, rfl, HN⟩ := hrel
    by_cases hlt : k < ns.length
    · obtain ⟨g, hao, hg, c0, _, _⟩ := nd_cells (unhide HROW) (unhide HB) hlt
      rw [hao]
      have HU : Hid (idIs ns id k = ((ns[k]).id == id)) := by apply hide; unfold idIs; rw [ndAt_get _ _ hlt]
      clear hao
      cases hq : ((ns[k]).id == id)
      · have HN2 := hide (noIn_succ (unhide HN) (by rw [unhide HU]; exact hq))
        go_wp2
        go_round
        case rel => exact ⟨k + 1, by omega, by go_num, HN2⟩
        case measure => simp [intOf]; omega
      · have HS : Hid (findR ns id = k) := by
          apply hide
          have e : findN ns id = k := scan_hit (by omega) hlt (by rw [unhide HU]; exact hq) (unhide HN)
          rw [(lookR_some (by rw [e]; exact hlt)).2, e]
        go_wp2
        go_ret
        exact ⟨ret_int (unhide HS).symm, rfl⟩
    · have HS : Hid (findR ns id = -1) := by
        apply hide
        have e : findN ns id = ns.length := scan_none (fun j h1 h2 => unhide HN j h1 (by omega))
        exact (lookR_none (by rw [e]; omega)).2
      go_wp2
      go_ret
      exact ⟨ret_int (unhide HS).symm, rfl⟩
theorem findR_bd (ns : List Nd) (id : Int) : -1 ≤ findR ns id ∧ findR ns id < (ns.length : Int) + 1 ∧ ((lookR ns id).isSome = decide (0 ≤ findR ns id)) := by
  by_cases h : findN ns id < ns.length
  · obtain ⟨h1, h2⟩ := lookR_some h
    rw [h1, h2]; refine ⟨by omega, by omega, by simp⟩
  · obtain ⟨h1, h2⟩ := lookR_none h
    rw [h1, h2]; refine ⟨by omega, by omega, by simp⟩
end Go.Proofs.YtkahmbpggdneoaaDoor
