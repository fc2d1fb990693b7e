import Derived.Test.YtkjancfakplogaaGreatDoorW7
namespace Go.Proofs.YtkjancfakplogaaGreatDoor
open Go.RowKit
theorem names_eq (a b : Str) : ((bs a).toList == (bs b).toList) = (a == b) := by rw [tl_sl, tl_sl, sl_bs, sl_bs]
theorem same_get (ns : List Nd) (i j : Nat) (hi : i < ns.length) (hj : j < ns.length) : samePlace ns i j = (((ns[j]).parent == (ns[i]).parent) && ((ns[j]).name == (ns[i]).name)) := by
  unfold samePlace; rw [ndAt_get _ _ hi, ndAt_get _ _ hj]
theorem twice_yes {ns : List Nd} {i j : Nat} (h : j < i) (hs : samePlace ns i j = true) : twice ns i = true := by unfold twice; exact decide_eq_true ⟨j, h, hs⟩
theorem twice_no {ns : List Nd} {i : Nat} (h : NoIn (samePlace ns i) 0 i) : twice ns i = false := by
  unfold twice
  apply decide_eq_false
  rintro ⟨j, h1, h2⟩
  rw [h j (by omega) h1] at h2
  cases h2
set_option maxHeartbeats 2000000 in
theorem twice_any (ns : List Nd) (ao : Option Addr) (cap : Nat) (w : World) (hrow : Row w ao ns.length 3 (ndCells ns)) (hl : ns.length ≤ 4000) :
    Calls Tryz.prog 94 #[.slice ao ns.length cap] w fun e w' => e = .returned (.int .i64 (scan (twice ns) 0 ns.length)) ∧ ∃ n, w' = w.drewN n := by
  have HROW := hide hrow; clear hrow
  go_enter Tryz.func94, Tryz.ntmps94
  go_wp2
  go_loopw [7] (fun x wr => ∃ i nq : Nat, i ≤ ns.length ∧ x = .int .i64 i ∧ wr = w.drewN nq ∧ Hid (NoIn (twice ns) 0 i)) (fun x _ => ns.length - (intOf x).toNat)
  case atStart => exact ⟨0, 0, Nat.zero_le _, rfl, rfl, hide (fun j h1 h2 => by omega)⟩
  case round =>
    obtain ⟨i, nq, hi, rfl, rfl, HN⟩ := hrel
    by_cases hlt : i < ns.length
    · have hi0 : (0 : Int) ≤ i := by omega
      have hi1 : (i : Int) < ns.length := by omega
      go_wp2
      go_loopw [4] (fun x wr => ∃ j nq' : Nat, j ≤ i ∧ x = .int .i64 j ∧ wr = w.drewN nq' ∧ Hid (NoIn (samePlace ns i) 0 j)) (fun x _ => i - (intOf x).toNat)
      case atStart => exact ⟨0, nq, Nat.zero_le _, rfl, rfl, hide (fun j h1 h2 => by omega)⟩
      case round =>
        obtain ⟨j, nq', hj, rfl, rfl, HM⟩ := hrel
        by_cases hjl : j < i
        · have HB := hide (Below.refl w.heap.size w)
          have hj0 : (0 : Int) ≤ j := by omega
          have hj1 : (j : Int) < ns.length := by omega
          obtain ⟨g, hao, hg, _, c1, c2⟩ := nd_cells (unhide HROW) (unhide HB) hlt
          obtain ⟨g', hao', _, _, d1, d2⟩ := nd_cells (unhide HROW) (unhide HB) (show j < ns.length by omega)
          rw [hao] at hao'
          have hgg : g = g' := by cases hao'; rfl
          subst hgg
          rw [hao]
          have HU := hide (same_get ns i j hlt (by omega))
          clear hao hao' HB
          cases hpe : ((ns[j]).parent == (ns[i]).parent)
          · have HM2 := hide (noIn_succ (unhide HM) (by rw [unhide HU, hpe]; rfl))
            go_wp2
            go_quiet (fail)
            go_wp2
            go_roundw
            case rel => exact ⟨j + 1, _, by omega, by go_num, rfl, HM2⟩
            case measure => simp [intOf]; omega
          · cases hne : ((ns[j]).name == (ns[i]).name)
            · have HM2 := hide (noIn_succ (unhide HM) (by rw [unhide HU, hpe, hne]; rfl))
              have hne2 : ((bs (ns[j]).name).toList == (bs (ns[i]).name).toList) = false := by rw [names_eq]; exact hne
              clear hne
              go_wp2
              go_quiet (fail)
              go_wp2
              go_roundw
              case rel => exact ⟨j + 1, _, by omega, by go_num, rfl, HM2⟩
              case measure => simp [intOf]; omega
            · have HS : Hid (scan (twice ns) 0 ns.length = i) := hide (scan_hit (by omega) hlt (twice_yes hjl (by rw [unhide HU, hpe, hne]; rfl)) (unhide HN))
              have hne2 : ((bs (ns[j]).name).toList == (bs (ns[i]).name).toList) = true := by rw [names_eq]; exact hne
              clear hne
              go_wp2
              go_quiet (fail)
              go_wp2
              go_ret
              exact ⟨ret_int (by rw [unhide HS]), drew2 _ _ _⟩
        · have hji : j = i := by omega
          subst hji
          have HN2 := hide (noIn_succ (unhide HN) (twice_no (unhide HM)))
          go_wp2
          go_roundw
          case rel => exact ⟨j + 1, _, by omega, by go_num, rfl, HN2⟩
          case measure => simp [intOf]; omega
    · have HS : Hid (scan (twice ns) 0 ns.length = ns.length) := hide (scan_none (fun j h1 h2 => unhide HN j h1 (by omega)))
      go_wp2
      go_ret
      exact ⟨ret_int (by rw [unhide HS]), _, rfl⟩
end Go.Proofs.YtkjancfakplogaaGreatDoor
