import Derived.Test.YtkahmbpggdneoaaGreatDoorR6
import Derived.Test.YtkahmbpggdneoaaGreatDoorW8
import Derived.Test.YtkahmbpggdneoaaGreatDoorRPure3
namespace Go.Proofs.YtkahmbpggdneoaaGreatDoor
open Go.RowKit
set_option maxHeartbeats 1000000 in
theorem find_any (ns : List Nd) (id : Int) (ao : Option Addr) (cap : Nat) (w : World) (hrow : Row w ao ns.length 3 (ndCells ns)) (hl : ns.length ≤ 4000) :
    Calls Tryz.prog 55 #[.slice ao ns.length cap, .int .i64 id] w fun e w' => e = .returned (.int .i64 (findR ns id)) ∧ w' = w := by
  have HROW := hide hrow; clear hrow
  have HB := hide (Below.refl w.heap.size w)
  go_enter Tryz.func55, Tryz.ntmps55
  go_wp2
  go_loop [5] (fun i => ∃ k : Nat, k ≤ ns.length ∧ i = .int .i64 k ∧ Hid (NoIn (idIs ns id) 0 k)) (fun i => ns.length - (intOf i).toNat)
  case atStart => exact ⟨0, Nat.zero_le _, rfl, hide (fun j h1 h2 => by omega)⟩
  case round =>
    obtain ⟨k, hk, rfl, HN⟩ := hrel
    by_cases hlt : k < ns.length
    · obtain ⟨g, hao, hg, c0, _, _⟩ := nd_cells (unhide HROW) (unhide HB) hlt
      rw [hao]
      have HU : Hid (idIs ns id k = ((ns[k]).id == id)) := by apply hide; unfold idIs; rw [ndAt_get _ _ hlt]
      clear hao
      cases hq : ((ns[k]).id == id)
      · have HN2 := hide (noIn_succ (unhide HN) (by rw [unhide HU]; exact hq))
        go_wp2
        go_round
        case rel => exact ⟨k + 1, by omega, by go_num, HN2⟩
        case measure => simp [intOf]; omega
      · have HS : Hid (findR ns id = k) := by
          apply hide
          have e : findN ns id = k := scan_hit (by omega) hlt (by rw [unhide HU]; exact hq) (unhide HN)
          rw [(lookR_some (by rw [e]; exact hlt)).2, e]
        go_wp2
        go_ret
        exact ⟨ret_int (unhide HS).symm, rfl⟩
    · have HS : Hid (findR ns id = -1) := by
        apply hide
        have e : findN ns id = ns.length := scan_none (fun j h1 h2 => unhide HN j h1 (by omega))
        exact (lookR_none (by rw [e]; omega)).2
      go_wp2
      go_ret
      exact ⟨ret_int (unhide HS).symm, rfl⟩
theorem findR_bd (ns : List Nd) (id : Int) : -1 ≤ findR ns id ∧ findR ns id < (ns.length : Int) + 1 ∧ ((lookR ns id).isSome = decide (0 ≤ findR ns id)) := by
  by_cases h : findN ns id < ns.length
  · obtain ⟨h1, h2⟩ := lookR_some h
    rw [h1, h2]; refine ⟨by omega, by omega, by simp⟩
  · obtain ⟨h1, h2⟩ := lookR_none h
    rw [h1, h2]; refine ⟨by omega, by omega, by simp⟩
set_option maxHeartbeats 1000000 in
theorem folder_any (ns : List Nd) (id : Int) (ao : Option Addr) (cap : Nat) (w : World) (hrow : Row w ao ns.length 3 (ndCells ns)) (hl : ns.length ≤ 4000) (h0 : 0 ≤ id) (h1 : id ≤ 1000) :
    Calls Tryz.prog 56 #[.slice ao ns.length cap, .int .i64 id] w fun e w' => e = .returned (.bool (folderR ns id)) ∧ w' = w := by
  have HF := hide (find_any ns id ao cap w hrow hl)
  have hbd := findR_bd ns id
  have HP : Hid (folderR ns id = (id == 0 || (id % 2 == 0 && decide (0 ≤ findR ns id)))) := by apply hide; unfold folderR; rw [hbd.2.2]
  obtain ⟨b1, b2, _⟩ := hbd
  clear hrow
  generalize findR ns id = f at *
  by_cases hz : id = 0
  · subst hz
    go_enter Tryz.func56, Tryz.ntmps56
    go_wp2_with fail
    refine (unhide HF).mono ?_
    rintro e w' ⟨rfl, rfl⟩
    go_wp2
    go_ret
    exact ⟨ret_bool (by rw [unhide HP]; rfl), rfl⟩
  · have hz' : (id == 0) = false := by simpa using hz
    by_cases he : id % 2 = 0
    · have he' : (id % 2 == 0) = true := by simpa using he
      have HE := hide he'
      have HZ := hide hz'
      clear he
      go_enter Tryz.func56, Tryz.ntmps56
      go_wp2_with fail
      refine (unhide HF).mono ?_
      rintro e w' ⟨rfl, rfl⟩
      go_wp2
      go_ret
      exact ⟨ret_bool (by rw [unhide HP, unhide HZ, unhide HE]; rfl), rfl⟩
    · have he' : (id % 2 == 0) = false := by simpa using he
      have HE := hide he'
      have HZ := hide hz'
      clear he
      go_enter Tryz.func56, Tryz.ntmps56
      go_wp2_with fail
      refine (unhide HF).mono ?_
      rintro e w' ⟨rfl, rfl⟩
      go_wp2
      go_ret
      exact ⟨ret_bool (by rw [unhide HP, unhide HZ, unhide HE]; rfl), rfl⟩
theorem belowF_none {look : Int → Option Nd} {f : Nat} {id top : Int} (h : look id = none) : belowF look (f + 1) id top = false := by simp [belowF, h]
theorem belowF_hit {look : Int → Option Nd} {f : Nat} {id : Int} {n : Nd} (h : look id = some n) : belowF look (f + 1) id n.parent = true := by simp [belowF, h]
theorem belowF_on {look : Int → Option Nd} {f : Nat} {id top : Int} {n : Nd} (h : look id = some n) (hne : ¬ n.parent = top) : belowF look (f + 1) id top = belowF look f n.parent top := by simp [belowF, h, hne]
set_option maxHeartbeats 1000000 in
theorem below_any (ns : List Nd) (id top : Int) (ao : Option Addr) (cap : Nat) (w : World) (hrow : Row w ao ns.length 3 (ndCells ns)) (hl : ns.length ≤ 4000) :
    Calls Tryz.prog 52 #[.slice ao ns.length cap, .int .i64 id, .int .i64 top] w fun e w' => e = .returned (.bool (belowR ns id top)) ∧ w' = w := by
  have HROW := hide hrow; clear hrow
  have HB := hide (Below.refl w.heap.size w)
  have HM : Hid (belowR ns id top = belowF (lookR ns) (ns.length + 1) id top) := hide rfl
  generalize belowR ns id top = M at *
  go_enter Tryz.func52, Tryz.ntmps52
  go_wp2
  go_loop [7, 8] (fun d i => ∃ k : Nat, ∃ m : Int, k ≤ ns.length + 1 ∧ i = .int .i64 k ∧ d = .int .i64 m ∧ Hid (M = belowF (lookR ns) (ns.length + 1 - k) m top)) (fun _ i => ns.length + 2 - (intOf i).toNat)
  case atStart => exact ⟨0, id, by omega, rfl, rfl, HM⟩
  case round =>
    obtain ⟨k, m, hk, rfl, rfl, HI⟩ := hrel
    have HF := hide (find_any ns m ao cap w (unhide HROW) hl)
    by_cases hle : k ≤ ns.length
    · have HI2 : Hid (M = belowF (lookR ns) ((ns.length - k) + 1) m top) := by apply hide; rw [show ns.length - k + 1 = ns.length + 1 - k by omega]; exact unhide HI
      clear HI HM
      by_cases hf : findN ns m < ns.length
      · obtain ⟨q1, q2⟩ := lookR_some hf
        obtain ⟨g, hao, hg, _, c1, _⟩ := nd_cells (unhide HROW) (unhide HB) hf
        rw [q2] at HF
        rw [hao] at HF ⊢
        have HQ := hide q1
        clear q1 q2 hao
        generalize hfn : findN ns m = fn at *
        have HFN := hide hfn
        clear hfn
        have hfn0 : (0 : Int) ≤ fn := by omega
        have hfn1 : (fn : Int) < ns.length := by omega
        generalize ns[fn] = nd at *
        by_cases hp : nd.parent = top
        · have HT : Hid (M = true) := by apply hide; rw [unhide HI2, ← hp]; exact belowF_hit (unhide HQ)
          have hp' : (nd.parent == top) = true := by simpa using hp
          clear hp
          go_wp2_with fail
          refine (unhide HF).mono ?_
          rintro e w' ⟨rfl, rfl⟩
          go_wp2
          go_ret
          exact ⟨ret_bool (unhide HT).symm, rfl⟩
        · have HT : Hid (M = belowF (lookR ns) (ns.length - k) nd.parent top) := by apply hide; rw [unhide HI2]; exact belowF_on (unhide HQ) hp
          have hp' : (nd.parent == top) = false := by simpa using hp
          clear hp
          go_wp2_with fail
          refine (unhide HF).mono ?_
          rintro e w' ⟨rfl, rfl⟩
          go_wp2
          go_round
          case rel => exact ⟨k + 1, nd.parent, by omega, by go_num, rfl, by apply hide; rw [show ns.length + 1 - (k + 1) = ns.length - k by omega]; exact unhide HT⟩
          case measure => simp [intOf]; omega
      · obtain ⟨q1, q2⟩ := lookR_none hf
        have HT : Hid (M = false) := by apply hide; rw [unhide HI2]; exact belowF_none q1
        rw [q2] at HF
        clear q1 q2 hf
        go_wp2_with fail
        refine (unhide HF).mono ?_
        rintro e w' ⟨rfl, rfl⟩
        go_wp2
        go_ret
        exact ⟨ret_bool (unhide HT).symm, rfl⟩
    · have HT : Hid (M = false) := by apply hide; rw [unhide HI, show ns.length + 1 - k = 0 by omega]; rfl
      go_wp2
      go_ret
      exact ⟨ret_bool (unhide HT).symm, rfl⟩
set_option maxHeartbeats 1000000 in
theorem taken_any (ns : List Nd) (parent : Int) (name : Str) (ao : Option Addr) (cap : Nat) (w : World) (hrow : Row w ao ns.length 3 (ndCells ns)) (hl : ns.length ≤ 4000) :
    Calls Tryz.prog 57 #[.slice ao ns.length cap, .int .i64 parent, .string (bs name)] w fun e w' => e = .returned (.int .i64 (takenR ns parent name)) ∧ w' = w := by
  have HROW := hide hrow; clear hrow
  have HB := hide (Below.refl w.heap.size w)
  go_enter Tryz.func57, Tryz.ntmps57
  go_wp2
  go_loop [7] (fun i => ∃ k : Nat, k ≤ ns.length ∧ i = .int .i64 k ∧ Hid (NoIn (placeIs ns parent name) 0 k)) (fun i => ns.length - (intOf i).toNat)
  case atStart => exact ⟨0, Nat.zero_le _, rfl, hide (fun j h1 h2 => by omega)⟩
  case round =>
    obtain ⟨k, hk, rfl, HN⟩ := hrel
    by_cases hlt : k < ns.length
    · obtain ⟨g, hao, hg, c0, c1, c2⟩ := nd_cells (unhide HROW) (unhide HB) hlt
      rw [hao]
      have HU : Hid (placeIs ns parent name k = (((ns[k]).parent == parent) && ((ns[k]).name == name))) := by apply hide; unfold placeIs; rw [ndAt_get _ _ hlt]
      clear hao
      cases hq : ((ns[k]).parent == parent)
      · have HN2 := hide (noIn_succ (unhide HN) (by rw [unhide HU, hq]; rfl))
        go_wp2
        go_round
        case rel => exact ⟨k + 1, by omega, by go_num, HN2⟩
        case measure => simp [intOf]; omega
      · cases hq2 : ((ns[k]).name == name)
        · have HN2 := hide (noIn_succ (unhide HN) (by rw [unhide HU, hq, hq2]; rfl))
          have hne2 : ((bs (ns[k]).name).toList == (bs name).toList) = false := by rw [names_eq]; exact hq2
          clear hq2
          go_wp2
          go_round
          case rel => exact ⟨k + 1, by omega, by go_num, HN2⟩
          case measure => simp [intOf]; omega
        · have HS : Hid (takenR ns parent name = (ns[k]).id) := by
            apply hide
            have e : takenN ns parent name = k := scan_hit (by omega) hlt (by rw [unhide HU, hq, hq2]; rfl) (unhide HN)
            unfold takenR; rw [e, if_pos hlt, ndAt_get _ _ hlt]
          have hne2 : ((bs (ns[k]).name).toList == (bs name).toList) = true := by rw [names_eq]; exact hq2
          clear hq2
          go_wp2
          go_ret
          exact ⟨ret_int (unhide HS).symm, rfl⟩
    · have HS : Hid (takenR ns parent name = 0) := by
        apply hide
        have e : takenN ns parent name = ns.length := scan_none (fun j h1 h2 => unhide HN j h1 (by omega))
        unfold takenR; rw [e, if_neg (by omega)]
      go_wp2
      go_ret
      exact ⟨ret_int (unhide HS).symm, rfl⟩
end Go.Proofs.YtkahmbpggdneoaaGreatDoor
