import Derived.Test.YtkjancfakplogaaGreatDoorW6
namespace Go.Proofs.YtkjancfakplogaaGreatDoor
open Go.RowKit
def NoIn (p : Nat → Bool) (lo k : Nat) : Prop := ∀ j, lo ≤ j → j < k → p j = false
theorem noIn_succ {p : Nat → Bool} {lo k : Nat} (h : NoIn p lo k) (hp : p k = false) : NoIn p lo (k + 1) := by
  intro j h1 h2
  by_cases e : j = k
  · subst e; exact hp
  · exact h j h1 (by omega)
theorem drew2 (w : World) (a b : Nat) : ∃ n, (w.drewN a).drewN b = w.drewN n := ⟨a + b, by simp [World.drewN, Nat.add_assoc]⟩
set_option maxHeartbeats 1000000 in
theorem unordered_any (ns : List Nd) (ao : Option Addr) (cap : Nat) (w : World) (hrow : Row w ao ns.length 3 (ndCells ns)) (hl : ns.length ≤ 4000) :
    Calls Tryz.prog 67 #[.slice ao ns.length cap] w fun e w' => e = .returned (.int .i64 (scan (unordered ns) 1 ns.length)) ∧ ∃ n, w' = w.drewN n := by
  have HROW := hide hrow; clear hrow
  go_enter Tryz.func67, Tryz.ntmps67
  go_wp2
  go_loopw [3] (fun i wr => ∃ k nq : Nat, 1 ≤ k ∧ (k ≤ ns.length ∨ k = 1) ∧ i = .int .i64 k ∧ wr = w.drewN nq ∧ Hid (NoIn (unordered ns) 1 k)) (fun i _ => ns.length - (intOf i).toNat)
  case atStart => exact ⟨1, 0, Nat.le_refl _, .inr rfl, rfl, rfl, hide (fun j h1 h2 => by omega)⟩
  case round =>
    obtain ⟨k, nq, hk1, hk, rfl, rfl, HN⟩ := hrel
    by_cases hlt : k < ns.length
    · obtain ⟨j, rfl⟩ : ∃ j, k = j + 1 := ⟨k - 1, by omega⟩
      have HB := hide (Below.refl w.heap.size w)
      obtain ⟨g, hao, hg, c0, _, _⟩ := nd_cells (unhide HROW) (unhide HB) hlt
      obtain ⟨g', hao', _, d0, _, _⟩ := nd_cells (unhide HROW) (unhide HB) (show j < ns.length by omega)
      rw [hao] at hao'
      have hgg : g = g' := by cases hao'; rfl
      subst hgg
      rw [hao]
      have HU : Hid (unordered ns (j + 1) = decide ((ns[j + 1]).id ≤ (ns[j]).id)) := by
        apply hide; unfold unordered; rw [ndAt_get _ _ hlt, show j + 1 - 1 = j from rfl, ndAt_get _ _ (by omega)]
      clear hao hao' HB
      have hj0 : (0 : Int) ≤ j := by omega
      have hj1 : (j : Int) + 1 < ns.length := by omega
      have hj2 : (j : Int) < ns.length := by omega
      have hj3 : (0 : Int) ≤ (j : Int) + 1 := by omega
      have hj4 : ((j : Int) + 1).toNat = j + 1 := by omega
      by_cases hle : (ns[j + 1]).id ≤ (ns[j]).id
      · have HS : Hid (scan (unordered ns) 1 ns.length = j + 1) := hide (scan_hit (by omega) hlt (by rw [unhide HU]; simpa using hle) (unhide HN))
        go_wp2
        go_quiet (fail)
        go_wp2
        go_ret
        exact ⟨ret_int (by rw [unhide HS]), drew2 _ _ _⟩
      · have HN2 := hide (noIn_succ (unhide HN) (by rw [unhide HU]; simpa using hle))
        go_wp2
        go_quiet (fail)
        go_wp2
        go_roundw
        case rel => exact ⟨j + 1 + 1, _, by omega, by omega, by go_num, rfl, HN2⟩
        case measure => simp [intOf]; omega
    · have HS : Hid (scan (unordered ns) 1 ns.length = ns.length) := hide (scan_none (fun j h1 h2 => unhide HN j h1 (by omega)))
      go_wp2
      go_ret
      exact ⟨ret_int (by rw [unhide HS]), _, rfl⟩
set_option maxHeartbeats 1000000 in
theorem orphan_any {x : Ext} (t : Tr) (b : Nat) (ns : List Nd) (ao : Option Addr) (cap : Nat) (w : World) (ht : TrOk t) (hT : TreeAt x w b t) (hrow : Row w ao ns.length 3 (ndCells ns)) (hn : ∀ n ∈ ns, 0 ≤ n.parent ∧ n.parent ≤ 99) (hl : ns.length ≤ 4000) :
    Calls Tryz.prog 92 #[.pointer (some ⟨b, 0, none⟩), .slice ao ns.length cap] w fun e w' => e = .returned (.int .i64 (scan (orphan t ns) 0 ns.length)) ∧ Below w.heap.size w w' := by
  have HROW := hide hrow; clear hrow
  have HT := hide hT; clear hT
  have HO := hide ht; clear ht
  have HNB := hide hn; clear hn
  go_enter Tryz.func92, Tryz.ntmps92
  go_wp2
  go_loopw [9] (fun i wr => ∃ k : Nat, k ≤ ns.length ∧ i = .int .i64 k ∧ Below w.heap.size w wr ∧ Hid (NoIn (orphan t ns) 0 k)) (fun i _ => ns.length - (intOf i).toNat)
  case atStart => exact ⟨0, Nat.zero_le _, rfl, Below.refl _ _, hide (fun j h1 h2 => by omega)⟩
  case round =>
    obtain ⟨k, hk, rfl, hbel, HN⟩ := hrel
    by_cases hlt : k < ns.length
    · obtain ⟨g, hao, hg, c0, c1, c2⟩ := nd_cells (unhide HROW) hbel hlt
      rw [hao]
      have hp := unhide HNB _ (List.getElem_mem hlt)
      have HU : Hid (orphan t ns k = !isParentT t (ns[k]).parent) := by apply hide; unfold orphan; rw [ndAt_get _ _ hlt]
      have hsz := hbel.size
      have HB1 := hide (hbel.alloc hsz (.cells #[.int .i64 (ns[k]).id, .int .i64 (ns[k]).parent, .string (bs (ns[k]).name)] 85))
      have HP := hide (isParent_any t b (ns[k]).parent _ (unhide HO) hp.1 hp.2 ((unhide HT).below (unhide HB1)))
      clear hao hbel
      generalize ns[k] = nd at *
      cases hq : isParentT t nd.parent
      · have HS : Hid (scan (orphan t ns) 0 ns.length = k) := hide (scan_hit (by omega) hlt (by rw [unhide HU, hq]; rfl) (unhide HN))
        rw [hq] at HP
        clear hq
        go_wp2_with fail
        refine (unhide HP).mono ?_
        rintro e w2 ⟨rfl, rfl⟩
        go_wp2
        go_ret
        exact ⟨ret_int (by rw [unhide HS]), unhide HB1⟩
      · have HN2 := hide (noIn_succ (unhide HN) (by rw [unhide HU, hq]; rfl))
        rw [hq] at HP
        clear hq
        go_wp2_with fail
        refine (unhide HP).mono ?_
        rintro e w2 ⟨rfl, rfl⟩
        go_wp2
        go_roundw
        case rel => exact ⟨k + 1, by omega, by go_num, unhide HB1, HN2⟩
        case measure => simp [intOf]; omega
    · have HS : Hid (scan (orphan t ns) 0 ns.length = ns.length) := hide (scan_none (fun j h1 h2 => unhide HN j h1 (by omega)))
      go_wp2
      go_ret
      exact ⟨ret_int (by rw [unhide HS]), hbel⟩
set_option maxHeartbeats 1000000 in
theorem looped_any {x : Ext} (t : Tr) (b : Nat) (ns : List Nd) (ao : Option Addr) (cap : Nat) (w : World) (ht : TrOk t) (hT : TreeAt x w b t) (hrow : Row w ao ns.length 3 (ndCells ns)) (hn : ∀ n ∈ ns, 0 ≤ n.id ∧ n.id ≤ 99) (hl : ns.length ≤ 4000) :
    Calls Tryz.prog 93 #[.pointer (some ⟨b, 0, none⟩), .slice ao ns.length cap] w fun e w' => e = .returned (.int .i64 (scan (looped t ns) 0 ns.length)) ∧ Below w.heap.size w w' := by
  have HROW := hide hrow; clear hrow
  have HT := hide hT; clear hT
  have HO := hide ht; clear ht
  have HNB := hide hn; clear hn
  go_enter Tryz.func93, Tryz.ntmps93
  go_wp2
  go_loopw [9] (fun i wr => ∃ k : Nat, k ≤ ns.length ∧ i = .int .i64 k ∧ Below w.heap.size w wr ∧ Hid (NoIn (looped t ns) 0 k)) (fun i _ => ns.length - (intOf i).toNat)
  case atStart => exact ⟨0, Nat.zero_le _, rfl, Below.refl _ _, hide (fun j h1 h2 => by omega)⟩
  case round =>
    obtain ⟨k, hk, rfl, hbel, HN⟩ := hrel
    by_cases hlt : k < ns.length
    · obtain ⟨g, hao, hg, c0, c1, c2⟩ := nd_cells (unhide HROW) hbel hlt
      rw [hao]
      have hp := unhide HNB _ (List.getElem_mem hlt)
      have HU : Hid (looped t ns k = !meetsT t (ns[k]).id 0) := by apply hide; unfold looped; rw [ndAt_get _ _ hlt]
      have hsz := hbel.size
      have HB1 := hide (hbel.alloc hsz (.cells #[.int .i64 (ns[k]).id, .int .i64 (ns[k]).parent, .string (bs (ns[k]).name)] 85))
      have HP := hide (meets_any t b (ns[k]).id 0 _ (unhide HO) hp.1 hp.2 ((unhide HT).below (unhide HB1)))
      clear hao hbel
      generalize ns[k] = nd at *
      cases hq : meetsT t nd.id 0
      · have HS : Hid (scan (looped t ns) 0 ns.length = k) := hide (scan_hit (by omega) hlt (by rw [unhide HU, hq]; rfl) (unhide HN))
        rw [hq] at HP
        clear hq
        go_wp2_with fail
        refine (unhide HP).mono ?_
        rintro e w2 ⟨rfl, rfl⟩
        go_wp2
        go_ret
        exact ⟨ret_int (by rw [unhide HS]), unhide HB1⟩
      · have HN2 := hide (noIn_succ (unhide HN) (by rw [unhide HU, hq]; rfl))
        rw [hq] at HP
        clear hq
        go_wp2_with fail
        refine (unhide HP).mono ?_
        rintro e w2 ⟨rfl, rfl⟩
        go_wp2
        go_roundw
        case rel => exact ⟨k + 1, by omega, by go_num, unhide HB1, HN2⟩
        case measure => simp [intOf]; omega
    · have HS : Hid (scan (looped t ns) 0 ns.length = ns.length) := hide (scan_none (fun j h1 h2 => unhide HN j h1 (by omega)))
      go_wp2
      go_ret
      exact ⟨ret_int (by rw [unhide HS]), hbel⟩
end Go.Proofs.YtkjancfakplogaaGreatDoor
