import Derived.Test.YtkjancfakplogaaGreatDoorW10
import Derived.Test.YtkjancfakplogaaGreatDoorPure4
namespace Go.Proofs.YtkjancfakplogaaGreatDoor
open Go.RowKit
theorem TreeAt.parent {x : Ext} {w : World} {b : Nat} {t : Tr} (h : TreeAt x w b t) (i : Nat) (hi : i < 100) : w.cell? ⟨b, 100 + i * 3 + 1, none⟩ = some (.int .i64 ((t i).getD nd0).parent) := by rw [h.cell (100 + i * 3 + 1), (treeCells_node t i hi).2.1]
theorem TreeAt.name {x : Ext} {w : World} {b : Nat} {t : Tr} (h : TreeAt x w b t) (i : Nat) (hi : i < 100) : w.cell? ⟨b, 100 + i * 3 + 2, none⟩ = some (.string (bs ((t i).getD nd0).name)) := by rw [h.cell (100 + i * 3 + 2), (treeCells_node t i hi).2.2]
theorem TreeAt.id {x : Ext} {w : World} {b : Nat} {t : Tr} (h : TreeAt x w b t) (i : Nat) (hi : i < 100) : w.cell? ⟨b, 100 + i * 3, none⟩ = some (.int .i64 ((t i).getD nd0).id) := by rw [h.cell (100 + i * 3), (treeCells_node t i hi).1]
set_option maxHeartbeats 1000000 in
theorem at_any {x : Ext} (t : Tr) (b : Nat) (parent : Int) (name : Str) (w : World) (hT : TreeAt x w b t) :
    Calls Tryz.prog 114 #[.pointer (some ⟨b, 0, none⟩), .int .i64 parent, .string (bs name)] w fun e w' => e = .returned (.int .i64 (atT t parent name)) ∧ w' = w := by
  have HT := hide hT; clear hT
  go_enter Tryz.func114, Tryz.ntmps114
  go_wp2
  go_loop [7] (fun i => ∃ k : Nat, 1 ≤ k ∧ k ≤ 100 ∧ i = .int .i64 k ∧ Hid (NoIn (spotIs t parent name) 1 k)) (fun i => 101 - (intOf i).toNat)
  case atStart => exact ⟨1, by omega, by omega, rfl, hide (fun j h1 h2 => by omega)⟩
  case round =>
    obtain ⟨k, hk1, hk, rfl, HN⟩ := hrel
    by_cases hlt : k ≤ 99
    · have c0 := (unhide HT).here k (by omega)
      have c1 := (unhide HT).parent k (by omega)
      have c2 := (unhide HT).name k (by omega)
      have HU : Hid (spotIs t parent name k = match t k with | none => false | some n => n.parent == parent && n.name == name) := hide rfl
      cases hq : t k with
      | none =>
        have HN2 := hide (noIn_succ (unhide HN) (by rw [unhide HU, hq]))
        rw [hq] at c0 c1 c2
        clear hq
        go_wp2
        go_round
        case rel => exact ⟨k + 1, by omega, by omega, by go_num, HN2⟩
        case measure => simp [intOf]; omega
      | some n =>
        have HU2 : Hid (spotIs t parent name k = (n.parent == parent && n.name == name)) := by apply hide; rw [unhide HU, hq]
        rw [hq] at c0 c1 c2
        clear hq HU
        cases hp : (n.parent == parent)
        · have HN2 := hide (noIn_succ (unhide HN) (by rw [unhide HU2, hp]; rfl))
          go_wp2
          go_round
          case rel => exact ⟨k + 1, by omega, by omega, by go_num, HN2⟩
          case measure => simp [intOf]; omega
        · cases hn : (n.name == name)
          · have HN2 := hide (noIn_succ (unhide HN) (by rw [unhide HU2, hp, hn]; rfl))
            have hn2 : ((bs n.name).toList == (bs name).toList) = false := by rw [names_eq]; exact hn
            clear hn
            go_wp2
            go_round
            case rel => exact ⟨k + 1, by omega, by omega, by go_num, HN2⟩
            case measure => simp [intOf]; omega
          · have HS : Hid (atT t parent name = k) := by
              apply hide
              have e : scan (spotIs t parent name) 1 100 = k := scan_hit hk1 (by omega) (by rw [unhide HU2, hp, hn]; rfl) (unhide HN)
              unfold atT; rw [e, if_pos (by omega)]
            have hn2 : ((bs n.name).toList == (bs name).toList) = true := by rw [names_eq]; exact hn
            clear hn
            go_wp2
            go_ret
            exact ⟨ret_int (unhide HS).symm, rfl⟩
    · have HS : Hid (atT t parent name = 0) := by
        apply hide
        have e : scan (spotIs t parent name) 1 100 = 100 := scan_none (fun j h1 h2 => unhide HN j h1 (by omega))
        unfold atT; rw [e, if_neg (by omega)]
      go_wp2
      go_ret
      exact ⟨ret_int (unhide HS).symm, rfl⟩
set_option maxHeartbeats 1000000 in
theorem kid_any {x : Ext} (t : Tr) (b : Nat) (id : Int) (w : World) (hT : TreeAt x w b t) :
    Calls Tryz.prog 117 #[.pointer (some ⟨b, 0, none⟩), .int .i64 id] w fun e w' => e = .returned (.int .i64 (kidT t id)) ∧ w' = w := by
  have HT := hide hT; clear hT
  go_enter Tryz.func117, Tryz.ntmps117
  go_wp2
  go_loop [5] (fun i => ∃ k : Nat, 1 ≤ k ∧ k ≤ 100 ∧ i = .int .i64 k ∧ Hid (NoIn (kidIs t id) 1 k)) (fun i => 101 - (intOf i).toNat)
  case atStart => exact ⟨1, by omega, by omega, rfl, hide (fun j h1 h2 => by omega)⟩
  case round =>
    obtain ⟨k, hk1, hk, rfl, HN⟩ := hrel
    by_cases hlt : k ≤ 99
    · have c0 := (unhide HT).here k (by omega)
      have c1 := (unhide HT).parent k (by omega)
      have HU : Hid (kidIs t id k = match t k with | none => false | some n => n.parent == id) := hide rfl
      cases hq : t k with
      | none =>
        have HN2 := hide (noIn_succ (unhide HN) (by rw [unhide HU, hq]))
        rw [hq] at c0 c1
        clear hq
        go_wp2
        go_round
        case rel => exact ⟨k + 1, by omega, by omega, by go_num, HN2⟩
        case measure => simp [intOf]; omega
      | some n =>
        have HU2 : Hid (kidIs t id k = (n.parent == id)) := by apply hide; rw [unhide HU, hq]
        rw [hq] at c0 c1
        clear hq HU
        cases hp : (n.parent == id)
        · have HN2 := hide (noIn_succ (unhide HN) (by rw [unhide HU2, hp]))
          go_wp2
          go_round
          case rel => exact ⟨k + 1, by omega, by omega, by go_num, HN2⟩
          case measure => simp [intOf]; omega
        · have HS : Hid (kidT t id = k) := by
            apply hide
            have e : scan (kidIs t id) 1 100 = k := scan_hit hk1 (by omega) (by rw [unhide HU2, hp]) (unhide HN)
            unfold kidT; rw [e, if_pos (by omega)]
          go_wp2
          go_ret
          exact ⟨ret_int (unhide HS).symm, rfl⟩
    · have HS : Hid (kidT t id = 0) := by
        apply hide
        have e : scan (kidIs t id) 1 100 = 100 := scan_none (fun j h1 h2 => unhide HN j h1 (by omega))
        unfold kidT; rw [e, if_neg (by omega)]
      go_wp2
      go_ret
      exact ⟨ret_int (unhide HS).symm, rfl⟩
theorem treeCells_remove (t : Tr) (m : Nat) (h : m < 100) :
    ((((treeCells t).set m (.bool false)).set (100 + m * 3) (.int .i64 0)).set (100 + m * 3 + 1) (.int .i64 0)).set (100 + m * 3 + 2) (.string ⟨#[]⟩) = treeCells (trRemove t m) := by
  apply List.ext_getElem?
  intro j
  simp only [List.getElem?_set, List.length_set, treeCells_length]
  by_cases hj : j < 100
  · rw [treeCells_here _ j hj, treeCells_here _ j hj]
    rw [if_neg (by omega), if_neg (by omega), if_neg (by omega)]
    unfold trRemove
    by_cases e : m = j
    · subst e; rw [if_pos rfl, if_pos (by omega), if_pos (by omega)]; rfl
    · rw [if_neg e, if_neg (by omega)]
  · by_cases hj4 : j < 400
    · obtain ⟨i, r, hi, hr, rfl⟩ : ∃ i r, i < 100 ∧ r < 3 ∧ j = 100 + i * 3 + r := ⟨(j - 100) / 3, (j - 100) % 3, by omega, by omega, by omega⟩
      have ht := treeCells_node t i hi
      have hp := treeCells_node (trRemove t m) i hi
      by_cases e : m = i
      · subst e
        have e1 : trRemove t m m = none := by unfold trRemove; rw [if_pos rfl]
        rw [e1] at hp
        match r, hr with
        | 0, _ => rw [if_neg (by omega), if_neg (by omega), if_pos (by omega), if_pos (by omega)]; exact hp.1.symm
        | 1, _ => rw [if_neg (by omega), if_pos (by omega), if_pos (by omega)]; exact hp.2.1.symm
        | 2, _ => rw [if_pos (by omega), if_pos (by omega)]; exact hp.2.2.symm
      · have e1 : trRemove t m i = t i := by unfold trRemove; rw [if_neg (by omega)]
        rw [e1] at hp
        rw [if_neg (by omega), if_neg (by omega), if_neg (by omega), if_neg (by omega)]
        match r, hr with
        | 0, _ => exact ht.1.trans hp.1.symm
        | 1, _ => exact ht.2.1.trans hp.2.1.symm
        | 2, _ => exact ht.2.2.trans hp.2.2.symm
    · rw [if_neg (by omega), if_neg (by omega), if_neg (by omega), if_neg (by omega), List.getElem?_eq_none (by rw [treeCells_length]; omega), List.getElem?_eq_none (by rw [treeCells_length]; omega)]
theorem remove_world {x : Ext} {w : World} {t : Tr} {b m : Nat} (hm : m ≤ 99) (hT : TreeAt x w b t) :
    TreeAt x ((((w.setCell ⟨b, m, none⟩ (.bool false)).setCell ⟨b, 100 + m * 3, none⟩ (.int .i64 0)).setCell ⟨b, 100 + m * 3 + 1, none⟩ (.int .i64 0)).setCell ⟨b, 100 + m * 3 + 2, none⟩ (.string ⟨#[]⟩)) b (trRemove t m) ∧
    w.grownBy ((((w.setCell ⟨b, m, none⟩ (.bool false)).setCell ⟨b, 100 + m * 3, none⟩ (.int .i64 0)).setCell ⟨b, 100 + m * 3 + 1, none⟩ (.int .i64 0)).setCell ⟨b, 100 + m * 3 + 2, none⟩ (.string ⟨#[]⟩)) (some b) := by
  constructor
  · unfold TreeAt
    rw [← treeCells_remove t m (by omega)]
    have hl := treeCells_length t
    exact TreeAt.set (by simp only [List.length_set]; omega) (TreeAt.set (by simp only [List.length_set]; omega) (TreeAt.set (by simp only [List.length_set]; omega) (TreeAt.set (by omega) hT)))
  · refine ⟨rfl, rfl, rfl, by simp, fun k hk hne => ?_⟩
    have hne' : k ≠ b := fun e => hne (by rw [e])
    rw [heap_setCell_other _ _ _ _ hne', heap_setCell_other _ _ _ _ hne', heap_setCell_other _ _ _ _ hne', heap_setCell_other _ _ _ _ hne']
set_option maxHeartbeats 1000000 in
theorem remove_nat {x : Ext} (t : Tr) (b m : Nat) (w : World) (ht : TrOk t) (hm : m ≤ 99) (hT : TreeAt x w b t) (hh : (t m).isSome = true) :
    Calls Tryz.prog 118 #[.pointer (some ⟨b, 0, none⟩), .int .i64 m] w fun e w' => e = .returned (.tuple #[]) ∧ TreeAt x w' b (trRemove t m) ∧ w.grownBy w' (some b) := by
  have HH := hide (has_nat t b m w ht hm hT)
  rw [hh] at HH
  have c0 : w.cell? ⟨b, m, none⟩ = some (.bool (t m).isSome) := hT.here m (by omega)
  have c1 := hT.id m (by omega)
  have c2 := hT.parent m (by omega)
  have c3 := hT.name m (by omega)
  have f0 : ∀ j, w.frozen? ⟨b, j, none⟩ = false := hT.free
  have hm0 : (0 : Int) ≤ m := by omega
  have HT := hide hT
  clear hT ht hh
  go_enter Tryz.func118, Tryz.ntmps118
  go_wp2_with fail
  refine (unhide HH).mono ?_
  rintro e w1 ⟨rfl, rfl⟩
  go_wp2
  go_end0
  exact ⟨rfl, remove_world hm (unhide HT)⟩
end Go.Proofs.YtkjancfakplogaaGreatDoor
