import Derived.Test.YtkjancfakplogaaGreatDoorW4
import Derived.Test.YtkjancfakplogaaGreatDoorPure3
namespace Go.Proofs.YtkjancfakplogaaGreatDoor
open Go.RowKit
/-! The tree in memory. -/
def treeCells (t : Tr) : List Value := (List.range 100).map (fun i => .bool (t i).isSome) ++ ndCells ((List.range 100).map fun i => (t i).getD nd0)
theorem treeCells_length (t : Tr) : (treeCells t).length = 400 := by simp [treeCells, ndCells_length]
theorem treeCells_here (t : Tr) (i : Nat) (h : i < 100) : (treeCells t)[i]? = some (.bool (t i).isSome) := by
  unfold treeCells; rw [List.getElem?_append_left (by simpa using h)]; simp [h]
theorem treeCells_node (t : Tr) (i : Nat) (h : i < 100) : (treeCells t)[100 + i * 3]? = some (.int .i64 ((t i).getD nd0).id) ∧ (treeCells t)[100 + i * 3 + 1]? = some (.int .i64 ((t i).getD nd0).parent) ∧ (treeCells t)[100 + i * 3 + 2]? = some (.string (bs ((t i).getD nd0).name)) := by
  have := ndCells_get ((List.range 100).map fun i => (t i).getD nd0) i (by simpa using h)
  simp only [List.getElem_map, List.getElem_range] at this
  unfold treeCells
  refine ⟨?_, ?_, ?_⟩
  · rw [List.getElem?_append_right (by rw [List.length_map, List.length_range]; omega)]; simpa [Nat.add_sub_cancel_left] using this.1
  · rw [List.getElem?_append_right (by rw [List.length_map, List.length_range]; omega)]; simpa [Nat.add_assoc, Nat.add_sub_cancel_left] using this.2.1
  · rw [List.getElem?_append_right (by rw [List.length_map, List.length_range]; omega)]; simpa [Nat.add_assoc, Nat.add_sub_cancel_left] using this.2.2
/-- What lies behind the tree in its block, and the block's type. -/
structure Ext where
  rest : List Value
  ty : TypeId
def ext0 : Ext := ⟨[], 88⟩
def TreeAt (x : Ext) (w : World) (b : Nat) (t : Tr) : Prop := w.heap[b]? = some (.cells (treeCells t ++ x.rest).toArray x.ty (0, 0))
theorem TreeAt.cell {x : Ext} {w : World} {b : Nat} {t : Tr} (h : TreeAt x w b t) (j : Nat) (hj : j < 400 := by omega) : w.cell? ⟨b, j, none⟩ = (treeCells t)[j]? := by
  rw [cell_of_row w b j _ _ (0, 0) h]; simp only [List.getElem?_toArray]; rw [List.getElem?_append_left (by rw [treeCells_length]; exact hj)]
theorem TreeAt.here {x : Ext} {w : World} {b : Nat} {t : Tr} (h : TreeAt x w b t) (i : Nat) (hi : i < 100) : w.cell? ⟨b, i, none⟩ = some (.bool (t i).isSome) := by rw [h.cell i, treeCells_here t i hi]
theorem TreeAt.lt {x : Ext} {w : World} {b : Nat} {t : Tr} (h : TreeAt x w b t) : b < w.heap.size := lt_of_block h
theorem TreeAt.below {x : Ext} {w w' : World} {b : Nat} {t : Tr} (h : TreeAt x w b t) (hb : Below w.heap.size w w') : TreeAt x w' b t := by
  unfold TreeAt; rw [hb.block b h.lt]; exact h
theorem TreeAt.drewN {x : Ext} {w : World} {b : Nat} {t : Tr} (h : TreeAt x w b t) (n : Nat) : TreeAt x (w.drewN n) b t := h
set_option maxHeartbeats 400000 in
theorem has_nat {x : Ext} (t : Tr) (b m : Nat) (w : World) (ht : TrOk t) (hm : m ≤ 99) (hT : TreeAt x w b t) :
    Calls Tryz.prog 112 #[.pointer (some ⟨b, 0, none⟩), .int .i64 m] w fun e w' => e = .returned (.bool (t m).isSome) ∧ w' = w := by
  have hcell := hT.here m (by omega)
  have HT0 := hide ht.1
  clear hT ht
  by_cases h1 : 1 ≤ m
  · go_enter Tryz.func112, Tryz.ntmps112
    go_wp2
    go_ret
    exact ⟨rfl, rfl⟩
  · have hm0 : m = 0 := by omega
    subst hm0
    go_enter Tryz.func112, Tryz.ntmps112
    go_wp2
    go_ret
    exact ⟨by rw [unhide HT0]; rfl, rfl⟩
theorem has_any {x : Ext} (t : Tr) (b : Nat) (id : Int) (w : World) (ht : TrOk t) (h0 : 0 ≤ id) (h1 : id ≤ 99) (hT : TreeAt x w b t) :
    Calls Tryz.prog 112 #[.pointer (some ⟨b, 0, none⟩), .int .i64 id] w fun e w' => e = .returned (.bool (hasT t id)) ∧ w' = w := by
  obtain ⟨m, rfl⟩ := Int.eq_ofNat_of_zero_le h0
  exact has_nat t b m w ht (by omega) hT
set_option maxHeartbeats 400000 in
theorem isParent_any {x : Ext} (t : Tr) (b : Nat) (id : Int) (w : World) (ht : TrOk t) (h0 : 0 ≤ id) (h1 : id ≤ 99) (hT : TreeAt x w b t) :
    Calls Tryz.prog 116 #[.pointer (some ⟨b, 0, none⟩), .int .i64 id] w fun e w' => e = .returned (.bool (isParentT t id)) ∧ w' = w := by
  have HH := hide (has_any t b id w ht h0 h1 hT)
  have HF := hide (isFolder_any id w h0 (by omega))
  have HP : Hid (isParentT t id = (id == 0 || (id % 2 == 0 && hasT t id))) := hide rfl
  clear ht hT
  generalize hasT t id = r at *
  by_cases hz : id = 0
  · subst hz
    go_enter Tryz.func116, Tryz.ntmps116
    go_wp2
    go_ret
    exact ⟨ret_bool (by rw [unhide HP]; rfl), rfl⟩
  · have hz' : (id == 0) = false := by simpa using hz
    by_cases he : id % 2 = 0
    · have he' : (id % 2 == 0) = true := by simpa using he
      have HE := hide he; clear he
      have HZ := hide hz'
      rw [he'] at HF
      go_enter Tryz.func116, Tryz.ntmps116
      go_wp2_with (first | (go_at_call 124; refine (unhide HF).mono ?_; rintro e w' ⟨rfl, rfl⟩) | (go_at_call 112; refine (unhide HH).mono ?_; rintro e w' ⟨rfl, rfl⟩))
      go_ret
      exact ⟨ret_bool (by rw [unhide HP, unhide HZ, show (id % 2 == 0) = true by simpa using unhide HE]; rfl), rfl⟩
    · have he' : (id % 2 == 0) = false := by simpa using he
      have HE := hide he; clear he
      have HZ := hide hz'
      rw [he'] at HF
      go_enter Tryz.func116, Tryz.ntmps116
      go_wp2_with (first | (go_at_call 124; refine (unhide HF).mono ?_; rintro e w' ⟨rfl, rfl⟩) | (go_at_call 112; refine (unhide HH).mono ?_; rintro e w' ⟨rfl, rfl⟩))
      go_ret
      exact ⟨ret_bool (by rw [unhide HP, unhide HZ, show (id % 2 == 0) = false by simpa using unhide HE]; rfl), rfl⟩
theorem meetsF_hit (t : Tr) (f : Nat) (id : Int) : meetsF t (f + 1) id id = true := by simp [meetsF]
theorem meetsF_none {t : Tr} {f : Nat} {id goal : Int} (h : ¬ id = goal) (hn : t id.toNat = none) : meetsF t (f + 1) id goal = false := by simp [meetsF, h, hn]
theorem meetsF_some {t : Tr} {f : Nat} {id goal : Int} {n : Nd} (h : ¬ id = goal) (hn : t id.toNat = some n) : meetsF t (f + 1) id goal = meetsF t f n.parent goal := by simp [meetsF, h, hn]
set_option maxHeartbeats 1000000 in
theorem meets_any {x : Ext} (t : Tr) (b : Nat) (id goal : Int) (w : World) (ht : TrOk t) (h0 : 0 ≤ id) (h1 : id ≤ 99) (hT : TreeAt x w b t) :
    Calls Tryz.prog 87 #[.pointer (some ⟨b, 0, none⟩), .int .i64 id, .int .i64 goal] w fun e w' => e = .returned (.bool (meetsT t id goal)) ∧ w' = w := by
  have HO := hide ht
  have HT := hide hT
  clear ht hT
  have HM : Hid (meetsT t id goal = meetsF t 100 id goal) := hide rfl
  generalize meetsT t id goal = M at *
  go_enter Tryz.func87, Tryz.ntmps87
  go_wp2
  go_loop [7, 8] (fun d i => ∃ k : Nat, ∃ m : Int, k ≤ 100 ∧ i = .int .i64 k ∧ d = .int .i64 m ∧ 0 ≤ m ∧ m ≤ 99 ∧ Hid (M = meetsF t (100 - k) m goal)) (fun _ i => 101 - (intOf i).toNat)
  case atStart => exact ⟨0, id, by omega, rfl, rfl, h0, h1, HM⟩
  case round =>
    obtain ⟨k, m, hk, rfl, rfl, hm0, hm1, HI⟩ := hrel
    by_cases hlt : k ≤ 99
    · have hf : 100 - k = (99 - k) + 1 := by omega
      have HI2 : Hid (M = meetsF t ((99 - k) + 1) m goal) := by apply hide; rw [← hf]; exact unhide HI
      clear hf HI HM
      by_cases hg : m = goal
      · subst hg
        have hM := unhide HI2
        rw [meetsF_hit] at hM
        have HMt := hide hM; clear hM
        go_wp2
        go_ret
        exact ⟨ret_bool (unhide HMt).symm, rfl⟩
      · have hg' : (m == goal) = false := by simpa using hg
        obtain ⟨mn, rfl⟩ := Int.eq_ofNat_of_zero_le hm0
        have HH := hide (has_nat t b mn w (unhide HO) (by omega) (unhide HT))
        cases hn : t mn with
        | none =>
          have HMf := hide ((unhide HI2).trans (meetsF_none hg (by simpa using hn)))
          rw [hn] at HH
          clear hn
          go_wp2_with (go_at_call 112; refine (unhide HH).mono ?_; rintro e w' ⟨rfl, rfl⟩)
          go_ret
          exact ⟨ret_bool (unhide HMf).symm, rfl⟩
        | some n =>
          have HMf := hide ((unhide HI2).trans (meetsF_some hg (by simpa using hn)))
          have hb := (unhide HO).2 mn n hn
          have hcell := (unhide HT).cell (100 + mn * 3 + 1)
          rw [(treeCells_node t mn (by omega)).2.1, hn] at hcell
          rw [hn] at HH
          have hp0 : 0 ≤ n.parent := hb.2.2.2.1
          have hp1 : n.parent ≤ 99 := hb.2.2.2.2.1
          clear hn hb
          go_wp2_with (go_at_call 112; refine (unhide HH).mono ?_; rintro e w' ⟨rfl, rfl⟩)
          go_round
          case rel => exact ⟨k + 1, n.parent, by omega, by go_num, rfl, hp0, hp1, by apply hide; rw [show 100 - (k + 1) = 99 - k by omega]; exact unhide HMf⟩
          case measure => simp [intOf]; omega
    · have HMf : Hid (M = false) := by apply hide; rw [unhide HI, show 100 - k = 0 by omega]; rfl
      go_wp2
      go_ret
      exact ⟨ret_bool (unhide HMf).symm, rfl⟩
/-- put -/
theorem treeCells_put (t : Tr) (n : Nd) (m : Nat) (hm : n.id = m) (h : m < 100) :
    ((((treeCells t).set m (.bool true)).set (100 + m * 3) (.int .i64 n.id)).set (100 + m * 3 + 1) (.int .i64 n.parent)).set (100 + m * 3 + 2) (.string (bs n.name)) = treeCells (trPut t n) := by
  apply List.ext_getElem?
  intro j
  simp only [List.getElem?_set, List.length_set, treeCells_length]
  by_cases hj : j < 100
  · rw [treeCells_here _ j hj, treeCells_here _ j hj]
    rw [if_neg (by omega), if_neg (by omega), if_neg (by omega)]
    unfold trPut
    by_cases e : m = j
    · subst e; rw [if_pos rfl, if_pos (by omega), if_pos (by omega)]; rfl
    · rw [if_neg e, if_neg (by omega)]
  · by_cases hj4 : j < 400
    · obtain ⟨i, r, hi, hr, rfl⟩ : ∃ i r, i < 100 ∧ r < 3 ∧ j = 100 + i * 3 + r := ⟨(j - 100) / 3, (j - 100) % 3, by omega, by omega, by omega⟩
      have ht := treeCells_node t i hi
      have hp := treeCells_node (trPut t n) i hi
      by_cases e : m = i
      · subst e
        have e1 : trPut t n m = some n := by unfold trPut; rw [if_pos hm.symm]
        rw [e1] at hp
        match r, hr with
        | 0, _ => rw [if_neg (by omega), if_neg (by omega), if_pos (by omega), if_pos (by omega)]; simpa using hp.1.symm
        | 1, _ => rw [if_neg (by omega), if_pos (by omega), if_pos (by omega)]; simpa using hp.2.1.symm
        | 2, _ => rw [if_pos (by omega), if_pos (by omega)]; simpa using hp.2.2.symm
      · have e1 : trPut t n i = t i := by unfold trPut; rw [if_neg (by omega)]
        rw [e1] at hp
        rw [if_neg (by omega), if_neg (by omega), if_neg (by omega), if_neg (by omega)]
        match r, hr with
        | 0, _ => exact ht.1.trans hp.1.symm
        | 1, _ => exact ht.2.1.trans hp.2.1.symm
        | 2, _ => exact ht.2.2.trans hp.2.2.symm
    · rw [if_neg (by omega), if_neg (by omega), if_neg (by omega), if_neg (by omega), List.getElem?_eq_none (by rw [treeCells_length]; omega), List.getElem?_eq_none (by rw [treeCells_length]; omega)]
end Go.Proofs.YtkjancfakplogaaGreatDoor
