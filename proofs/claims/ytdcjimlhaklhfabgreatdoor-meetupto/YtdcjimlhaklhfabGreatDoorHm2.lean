import Derived.Test.YtdcjimlhaklhfabGreatDoorHm1
import Derived.RegionTactic
import Derived.BigRegion
import Derived.Deep.MidRow
import Derived.Deep.Upon
namespace Go.Proofs.YtdcjimlhaklhfabGreatDoor
open Go.RowKit
/-! The tree in memory. -/
def treeCells (t : Tr) : List Value := (List.range 100).map (fun i => .bool (t i).isSome) ++ ndCells ((List.range 100).map fun i => (t i).getD nd0)
theorem treeCells_length (t : Tr) : (treeCells t).length = 400 := by simp [treeCells, ndCells_length]
theorem treeCells_here (t : Tr) (i : Nat) (h : i < 100) : (treeCells t)[i]? = some (.bool (t i).isSome) := by
  unfold treeCells; rw [List.getElem?_append_left (by simpa using h)]; simp [h]
theorem treeCells_node (t : Tr) (i : Nat) (h : i < 100) : (treeCells t)[100 + i * 3]? = some (.int .i64 ((t i).getD nd0).id) ∧ (treeCells t)[100 + i * 3 + 1]? = some (.int .i64 ((t i).getD nd0).parent) ∧ (treeCells t)[100 + i * 3 + 2]? = some (.string (bs ((t i).getD nd0).name)) := by
  have := ndCells_get ((List.range 100).map fun i => (t i).getD nd0) i (by simpa using h)
  simp only [List.getElem_map, List.getElem_range] at this
  unfold treeCells
  refine ⟨?_, ?_, ?_⟩
  · rw [List.getElem?_append_right (by rw [List.length_map, List.length_range]; omega)]; simpa [Nat.add_sub_cancel_left] using this.1
  · rw [List.getElem?_append_right (by rw [List.length_map, List.length_range]; omega)]; simpa [Nat.add_assoc, Nat.add_sub_cancel_left] using this.2.1
  · rw [List.getElem?_append_right (by rw [List.length_map, List.length_range]; omega)]; simpa [Nat.add_assoc, Nat.add_sub_cancel_left] using this.2.2
/-- What lies behind the tree in its block, and the block's type. -/
structure Ext where
  rest : List Value
  ty : TypeId
def ext0 : Ext := ⟨[], 78⟩
def TreeAt (x : Ext) (w : World) (b : Nat) (t : Tr) : Prop := w.heap[b]? = some (.cells (treeCells t ++ x.rest).toArray x.ty (0, 0))
theorem TreeAt.cell {x : Ext} {w : World} {b : Nat} {t : Tr} (h : TreeAt x w b t) (j : Nat) (hj : j < 400 := by omega) : w.cell? ⟨b, j, none⟩ = (treeCells t)[j]? := by
  rw [cell_of_row w b j _ _ (0, 0) h]; simp only [List.getElem?_toArray]; rw [List.getElem?_append_left (by rw [treeCells_length]; exact hj)]
theorem TreeAt.here {x : Ext} {w : World} {b : Nat} {t : Tr} (h : TreeAt x w b t) (i : Nat) (hi : i < 100) : w.cell? ⟨b, i, none⟩ = some (.bool (t i).isSome) := by rw [h.cell i, treeCells_here t i hi]
theorem TreeAt.lt {x : Ext} {w : World} {b : Nat} {t : Tr} (h : TreeAt x w b t) : b < w.heap.size := lt_of_block h
theorem TreeAt.below {x : Ext} {w w' : World} {b : Nat} {t : Tr} (h : TreeAt x w b t) (hb : Below w.heap.size w w') : TreeAt x w' b t := by
  unfold TreeAt; rw [hb.block b h.lt]; exact h
theorem TreeAt.drewN {x : Ext} {w : World} {b : Nat} {t : Tr} (h : TreeAt x w b t) (n : Nat) : TreeAt x (w.drewN n) b t := h
set_option maxHeartbeats 400000 in
theorem has_nat {x : Ext} (t : Tr) (b m : Nat) (w : World) (ht : TrOk t) (hm : m ≤ 99) (hT : TreeAt x w b t) :
    Calls Tryz.prog 97 #[.pointer (some ⟨b, 0, none⟩), .int .i64 m] w fun e w' => e = .returned (.bool (t m).isSome) ∧ w' = w := by
  have hcell := hT.here m (by omega)
  have HT0 := hide ht.1
  clear hT ht
  by_cases h1 : 1 ≤ m
  · go_enter Tryz.func97, Tryz.ntmps97
    go_wp2
    go_ret
    exact ⟨rfl, rfl⟩
  · have hm0 : m = 0 := by omega
    subst hm0
    go_enter Tryz.func97, Tryz.ntmps97
    go_wp2
    go_ret
    exact ⟨by rw [unhide HT0]; rfl, rfl⟩
theorem has_any {x : Ext} (t : Tr) (b : Nat) (id : Int) (w : World) (ht : TrOk t) (h0 : 0 ≤ id) (h1 : id ≤ 99) (hT : TreeAt x w b t) :
    Calls Tryz.prog 97 #[.pointer (some ⟨b, 0, none⟩), .int .i64 id] w fun e w' => e = .returned (.bool (hasT t id)) ∧ w' = w := by
  obtain ⟨m, rfl⟩ := Int.eq_ofNat_of_zero_le h0
  exact has_nat t b m w ht (by omega) hT
set_option maxHeartbeats 400000 in
theorem isParent_any {x : Ext} (t : Tr) (b : Nat) (id : Int) (w : World) (ht : TrOk t) (h0 : 0 ≤ id) (h1 : id ≤ 99) (hT : TreeAt x w b t) :
    Calls Tryz.prog 132 #[.pointer (some ⟨b, 0, none⟩), .int .i64 id] w fun e w' => e = .returned (.bool (isParentT t id)) ∧ w' = w := by
  have HH := hide (has_any t b id w ht h0 h1 hT)
  have HF := hide (isFolder_any id w h0 (by omega))
  have HP : Hid (isParentT t id = (id == 0 || (id % 2 == 0 && hasT t id))) := hide rfl
  clear ht hT
  generalize hasT t id = r at *
  by_cases hz : id = 0
  · subst hz
    go_enter Tryz.func132, Tryz.ntmps132
    go_wp2
    go_ret
    exact ⟨ret_bool (by rw [unhide HP]; rfl), rfl⟩
  · have hz' : (id == 0) = false := by simpa using hz
    by_cases he : id % 2 = 0
    · have he' : (id % 2 == 0) = true := by simpa using he
      have HE := hide he; clear he
      have HZ := hide hz'
      rw [he'] at HF
      go_enter Tryz.func132, Tryz.ntmps132
      go_wp2_with (first | (go_at_call 126; refine (unhide HF).mono ?_; rintro e w' ⟨rfl, rfl⟩) | (go_at_call 97; refine (unhide HH).mono ?_; rintro e w' ⟨rfl, rfl⟩))
      go_ret
      exact ⟨ret_bool (by rw [unhide HP, unhide HZ, show (id % 2 == 0) = true by simpa using unhide HE]; rfl), rfl⟩
    · have he' : (id % 2 == 0) = false := by simpa using he
      have HE := hide he; clear he
      have HZ := hide hz'
      rw [he'] at HF
      go_enter Tryz.func132, Tryz.ntmps132
      go_wp2_with (first | (go_at_call 126; refine (unhide HF).mono ?_; rintro e w' ⟨rfl, rfl⟩) | (go_at_call 97; refine (unhide HH).mono ?_; rintro e w' ⟨rfl, rfl⟩))
      go_ret
      exact ⟨ret_bool (by rw [unhide HP, unhide HZ, show (id % 2 == 0) = false by simpa using unhide HE]; rfl), rfl⟩
theorem meetsF_hit (t : Tr) (f : Nat) (id : Int) : meetsF t (f + 1) id id = true := by simp [meetsF]
theorem meetsF_none {t : Tr} {f : Nat} {id goal : Int} (h : ¬ id = goal) (hn : t id.toNat = none) : meetsF t (f + 1) id goal = false := by simp [meetsF, h, hn]
theorem meetsF_some {t : Tr} {f : Nat} {id goal : Int} {n : Nd} (h : ¬ id = goal) (hn : t id.toNat = some n) : meetsF t (f + 1) id goal = meetsF t f n.parent goal := by simp [meetsF, h, hn]
set_option maxHeartbeats 1000000 in
theorem meets_any {x : Ext} (t : Tr) (b : Nat) (id goal : Int) (w : World) (ht : TrOk t) (h0 : 0 ≤ id) (h1 : id ≤ 99) (hT : TreeAt x w b t) :
    Calls Tryz.prog 61 #[.pointer (some ⟨b, 0, none⟩), .int .i64 id, .int .i64 goal] w fun e w' => e = .returned (.bool (meetsT t id goal)) ∧ w' = w := by
  have HO := hide ht
  have HT := hide hT
  clear ht hT
  have HM : Hid (meetsT t id goal = meetsF t 100 id goal) := hide rfl
  generalize meetsT t id goal = M at *
  go_enter Tryz.func61, Tryz.ntmps61
  go_wp2
  go_loop [7, 8] (fun d i => ∃ k : Nat, ∃ m : Int, k ≤ 100 ∧ i = .int .i64 k ∧ d = .int .i64 m ∧ 0 ≤ m ∧ m ≤ 99 ∧ Hid (M = meetsF t (100 - k) m goal)) (fun _ i => 101 - (intOf i).toNat)
  case atStart => exact ⟨0, id, by omega, rfl, rfl, h0, h1, HM⟩
  case round =>
    obtain ⟨k, m, hk, rfl, rfl, hm0, hm1, HI⟩ := hrel
    by_cases hlt : k ≤ 99
    · have hf : 100 - k = (99 - k) + 1 := by omega
      have HI2 : Hid (M = meetsF t ((99 - k) + 1) m goal) := by apply hide; rw [← hf]; exact unhide HI
      clear hf HI HM
      by_cases hg : m = goal
      · subst hg
        have hM := unhide HI2
        rw [meetsF_hit] at hM
        have HMt := hide hM; clear hM
        go_wp2
        go_ret
        exact ⟨ret_bool (unhide HMt).symm, rfl⟩
      · have hg' : (m == goal) = false := by simpa using hg
        obtain ⟨mn, rfl⟩ := Int.eq_ofNat_of_zero_le hm0
        have HH := hide (has_nat t b mn w (unhide HO) (by omega) (unhide HT))
        cases hn : t mn with
        | none =>
          have HMf := hide ((unhide HI2).trans (meetsF_none hg (by simpa using hn)))
          rw [hn] at HH
          clear hn
          go_wp2_with (go_at_call 97; refine (unhide HH).mono ?_; rintro e w' ⟨rfl, rfl⟩)
          go_ret
          exact ⟨ret_bool (unhide HMf).symm, rfl⟩
        | some n =>
          have HMf := hide ((unhide HI2).trans (meetsF_some hg (by simpa using hn)))
          have hb := (unhide HO).2 mn n hn
          have hcell := (unhide HT).cell (100 + mn * 3 + 1)
          rw [(treeCells_node t mn (by omega)).2.1, hn] at hcell
          rw [hn] at HH
          have hp0 : 0 ≤ n.parent := hb.2.2.2.1
          have hp1 : n.parent ≤ 99 := hb.2.2.2.2.1
          clear hn hb
          go_wp2_with (go_at_call 97; refine (unhide HH).mono ?_; rintro e w' ⟨rfl, rfl⟩)
          go_round
          case rel => exact ⟨k + 1, n.parent, by omega, by go_num, rfl, hp0, hp1, by apply hide; rw [show 100 - (k + 1) = 99 - k by omega]; exact unhide HMf⟩
          case measure => simp [intOf]; omega
    · have HMf : Hid (M = false) := by apply hide; rw [unhide HI, show 100 - k = 0 by omega]; rfl
      go_wp2
      go_ret
      exact ⟨ret_bool (unhide HMf).symm, rfl⟩
/-- put -/
theorem treeCells_put (t : Tr) (n : Nd) (m : Nat) (hm : n.id = m) (h : m < 100) :
    ((((treeCells t).set m (.bool true)).set (100 + m * 3) (.int .i64 n.id)).set (100 + m * 3 + 1) (.int .i64 n.parent)).set (100 + m * 3 + 2) (.string (bs n.name)) = treeCells (trPut t n) := by
  apply List.ext_getElem?
  intro j
  simp only [List.getElem?_set, List.length_set, treeCells_length]
  by_cases hj : j < 100
  · rw [treeCells_here _ j hj, treeCells_here _ j hj]
    rw [if_neg (by omega), if_neg (by omega), if_neg (by omega)]
    unfold trPut
    by_cases e : m = j
    · subst e; rw [if_pos rfl, if_pos (by omega), if_pos (by omega)]; rfl
    · rw [if_neg e, if_neg (by omega)]
  · by_cases hj4 : j < 400
    · obtain ⟨i, r, hi, hr, rfl⟩ : ∃ i r, i < 100 ∧ r < 3 ∧ j = 100 + i * 3 + r := ⟨(j - 100) / 3, (j - 100) % 3, by omega, by omega, by omega⟩
      have ht := treeCells_node t i hi
      have hp := treeCells_node (trPut t n) i hi
      by_cases e : m = i
      · subst e
        have e1 : trPut t n m = some n := by unfold trPut; rw [if_pos hm.symm]
        rw [e1] at hp
        match r, hr with
        | 0, _ => rw [if_neg (by omega), if_neg (by omega), if_pos (by omega), if_pos (by omega)]; simpa using hp.1.symm
        | 1, _ => rw [if_neg (by omega), if_pos (by omega), if_pos (by omega)]; simpa using hp.2.1.symm
        | 2, _ => rw [if_pos (by omega), if_pos (by omega)]; simpa using hp.2.2.symm
      · have e1 : trPut t n i = t i := by unfold trPut; rw [if_neg (by omega)]
        rw [e1] at hp
        rw [if_neg (by omega), if_neg (by omega), if_neg (by omega), if_neg (by omega)]
        match r, hr with
        | 0, _ => exact ht.1.trans hp.1.symm
        | 1, _ => exact ht.2.1.trans hp.2.1.symm
        | 2, _ => exact ht.2.2.trans hp.2.2.symm
    · rw [if_neg (by omega), if_neg (by omega), if_neg (by omega), if_neg (by omega), List.getElem?_eq_none (by rw [treeCells_length]; omega), List.getElem?_eq_none (by rw [treeCells_length]; omega)]
end Go.Proofs.YtdcjimlhaklhfabGreatDoor

namespace Go.Proofs.YtdcjimlhaklhfabGreatDoor
open Go.RowKit
theorem TreeAt.free {x : Ext} {w : World} {b : Nat} {t : Tr} (h : TreeAt x w b t) (j : Nat) : w.frozen? ⟨b, j, none⟩ = false := by
  simp [World.frozen?, show w.heap[b]? = _ from h]
theorem TreeAt.set {w : World} {b : Nat} {cs r : List Value} {ty : TypeId} {j : Nat} {v : Value} (hj : j < cs.length) (h : w.heap[b]? = some (.cells (cs ++ r).toArray ty (0, 0))) : (w.setCell ⟨b, j, none⟩ v).heap[b]? = some (.cells (cs.set j v ++ r).toArray ty (0, 0)) := by
  rw [heap_setCell_same w b j _ _ v h, ← List.set_append_left _ _ hj]; simp
theorem put_world {x : Ext} {w : World} {t : Tr} {b m : Nat} {parent : Int} {name : Str} (hm : m ≤ 99) (hT : TreeAt x w b t) (o : Obj) :
    TreeAt x ((((((w.setCell ⟨b, m, none⟩ (.bool true)).setCell ⟨b, 100 + m * 3, none⟩ (.int .i64 m)).setCell ⟨b, 100 + m * 3 + 1, none⟩ (.int .i64 parent)).setCell ⟨b, 100 + m * 3 + 2, none⟩ (.string (bs name))).alloc o).drew.drew) b (trPut t ⟨m, parent, name⟩) ∧
    w.grownBy ((((((w.setCell ⟨b, m, none⟩ (.bool true)).setCell ⟨b, 100 + m * 3, none⟩ (.int .i64 m)).setCell ⟨b, 100 + m * 3 + 1, none⟩ (.int .i64 parent)).setCell ⟨b, 100 + m * 3 + 2, none⟩ (.string (bs name))).alloc o).drew.drew) (some b) := by
  have hlt := hT.lt
  constructor
  · unfold TreeAt
    rw [heap_drew, heap_drew, Below.heap_alloc _ _ _ (by simp; exact hlt), ← treeCells_put t ⟨m, parent, name⟩ m rfl (by omega)]
    have hl := treeCells_length t
    exact TreeAt.set (by simp only [List.length_set]; omega) (TreeAt.set (by simp only [List.length_set]; omega) (TreeAt.set (by simp only [List.length_set]; omega) (TreeAt.set (by omega) hT)))
  · refine ⟨rfl, rfl, rfl, by simp [heap_drew], fun k hk hne => ?_⟩
    have hne' : k ≠ b := fun e => hne (by rw [e])
    rw [heap_drew, heap_drew, Below.heap_alloc _ _ _ (by simp; exact hk)]
    rw [heap_setCell_other _ _ _ _ hne', heap_setCell_other _ _ _ _ hne', heap_setCell_other _ _ _ _ hne', heap_setCell_other _ _ _ _ hne']
set_option maxHeartbeats 1000000 in
theorem put_nat {x : Ext} (t : Tr) (b m : Nat) (parent : Int) (name : Str) (w : World) (hm1 : 1 ≤ m) (hm : m ≤ 99) (hT : TreeAt x w b t) :
    Calls Tryz.prog 63 #[.pointer (some ⟨b, 0, none⟩), .agg #[.int .i64 m, .int .i64 parent, .string (bs name)]] w fun e w' => e = .returned (.tuple #[]) ∧ TreeAt x w' b (trPut t ⟨m, parent, name⟩) ∧ w.grownBy w' (some b) := by
  have hlt := hT.lt
  have c0 : w.cell? ⟨b, m, none⟩ = some (.bool (t m).isSome) := hT.here m (by omega)
  have c1 := (hT.cell (100 + m * 3)).trans (treeCells_node t m (by omega)).1
  have c2 := (hT.cell (100 + m * 3 + 1)).trans (treeCells_node t m (by omega)).2.1
  have c3 := (hT.cell (100 + m * 3 + 2)).trans (treeCells_node t m (by omega)).2.2
  have f0 : ∀ j, w.frozen? ⟨b, j, none⟩ = false := hT.free
  have hne : ¬ b = w.heap.size := by omega
  have hm0 : (0 : Int) ≤ m := by omega
  have HT := hide hT
  clear hT
  go_enter Tryz.func63, Tryz.ntmps63
  go_wp2
  go_region
  all_goals go_wp2
  all_goals go_region
  all_goals go_end0
  exact ⟨rfl, put_world hm (unhide HT) _⟩
theorem put_any {x : Ext} (t : Tr) (b : Nat) (n : Nd) (w : World) (hn : 1 ≤ n.id) (hn' : n.id ≤ 99) (hT : TreeAt x w b t) :
    Calls Tryz.prog 63 #[.pointer (some ⟨b, 0, none⟩), .agg #[.int .i64 n.id, .int .i64 n.parent, .string (bs n.name)]] w fun e w' => e = .returned (.tuple #[]) ∧ TreeAt x w' b (trPut t n) ∧ w.grownBy w' (some b) := by
  obtain ⟨id, parent, name⟩ := n
  obtain ⟨m, hm⟩ := Int.eq_ofNat_of_zero_le (show 0 ≤ id by simp at hn; omega)
  simp only at hm hn hn' ⊢
  subst hm
  exact put_nat t b m parent name w (by omega) (by omega) hT
theorem zeroTree : Tryz.zeroCells78 = (treeCells tr0).toArray := by kernel_rfl
theorem nd_cells {w wr : World} {ao : Option Addr} {ns : List Nd} (hrow : Row w ao ns.length 3 (ndCells ns)) (hb : Below w.heap.size w wr) {k : Nat} (hk : k < ns.length) :
    ∃ g, ao = some ⟨g, 0, none⟩ ∧ g < w.heap.size ∧ wr.cell? ⟨g, k * 3, none⟩ = some (.int .i64 (ns[k]).id) ∧ wr.cell? ⟨g, k * 3 + 1, none⟩ = some (.int .i64 (ns[k]).parent) ∧ wr.cell? ⟨g, k * 3 + 2, none⟩ = some (.string (bs (ns[k]).name)) := by
  obtain ⟨g, h1, h2, h3⟩ := hrow.2 (by omega)
  have := ndCells_get ns k hk
  refine ⟨g, h1, h2, ?_, ?_, ?_⟩
  · rw [hb.cell (p := ⟨g, _, none⟩) h2]; exact h3 _ _ this.1
  · rw [hb.cell (p := ⟨g, _, none⟩) h2]; exact h3 _ _ this.2.1
  · rw [hb.cell (p := ⟨g, _, none⟩) h2]; exact h3 _ _ this.2.2
theorem treeAt_grown {x : Ext} {w w' : World} {b c : Nat} {t : Tr} (h : TreeAt x w b t) (hg : w.grownBy w' (some c)) (hne : b ≠ c) : TreeAt x w' b t := by
  unfold TreeAt; rw [hg.block b h.lt (fun e => hne (by cases e; rfl))]; exact h
theorem fold_snoc (ns : List Nd) (k : Nat) (h : k < ns.length) : (ns.take (k + 1)).foldl trPut tr0 = trPut ((ns.take k).foldl trPut tr0) ns[k] := by
  rw [List.take_succ_eq_append_getElem h, List.foldl_append]; rfl
theorem treeAt_range {x : Ext} {w : World} {b : Nat} {t : Tr} (h : TreeAt x w b t) : w.rangeAt b 0 (treeCells t) := by
  intro j v hv
  have hj : j < 400 := by
    rw [← treeCells_length t]
    rcases Nat.lt_or_ge j (treeCells t).length with hh | hh
    · exact hh
    · rw [List.getElem?_eq_none hh] at hv; cases hv
  rw [Nat.zero_add, h.cell j hj]; exact hv
theorem treeAt_there {x : Ext} {w : World} {b : Nat} {t : Tr} (h : TreeAt x w b t) (t' : Tr) : w.there b 0 (treeCells t').toArray.size := by
  intro j hj
  have hj' : j < 400 := by simpa [treeCells_length] using hj
  refine ⟨?_, h.free _⟩
  rw [Nat.zero_add, h.cell j hj', List.getElem?_eq_getElem (by rw [treeCells_length]; exact hj')]; rfl
theorem treeSize0 : (Tryz.prog.info? 78).map (·.size) = some 400 := by kernel_rfl
theorem treeSize (t : Tr) : (Tryz.prog.info? 78).map (·.size) = some (treeCells t).length := by rw [treeCells_length]; exact treeSize0
theorem treeSize' (t : Tr) : (Tryz.prog.info? 78).map (·.size) = some (treeCells t).toArray.size := by rw [List.size_toArray]; exact treeSize t
theorem treeOne (t : Tr) : (treeCells t).toArray.all (·.oneCell') = true := by
  apply all_oneCell_toArray
  intro v hv
  unfold treeCells at hv
  rcases List.mem_append.1 hv with hv | hv
  · obtain ⟨i, _, rfl⟩ := List.mem_map.1 hv; rfl
  · unfold ndCells at hv
    obtain ⟨n, _, hn⟩ := List.mem_flatMap.1 hv
    simp [ndC] at hn
    rcases hn with rfl | rfl | rfl <;> rfl
theorem size_setCells (b : Nat) : ∀ (vs : List Value) (o : Nat) (w : World), (w.setCells b o vs).heap.size = w.heap.size ∧ (w.setCells b o vs).tape = w.tape
  | [], _, _ => ⟨rfl, rfl⟩
  | v :: vs, o, w => by
    have := size_setCells b vs (o + 1) (w.setCell ⟨b, o, none⟩ v)
    exact ⟨this.1.trans (by simp), this.2⟩
theorem below_setCells {B : Nat} {w wr : World} (hb : Below B w wr) {g : Nat} (hg : B ≤ g) (hB : B ≤ wr.heap.size) (o : Nat) (vs : List Value) : Below B w (wr.setCells g o vs) :=
  hb.trans ⟨World.os_setCells _ _ _ _, (size_setCells g vs o wr).2, World.output_setCells _ _ _ _, by rw [(size_setCells g vs o wr).1]; omega, fun k hk => World.heap_setCells_other _ _ _ _ (by omega) (by omega)⟩
set_option maxHeartbeats 1000000 in
theorem gather_any (ns : List Nd) (ao : Option Addr) (cap : Nat) (w : World) (hrow : Row w ao ns.length 3 (ndCells ns)) (hb : ∀ n ∈ ns, 1 ≤ n.id ∧ n.id ≤ 99) (hl : ns.length ≤ 4000) :
    Calls Tryz.prog 69 #[.slice ao ns.length cap] w fun e w' => e = .returned (.agg (treeCells (gather ns)).toArray) ∧ Below w.heap.size w w' := by
  have HROW := hide hrow; clear hrow
  have HB := hide hb; clear hb
  have HZ := hide zeroTree
  go_enter Tryz.func69, Tryz.ntmps69
  go_wp2
  go_loopw [8] (fun i wr => ∃ k : Nat, k ≤ ns.length ∧ i = .int .i64 k ∧ Below w.heap.size w wr ∧ Hid (TreeAt ext0 wr (w.heap.size + 1) ((ns.take k).foldl trPut tr0)) ∧ Hid (TreeAt ext0 wr w.heap.size tr0)) (fun i _ => ns.length - (intOf i).toNat)
  case atStart =>
    refine ⟨0, Nat.zero_le _, rfl, ((Below.refl _ _).alloc (Nat.le_refl _) _).alloc (by simp) _, ?_, ?_⟩
    · apply hide; unfold TreeAt ext0; rw [unhide HZ]; simpa using heap_alloc_new (w.alloc (.cells (treeCells tr0).toArray 78)) (.cells (treeCells tr0).toArray 78)
    · apply hide; unfold TreeAt ext0; rw [unhide HZ, Below.heap_alloc _ _ _ (by simp)]; simpa using heap_alloc_new w (.cells (treeCells tr0).toArray 78)
  case round =>
    obtain ⟨k, hk, rfl, hbel, HT1, HT0⟩ := hrel
    by_cases hlt : k < ns.length
    · obtain ⟨g, hao, hg, c0, c1, c2⟩ := nd_cells (unhide HROW) hbel hlt
      rw [hao]
      have hn := unhide HB _ (List.getElem_mem hlt)
      have HS := hide (fold_snoc ns k hlt)
      have hsz := hbel.size
      clear hao
      generalize ns[k] = nd at *
      go_wp2_with fail
      refine (put_any _ _ nd _ hn.1 hn.2 ((unhide HT1).below ((Below.refl _ _).alloc (Nat.le_refl _) _))).mono ?_
      rintro e w2 ⟨rfl, hT2, hg2⟩
      have HT2 : Hid (TreeAt ext0 w2 (w.heap.size + 1) ((ns.take (k + 1)).foldl trPut tr0)) := by apply hide; rw [unhide HS]; exact hT2
      have HT02 : Hid (TreeAt ext0 w2 w.heap.size tr0) := hide (treeAt_grown ((unhide HT0).below ((Below.refl _ _).alloc (Nat.le_refl _) _)) hg2 (by omega))
      have hb2 : Below w.heap.size w w2 := (hbel.alloc hsz _).grown hg2 (by simp; omega) (fun k hk => by cases hk; omega)
      clear hT2 hg2 c0 c1 c2 hbel
      go_wp2
      go_roundw
      case rel => exact ⟨k + 1, by omega, by go_num, hb2, HT2, HT02⟩
      case measure => simp [intOf]; omega
    · have HE : Hid (gather ns = (ns.take k).foldl trPut tr0) := by apply hide; rw [List.take_of_length_le (by omega)]; rfl
      generalize (ns.take k).foldl trPut tr0 = T at *
      have hRange : wr.rangeAt (w.heap.size + 1) 0 (treeCells T) := treeAt_range (unhide HT1)
      have hThere : wr.there w.heap.size 0 (treeCells T).toArray.size := treeAt_there (unhide HT0) T
      have HR := hide hRange; clear hRange
      have HTH := hide hThere; clear hThere
      go_wp2_with (first
        | (refine wpList_load_mid (by rfl) 78 (.tmp 3) (by rfl) (w.heap.size + 1) 0 (by rfl) (treeCells T) _ (unhide HR) Tryz.underlying78 (by rfl) (treeSize T) ?_)
        | (refine wpList_store_mid (by rfl) 78 (.tmp 2) (.tmp 15) (by rfl) w.heap.size 0 (treeCells T).toArray (by rfl) (by rfl) (unhide HTH) (treeSize' T) (treeOne T) ?_))
      have hr := World.rangeAt_setCells_same wr w.heap.size 0 (treeCells T) (by have := unhide HTH; rwa [List.size_toArray] at this)
      refine bodyPost_ret (v := .agg (treeCells T).toArray) (by simp [results, Tryz.results69, Act.put, asAddr, run_loadVar_mid _ _ _ _ _ _ hr Tryz.underlying78 rfl (treeSize T)]) rfl ⟨by rw [unhide HE], ?_⟩
      exact below_setCells hbel (Nat.le_refl _) hbel.size _ _
end Go.Proofs.YtdcjimlhaklhfabGreatDoor

namespace Go.Proofs.YtdcjimlhaklhfabGreatDoor
open Go.RowKit
/-- A step: its kind's byte and a node. -/
structure St where
  kind : UInt8
  node : Nd
def stEq (a b : St) : Bool := a.kind == b.kind && ndEq a.node b.node
theorem stEq_iff {a b : St} : stEq a b = true ↔ a = b := by
  cases a; cases b; simp only [stEq, Bool.and_eq_true, beq_iff_eq, ndEq_iff, St.mk.injEq]
def stOf : Str → Option St
  | [] => none
  | k :: r => if k = 43 ∨ k = 61 then (readNode r).map (fun n => ⟨k, n⟩) else if k = 45 then (if (number r 1 99).2 then some ⟨k, ⟨(number r 1 99).1, 0, []⟩⟩ else none) else none
def readStep (l : Str) : Option St := if bodyB l then stOf (bodyS l) else none
def readSteps : List Str → List St
  | [] => []
  | r :: l => match readStep r with
    | none => []
    | some s => s :: readSteps l
theorem readSteps_length (l : List Str) : (readSteps l).length ≤ l.length := by
  induction l with
  | nil => simp [readSteps]
  | cons r l ih => unfold readSteps; split <;> simp; omega
def StOk (s : St) : Prop := (s.kind = 43 ∨ s.kind = 61) ∧ 1 ≤ s.node.id ∧ s.node.id ≤ 99 ∧ 0 ≤ s.node.parent ∧ s.node.parent ≤ 99 ∧ isName s.node.name s.node.id = true ∨ s.kind = 45 ∧ 1 ≤ s.node.id ∧ s.node.id ≤ 99
theorem readStep_ok {l : Str} {s : St} (h : readStep l = some s) : StOk s := by
  unfold readStep at h
  split at h
  · cases hb : bodyS l with
    | nil => rw [hb] at h; simp [stOf] at h
    | cons k r =>
      rw [hb] at h
      have h2 : (if k = 43 ∨ k = 61 then (readNode r).map (fun n => (⟨k, n⟩ : St)) else if k = 45 then (if (number r 1 99).2 then some (⟨k, ⟨(number r 1 99).1, 0, []⟩⟩ : St) else none) else none) = some s := h
      by_cases hk : k = 43 ∨ k = 61
      · rw [if_pos hk] at h2
        cases hr : readNode r with
        | none => rw [hr] at h2; simp at h2
        | some n =>
          rw [hr] at h2; simp at h2; subst h2
          have := readNode_bd hr
          exact .inl ⟨hk, this.1, this.2.1, this.2.2.1, this.2.2.2.1, this.2.2.2.2⟩
      · rw [if_neg hk] at h2
        by_cases hk2 : k = 45
        · rw [if_pos hk2] at h2
          by_cases hn : (number r 1 99).2 = true
          · rw [if_pos hn] at h2
            cases h2
            exact .inr ⟨hk2, number_lo r 1 99 hn, (number_bd r 1 99 (by omega)).2⟩
          · rw [if_neg hn] at h2; cases h2
        · rw [if_neg hk2] at h2; cases h2
  · cases h
theorem readSteps_ok (l : List Str) : ∀ s ∈ readSteps l, StOk s := by
  induction l with
  | nil => intro s h; simp [readSteps] at h
  | cons r l ih =>
    intro s h
    unfold readSteps at h
    split at h
    · simp at h
    · rename_i m hm
      rcases List.mem_cons.1 h with rfl | h
      · exact readStep_ok hm
      · exact ih s h
/-! The steps, done. -/
def spotIs (t : Tr) (parent : Int) (name : Str) (i : Nat) : Bool := match t i with
  | none => false
  | some n => n.parent == parent && n.name == name
def atT (t : Tr) (parent : Int) (name : Str) : Int := if scan (spotIs t parent name) 1 100 < 100 then (scan (spotIs t parent name) 1 100 : Int) else 0
def kidIs (t : Tr) (id : Int) (i : Nat) : Bool := match t i with
  | none => false
  | some n => n.parent == id
def kidsT (t : Tr) (id : Int) : Bool := decide (scan (kidIs t id) 1 100 < 100)
theorem scan_ge (p : Nat → Bool) (lo n : Nat) (h : scan p lo n < n) : lo ≤ scan p lo n := by
  unfold scan at h ⊢
  cases hf : (List.range' lo (n - lo)).find? p with
  | none => rw [hf] at h; simp at h
  | some k => have := List.mem_of_find?_eq_some hf; rw [List.mem_range'_1] at this; simp; omega
theorem scan_cases' (p : Nat → Bool) : (scan p 1 100 < 100 ∧ 1 ≤ scan p 1 100) ∨ ¬ scan p 1 100 < 100 := by
  by_cases h : scan p 1 100 < 100
  · exact .inl ⟨h, scan_ge p 1 100 h⟩
  · exact .inr h
/-- The first kid, or 0. -/
def kidT (t : Tr) (id : Int) : Int := if scan (kidIs t id) 1 100 < 100 then (scan (kidIs t id) 1 100 : Int) else 0
theorem kids_kid (t : Tr) (id : Int) : kidsT t id = (kidT t id != 0) := by
  unfold kidsT kidT
  rcases scan_cases' (kidIs t id) with h | h
  · rw [decide_eq_true h.1, if_pos h.1]; symm; rw [bne_iff_ne]; omega
  · rw [decide_eq_false (by omega), if_neg (by omega)]; rfl
def trRemove (t : Tr) (id : Int) : Tr := fun i => if (i : Int) = id then none else t i
def createE (t : Tr) (n : Nd) : Int := if hasT t n.id then 8 else if !isParentT t n.parent then 4 else if atT t n.parent n.name != 0 then 6 else 0
def moveE (t : Tr) (n : Nd) : Int := if !hasT t n.id then 9 else if !isParentT t n.parent then 4 else if meetsT t n.parent n.id then 5 else if atT t n.parent n.name != 0 && atT t n.parent n.name != n.id then 6 else 0
def deleteE (t : Tr) (id : Int) : Int := if !hasT t id then 9 else if kidsT t id then 10 else 0
def stepE (t : Tr) (s : St) : Int := if s.kind = 43 then createE t s.node else if s.kind = 61 then moveE t s.node else if s.kind = 45 then deleteE t s.node.id else 7
def stepT (t : Tr) (s : St) : Tr := if stepE t s = 0 then (if s.kind = 45 then trRemove t s.node.id else trPut t s.node) else t
def doAllE : List St → Tr → Nat → Int × Nat
  | [], _, _ => (0, 0)
  | s :: l, t, i => if stepE t s = 0 then doAllE l (stepT t s) (i + 1) else (stepE t s, i)
def doAllT : List St → Tr → Tr
  | [], t => t
  | s :: l, t => if stepE t s = 0 then doAllT l (stepT t s) else t
theorem trOk_remove {t : Tr} (h : TrOk t) (id : Int) : TrOk (trRemove t id) := by
  refine ⟨?_, fun i n hn => ?_⟩
  · unfold trRemove; split
    · rfl
    · exact h.1
  · unfold trRemove at hn; split at hn
    · cases hn
    · exact h.2 i n hn
theorem stepT_ok {t : Tr} (h : TrOk t) {s : St} (hs : StOk s) : TrOk (stepT t s) := by
  unfold stepT
  split
  · split
    · exact trOk_remove h _
    · rename_i hk
      rcases hs with ⟨_, h1⟩ | ⟨h1, _⟩
      · exact trOk_put h h1
      · exact absurd h1 hk
  · exact h
/-! Texts. -/
def nodeText (n : Nd) : Str := digs n.id ++ [32] ++ digs n.parent ++ [32] ++ n.name ++ [59]
def textAt (t : Tr) (i : Nat) : Str := match t i with
  | none => []
  | some n => nodeText n
def textTo (t : Tr) (k : Nat) : Str := (List.range' 1 k).flatMap (textAt t)
def textT (t : Tr) : Str := textTo t 99
theorem textTo_succ (t : Tr) (k : Nat) : textTo t (k + 1) = textTo t k ++ textAt t (k + 1) := by
  unfold textTo; rw [List.range'_concat]; simp [Nat.add_comm]
theorem name_len {l : Str} {id : Int} (h : isName l id = true) : l.length ≤ 11 := by
  unfold isName at h
  simp only [Bool.and_eq_true, decide_eq_true_eq, Bool.or_eq_true, beq_iff_eq] at h
  obtain ⟨⟨h1, h2⟩, h3 | h3⟩ := h
  · omega
  · have e := congrArg List.length h3
    rw [List.length_drop, List.length_cons] at e
    have := digs_len id
    have := plainLen_le l
    omega
theorem nodeText_len {n : Nd} (h : isName n.name n.id = true) : (nodeText n).length ≤ 18 := by
  have h1 := name_len h
  have h2 := digs_len n.id
  have h3 := digs_len n.parent
  simp only [nodeText, List.length_append, List.length_cons, List.length_nil]
  omega
theorem textTo_len {t : Tr} (h : TrOk t) (k : Nat) : (textTo t k).length ≤ 18 * k := by
  induction k with
  | zero => simp [textTo]
  | succ k ih =>
    rw [textTo_succ, List.length_append]
    have : (textAt t (k + 1)).length ≤ 18 := by
      unfold textAt
      cases ht : t (k + 1) with
      | none => simp
      | some n => exact nodeText_len (h.2 _ n ht).2.2.2.2.2
    omega
/-- What Apply answers: the text, the place, the error. -/
def applyT (l sc : Str) : Str × Nat × Int :=
  if 4000 < l.length ∨ 4000 < sc.length then ([], 0, 1) else
  if (checkT l).1 ≠ 0 then ([], (checkT l).2, (checkT l).1) else
  if (readSteps (cut sc)).length < (cut sc).length then ([], (readSteps (cut sc)).length, 7) else
  if (doAllE (readSteps (cut sc)) (gather (readNodes (cut l))) 0).1 ≠ 0 then ([], (doAllE (readSteps (cut sc)) (gather (readNodes (cut l))) 0).2, (doAllE (readSteps (cut sc)) (gather (readNodes (cut l))) 0).1) else
  (textT (doAllT (readSteps (cut sc)) (gather (readNodes (cut l)))), 0, 0)
end Go.Proofs.YtdcjimlhaklhfabGreatDoor

namespace Go.Proofs.YtdcjimlhaklhfabGreatDoor
open Go.RowKit
/-- A number in digits, by steps. -/
def decF : Nat → Nat → Str
  | 0, n => [UInt8.ofNat (48 + n % 10)]
  | f + 1, n => if n < 10 then [UInt8.ofNat (48 + n % 10)] else decF f (n / 10) ++ [UInt8.ofNat (48 + n % 10)]
def dec (n : Nat) : Str := decF n n
theorem decF_eq : ∀ (f g n : Nat), n ≤ f → n ≤ g → decF f n = decF g n := by
  intro f
  induction f with
  | zero => intro g n h1 h2; have : n = 0 := by omega
            subst this; cases g <;> simp [decF]
  | succ f ih =>
    intro g n h1 h2
    cases g with
    | zero => have : n = 0 := by omega
              subst this; simp [decF]
    | succ g =>
      simp only [decF]
      by_cases h : n < 10
      · rw [if_pos h, if_pos h]
      · rw [if_neg h, if_neg h, ih g (n / 10) (by omega) (by omega)]
theorem dec_small {n : Nat} (h : n < 10) : dec n = [UInt8.ofNat (48 + n % 10)] := by
  unfold dec; cases n with
  | zero => rfl
  | succ n => rw [decF, if_pos h]
theorem dec_big {n : Nat} (h : ¬ n < 10) : dec n = dec (n / 10) ++ [UInt8.ofNat (48 + n % 10)] := by
  obtain ⟨m, rfl⟩ : ∃ m, n = m + 1 := ⟨n - 1, by omega⟩
  unfold dec
  rw [decF, if_neg h, decF_eq m ((m + 1) / 10) ((m + 1) / 10) (by omega) (by omega)]
theorem digs_dec : ∀ n : Nat, n < 100 → digs (n : Int) = dec n := by decide +kernel
theorem dec_len_pos (n : Nat) : 1 ≤ (dec n).length := by
  by_cases h : n < 10
  · rw [dec_small h]; simp
  · rw [dec_big h]; simp
theorem dec_len (n : Nat) (hn : n ≤ 9999) : (dec n).length ≤ 4 := by
  by_cases h : n < 10
  · rw [dec_small h]; simp
  · rw [dec_big h]
    by_cases h1 : n / 10 < 10
    · rw [dec_small h1]; simp
    · rw [dec_big h1]
      by_cases h2 : n / 10 / 10 < 10
      · rw [dec_small h2]; simp
      · rw [dec_big h2, dec_small (by omega)]; simp
end Go.Proofs.YtdcjimlhaklhfabGreatDoor

namespace Go.Proofs.YtdcjimlhaklhfabGreatDoor
open Go.RowKit
def digB (c : UInt8) : Bool := decide (48 ≤ c.toNat) && decide (c.toNat ≤ 57)
theorem digB_iff (c : UInt8) : digB c = true ↔ 48 ≤ c.toNat ∧ c.toNat ≤ 57 := by simp [digB]
def valF (n : Nat) (l : Str) : Nat := l.foldl (fun n c => n * 10 + (c.toNat - 48)) n
def val (l : Str) : Nat := valF 0 l
theorem valF_ge : ∀ (l : Str) (n : Nat), n ≤ valF n l := by
  intro l
  induction l with
  | nil => intro n; exact Nat.le_refl _
  | cons c r ih => intro n; have := ih (n * 10 + (c.toNat - 48)); simp only [valF, List.foldl_cons] at this ⊢; omega
theorem val_snoc (l : Str) (c : UInt8) : val (l ++ [c]) = val l * 10 + (c.toNat - 48) := by simp [val, valF, List.foldl_append]
theorem numGo_val (hi : Int) : ∀ (l : Str) (n : Nat), l.all digB = true → (n : Int) ≤ hi → numGo hi n l = if (valF n l : Int) ≤ hi then some (valF n l : Int) else none := by
  intro l
  induction l with
  | nil => intro n _ h; simp [numGo, valF, h]
  | cons c r ih =>
    intro n ha h
    simp only [List.all_cons, Bool.and_eq_true] at ha
    have hd := (digB_iff c).1 ha.1
    have e : (n : Int) * 10 + ((c.toNat : Int) - 48) = ((n * 10 + (c.toNat - 48) : Nat) : Int) := by omega
    rw [numGo, if_pos hd, e]
    have hv : valF n (c :: r) = valF (n * 10 + (c.toNat - 48)) r := rfl
    by_cases hb : ((n * 10 + (c.toNat - 48) : Nat) : Int) > hi
    · rw [if_pos hb, hv, if_neg]
      have := valF_ge r (n * 10 + (c.toNat - 48)); omega
    · rw [if_neg hb, ih _ ha.2 (by omega), hv]
theorem numGo_bad (hi : Int) : ∀ (l : Str) (n : Int), l.all digB = false → numGo hi n l = none := by
  intro l
  induction l with
  | nil => intro n h; simp at h
  | cons c r ih =>
    intro n h
    rw [numGo]
    by_cases hd : 48 ≤ c.toNat ∧ c.toNat ≤ 57
    · rw [if_pos hd]
      have hr : r.all digB = false := by
        rw [List.all_cons, (digB_iff c).2 hd] at h; simpa using h
      rw [ih _ hr]; split <;> rfl
    · rw [if_neg hd]
theorem ofNat_dig (d : Nat) (h : d ≤ 9) : (UInt8.ofNat (48 + d)).toNat = 48 + d := by
  rw [UInt8.toNat_ofNat']; omega
theorem dec_digs (n : Nat) : (dec n).all digB = true ∧ val (dec n) = n := by
  have : ∀ f n, n ≤ f → (dec n).all digB = true ∧ val (dec n) = n := by
    intro f
    induction f with
    | zero => intro n h; have : n = 0 := by omega
              subst this; exact ⟨by decide, by decide⟩
    | succ f ih =>
      intro n h
      by_cases h10 : n < 10
      · rw [dec_small h10]
        have := ofNat_dig (n % 10) (by omega)
        refine ⟨?_, ?_⟩
        · simp only [List.all_cons, List.all_nil, Bool.and_true]; rw [digB_iff, this]; omega
        · simp only [val, valF, List.foldl_cons, List.foldl_nil]; rw [this]; omega
      · rw [dec_big h10]
        have := ofNat_dig (n % 10) (by omega)
        obtain ⟨i1, i2⟩ := ih (n / 10) (by omega)
        refine ⟨?_, ?_⟩
        · rw [List.all_append, i1]; simp only [List.all_cons, List.all_nil, Bool.and_true, Bool.true_and]; rw [digB_iff, this]; omega
        · rw [val_snoc, i2, this]; omega
  exact this n n (Nat.le_refl _)
theorem val_pos (l : Str) (c : UInt8) (h : 49 ≤ c.toNat) : 1 ≤ val (c :: l) := by
  have := valF_ge l (0 * 10 + (c.toNat - 48))
  simp only [val, valF, List.foldl_cons] at this ⊢; omega
theorem u8_digit (c : UInt8) (h : 48 ≤ c.toNat ∧ c.toNat ≤ 57) : UInt8.ofNat (48 + (c.toNat - 48)) = c := by
  apply UInt8.toNat_inj.1; rw [ofNat_dig _ (by omega)]; omega
theorem val_dec (l : Str) : l.all digB = true → numBad l = false → dec (val l) = l := by
  refine snoc_ind (P := fun l => l.all digB = true → numBad l = false → dec (val l) = l) ?_ ?_ l
  · intro _ h; simp [numBad] at h
  · intro a c ih ha hb
    rw [List.all_append, Bool.and_eq_true] at ha
    have hc := (digB_iff c).1 (by simpa using ha.2)
    rw [val_snoc]
    cases a with
    | nil =>
      have e : val [] * 10 + (c.toNat - 48) = c.toNat - 48 := by simp [val, valF]
      rw [e, dec_small (by omega), Nat.mod_eq_of_lt (by omega), u8_digit c hc]; rfl
    | cons b r =>
      have hb48 : ¬ b = 48 := by
        intro e; subst e; simp [numBad] at hb
      have hb' : 49 ≤ b.toNat := by
        have h1 := ((digB_iff b).1 (by have := ha.1; simp only [List.all_cons, Bool.and_eq_true] at this; exact this.1)).1
        have : b.toNat ≠ 48 := fun e => hb48 (UInt8.toNat_inj.1 (by simpa using e))
        omega
      have hv := val_pos r b hb'
      have hbad : numBad (b :: r) = false := by simp [numBad, hb48]
      rw [dec_big (by omega), show (val (b :: r) * 10 + (c.toNat - 48)) / 10 = val (b :: r) by omega, show (val (b :: r) * 10 + (c.toNat - 48)) % 10 = c.toNat - 48 by omega, ih ha.1 hbad, u8_digit c hc]
theorem dec_notBad (n : Nat) : numBad (dec n) = false := by
  have : ∀ f n, n ≤ f → numBad (dec n) = false ∧ (1 ≤ n → (dec n).headD 0 ≠ 48) := by
    intro f
    induction f with
    | zero => intro n h; have : n = 0 := by omega
              subst this; exact ⟨by decide, by omega⟩
    | succ f ih =>
      intro n h
      by_cases h10 : n < 10
      · rw [dec_small h10]
        have := ofNat_dig (n % 10) (by omega)
        refine ⟨by simp [numBad], fun h1 e => ?_⟩
        have e' : UInt8.ofNat (48 + n % 10) = 48 := e
        have := congrArg UInt8.toNat e'
        rw [ofNat_dig _ (by omega)] at this
        simp at this; omega
      · rw [dec_big h10]
        obtain ⟨i1, i2⟩ := ih (n / 10) (by omega)
        have i3 := i2 (by omega)
        have hp := dec_len_pos (n / 10)
        cases hd : dec (n / 10) with
        | nil => rw [hd] at hp; simp at hp
        | cons b r =>
          rw [hd] at i3
          refine ⟨?_, fun _ => by simpa using i3⟩
          have : b ≠ 48 := by simpa using i3
          simp [numBad, this]
  exact (this n n (Nat.le_refl _)).1
theorem val_lt (l : Str) : ∀ n, l.all digB = true → valF n l < (n + 1) * 10 ^ l.length := by
  induction l with
  | nil => intro n _; simp [valF]
  | cons c r ih =>
    intro n ha
    simp only [List.all_cons, Bool.and_eq_true] at ha
    have hd := (digB_iff c).1 ha.1
    have := ih (n * 10 + (c.toNat - 48)) ha.2
    have hv : valF n (c :: r) = valF (n * 10 + (c.toNat - 48)) r := rfl
    rw [hv, List.length_cons, Nat.pow_succ]
    refine Nat.lt_of_lt_of_le this ?_
    rw [Nat.mul_comm (10 ^ r.length) 10, ← Nat.mul_assoc]
    exact Nat.mul_le_mul_right _ (by omega)
/-- What the document's reader of numbers answers. -/
def numR (l : Str) (lo hi : Int) : Int := if (number l lo hi).2 then (number l lo hi).1 else -1
theorem numR_digits {l : Str} {lo hi : Int} (ha : l.all digB = true) (hb : numBad l = false) (h0 : 0 ≤ hi) : numR l lo hi = if lo ≤ (val l : Int) ∧ (val l : Int) ≤ hi then (val l : Int) else -1 := by
  have hg := numGo_val hi l 0 ha h0
  rw [show ((0 : Nat) : Int) = 0 from rfl] at hg
  unfold numR
  by_cases h : (val l : Int) ≤ hi
  · rw [if_pos (show (valF 0 l : Int) ≤ hi from h)] at hg
    rw [number_some hb hg]
    show (if decide (lo ≤ (val l : Int)) = true then (val l : Int) else -1) = _
    by_cases h1 : lo ≤ (val l : Int)
    · rw [if_pos (by simpa using h1), if_pos ⟨h1, h⟩]
    · rw [if_neg (by simpa using h1), if_neg (fun hh => h1 hh.1)]
  · rw [if_neg (show ¬ (valF 0 l : Int) ≤ hi from h)] at hg
    rw [number_none hg]
    exact (if_neg (fun hh => h hh.2)).symm
theorem numR_nodig {l : Str} {lo hi : Int} (ha : l.all digB = false) : numR l lo hi = -1 := by
  unfold numR; rw [number_none (numGo_bad hi l 0 ha)]; rfl
theorem numR_bad {l : Str} {lo hi : Int} (hb : numBad l = true) : numR l lo hi = -1 := by
  unfold numR; rw [number_bad hb]; rfl
theorem numR_long {l : Str} {lo hi : Int} (h0 : 0 ≤ hi) (h1 : hi ≤ 9999) (hl : 4 < l.length) : numR l lo hi = -1 := by
  cases ha : l.all digB
  · exact numR_nodig ha
  · cases hb : numBad l
    · rw [numR_digits ha hb h0, if_neg]
      rintro ⟨_, h⟩
      have := dec_len (val l) (by omega)
      rw [val_dec l ha hb] at this
      omega
    · exact numR_bad hb
theorem numR_empty {l : Str} {lo hi : Int} (hl : l.length < 1) : numR l lo hi = -1 := by
  have : l = [] := List.length_eq_zero_iff.1 (by omega)
  exact numR_bad (by simp [numBad, this])
/-- all digits: where the digits of the value are the text itself, and where not. -/
theorem numR_eq {l : Str} {lo hi : Int} (ha : l.all digB = true) (h0 : 0 ≤ hi) (he : dec (val l) = l) : numR l lo hi = if lo ≤ (val l : Int) ∧ (val l : Int) ≤ hi then (val l : Int) else -1 :=
  numR_digits ha (by rw [← he]; exact dec_notBad _) h0
theorem numR_ne {l : Str} {lo hi : Int} (ha : l.all digB = true) (he : ¬ dec (val l) = l) : numR l lo hi = -1 := by
  cases hb : numBad l
  · exact absurd (val_dec l ha hb) he
  · exact numR_bad hb
theorem numR_out {l : Str} {lo hi : Int} (ha : l.all digB = true) (h0 : 0 ≤ hi) (ho : (val l : Int) < lo ∨ hi < (val l : Int)) : numR l lo hi = -1 := by
  cases hb : numBad l
  · rw [numR_digits ha hb h0, if_neg (by omega)]
  · exact numR_bad hb
end Go.Proofs.YtdcjimlhaklhfabGreatDoor

namespace Go.Proofs.YtdcjimlhaklhfabGreatDoor
open Go.RowKit
def idIs (ns : List Nd) (id : Int) (i : Nat) : Bool := (ndAt ns i).id == id
def findN (ns : List Nd) (id : Int) : Nat := scan (idIs ns id) 0 ns.length
def findR (ns : List Nd) (id : Int) : Int := if findN ns id < ns.length then (findN ns id : Int) else -1
def lookR (ns : List Nd) (id : Int) : Option Nd := if findN ns id < ns.length then some (ndAt ns (findN ns id)) else none
def folderR (ns : List Nd) (id : Int) : Bool := id == 0 || (id % 2 == 0 && (lookR ns id).isSome)
def belowF (look : Int → Option Nd) : Nat → Int → Int → Bool
  | 0, _, _ => false
  | f + 1, id, top => match look id with
    | none => false
    | some n => if n.parent = top then true else belowF look f n.parent top
def belowR (ns : List Nd) (id top : Int) : Bool := belowF (lookR ns) (ns.length + 1) id top
def placeIs (ns : List Nd) (parent : Int) (name : Str) (i : Nat) : Bool := ((ndAt ns i).parent == parent) && ((ndAt ns i).name == name)
def takenN (ns : List Nd) (parent : Int) (name : Str) : Nat := scan (placeIs ns parent name) 0 ns.length
def takenR (ns : List Nd) (parent : Int) (name : Str) : Int := if takenN ns parent name < ns.length then (ndAt ns (takenN ns parent name)).id else 0
/-- the rules behind the form -/
def rOrphan (ns : List Nd) (i : Nat) : Bool := !folderR ns (ndAt ns i).parent
def rLooped (ns : List Nd) (i : Nat) : Bool := !belowR ns (ndAt ns i).id 0
def rTwice (ns : List Nd) (i : Nat) : Bool := takenR (ns.take i) (ndAt ns i).parent (ndAt ns i).name != 0
def wrongR (ns : List Nd) : Int × Nat :=
  if scan (unordered ns) 1 ns.length < ns.length then (3, scan (unordered ns) 1 ns.length)
  else if scan (rOrphan ns) 0 ns.length < ns.length then (4, scan (rOrphan ns) 0 ns.length)
  else if scan (rLooped ns) 0 ns.length < ns.length then (5, scan (rLooped ns) 0 ns.length)
  else if scan (rTwice ns) 0 ns.length < ns.length then (6, scan (rTwice ns) 0 ns.length)
  else (0, 0)
def checkR (l : Str) : Int × Nat :=
  if 4000 < l.length then (1, 0) else
  if (readNodes (cut l)).length < (cut l).length then (2, (readNodes (cut l)).length) else
  wrongR (readNodes (cut l))
theorem lookR_none {ns : List Nd} {id : Int} (h : ¬ findN ns id < ns.length) : lookR ns id = none ∧ findR ns id = -1 := by
  unfold lookR findR; rw [if_neg h, if_neg h]; exact ⟨rfl, rfl⟩
theorem lookR_some {ns : List Nd} {id : Int} (h : findN ns id < ns.length) : lookR ns id = some ns[findN ns id] ∧ findR ns id = findN ns id := by
  unfold lookR findR; rw [if_pos h, if_pos h, ndAt_get _ _ h]; exact ⟨rfl, rfl⟩
end Go.Proofs.YtdcjimlhaklhfabGreatDoor

namespace Go.Proofs.YtdcjimlhaklhfabGreatDoor
open Go.RowKit
theorem find_congr' {p q : Nat → Bool} : ∀ (l : List Nat), (∀ x ∈ l, p x = q x) → l.find? p = l.find? q := by
  intro l
  induction l with
  | nil => intro _; rfl
  | cons a l ih =>
    intro h
    rw [List.find?_cons, List.find?_cons, h a (by simp), ih (fun x hx => h x (by simp [hx]))]
theorem scan_congr {p q : Nat → Bool} {lo n : Nat} (h : ∀ j, lo ≤ j → j < n → p j = q j) : scan p lo n = scan q lo n := by
  unfold scan
  rw [find_congr' (p := p) (q := q) _ (fun x hx => by rw [List.mem_range'_1] at hx; exact h x hx.1 (by omega))]
theorem scan_cases (p : Nat → Bool) (lo n : Nat) : (scan p lo n < n ∧ lo ≤ scan p lo n ∧ p (scan p lo n) = true ∧ ∀ j, lo ≤ j → j < scan p lo n → p j = false) ∨ (scan p lo n = n ∧ ∀ j, lo ≤ j → j < n → p j = false) := by
  by_cases h : ∃ k, lo ≤ k ∧ k < n ∧ p k = true
  · -- the least such
    have key : ∀ m, (∃ k, lo ≤ k ∧ k < n ∧ p k = true ∧ k ≤ m) → ∃ k, lo ≤ k ∧ k < n ∧ p k = true ∧ ∀ j, lo ≤ j → j < k → p j = false := by
      intro m
      induction m with
      | zero => rintro ⟨k, h1, h2, h3, h4⟩; exact ⟨k, h1, h2, h3, fun j _ hj => by omega⟩
      | succ m ih =>
        rintro ⟨k, h1, h2, h3, h4⟩
        by_cases hm : ∃ k, lo ≤ k ∧ k < n ∧ p k = true ∧ k ≤ m
        · exact ih hm
        · refine ⟨k, h1, h2, h3, fun j hj hk => ?_⟩
          cases hp : p j
          · rfl
          · exact absurd ⟨j, hj, by omega, hp, by omega⟩ hm
    obtain ⟨k, h1, h2, h3⟩ := h
    obtain ⟨k, h1, h2, h3, h4⟩ := key k ⟨k, h1, h2, h3, Nat.le_refl _⟩
    have e := scan_hit h1 h2 h3 h4
    left; rw [e]; exact ⟨h2, h1, h3, h4⟩
  · have hno : ∀ j, lo ≤ j → j < n → p j = false := by
      intro j h1 h2
      cases hp : p j
      · rfl
      · exact absurd ⟨j, h1, h2, hp⟩ h
    right; exact ⟨scan_none hno, hno⟩
/-! Ordered lists of nodes. -/
def Ordered (ns : List Nd) : Prop := ∀ i j, i < j → j < ns.length → (ndAt ns i).id < (ndAt ns j).id
theorem ordered_of {ns : List Nd} (h : ¬ scan (unordered ns) 1 ns.length < ns.length) : Ordered ns := by
  have hno : ∀ j, 1 ≤ j → j < ns.length → unordered ns j = false := by
    rcases scan_cases (unordered ns) 1 ns.length with ⟨h1, _⟩ | ⟨_, h2⟩
    · exact absurd h1 h
    · exact h2
  have step : ∀ j, 1 ≤ j → j < ns.length → (ndAt ns (j - 1)).id < (ndAt ns j).id := by
    intro j h1 h2
    have := hno j h1 h2
    unfold unordered at this
    simp at this; exact this
  intro i j hij
  induction j with
  | zero => omega
  | succ j ih =>
    intro hj
    have h1 := step (j + 1) (by omega) hj
    rw [show j + 1 - 1 = j from rfl] at h1
    by_cases e : i = j
    · subst e; exact h1
    · have := ih (by omega) (by omega); omega
theorem mem_ndAt {ns : List Nd} {n : Nd} (h : n ∈ ns) : ∃ i, i < ns.length ∧ ndAt ns i = n := by
  obtain ⟨i, hi, e⟩ := List.getElem_of_mem h
  exact ⟨i, hi, by rw [ndAt_get _ _ hi, e]⟩
theorem ndAt_mem {ns : List Nd} {i : Nat} (h : i < ns.length) : ndAt ns i ∈ ns := by rw [ndAt_get _ _ h]; exact List.getElem_mem h
def Unique (ns : List Nd) : Prop := ∀ n m, n ∈ ns → m ∈ ns → n.id = m.id → n = m
theorem ordered_unique {ns : List Nd} (h : Ordered ns) : Unique ns := by
  intro n m hn hm e
  obtain ⟨i, hi, rfl⟩ := mem_ndAt hn
  obtain ⟨j, hj, rfl⟩ := mem_ndAt hm
  rcases Nat.lt_trichotomy i j with hlt | rfl | hlt
  · have := h i j hlt hj; omega
  · rfl
  · have := h j i hlt hi; omega
theorem lookR_mem {ns : List Nd} {id : Int} {n : Nd} (h : lookR ns id = some n) : n ∈ ns ∧ n.id = id := by
  rcases scan_cases (idIs ns id) 0 ns.length with ⟨h1, _, h3, _⟩ | ⟨h1, _⟩
  · have h1' : findN ns id < ns.length := h1
    unfold lookR at h; rw [if_pos h1'] at h; cases h
    exact ⟨ndAt_mem h1', by have : idIs ns id (findN ns id) = true := h3; unfold idIs at this; simpa using this⟩
  · unfold lookR at h; rw [if_neg (by unfold findN; omega)] at h; cases h
theorem lookR_no {ns : List Nd} {id : Int} (h : lookR ns id = none) : ∀ n ∈ ns, n.id ≠ id := by
  rcases scan_cases (idIs ns id) 0 ns.length with ⟨h1, _, _, _⟩ | ⟨_, h2⟩
  · unfold lookR at h; rw [if_pos (show findN ns id < ns.length from h1)] at h; cases h
  · intro n hn e
    obtain ⟨i, hi, rfl⟩ := mem_ndAt hn
    have := h2 i (by omega) hi
    unfold idIs at this; simp at this; exact this e
theorem lookR_of {ns : List Nd} (hu : Unique ns) {n : Nd} (hn : n ∈ ns) : lookR ns n.id = some n := by
  cases h : lookR ns n.id with
  | none => exact absurd rfl (lookR_no h n hn)
  | some m => obtain ⟨h1, h2⟩ := lookR_mem h; rw [hu m n h1 hn h2]
theorem fold_some : ∀ (ns : List Nd) (t : Tr) (i : Nat) (n : Nd), (ns.foldl trPut t) i = some n → (n ∈ ns ∧ n.id = i) ∨ t i = some n := by
  intro ns
  induction ns with
  | nil => intro t i n h; exact .inr h
  | cons a ns ih =>
    intro t i n h
    rcases ih (trPut t a) i n h with ⟨h1, h2⟩ | h1
    · exact .inl ⟨by simp [h1], h2⟩
    · unfold trPut at h1
      split at h1
      · cases h1; rename_i e; exact .inl ⟨by simp, e.symm⟩
      · exact .inr h1
theorem fold_none : ∀ (ns : List Nd) (t : Tr) (i : Nat), (ns.foldl trPut t) i = none → (∀ n ∈ ns, n.id ≠ i) ∧ t i = none := by
  intro ns
  induction ns with
  | nil => intro t i h; exact ⟨by simp, h⟩
  | cons a ns ih =>
    intro t i h
    obtain ⟨h1, h2⟩ := ih (trPut t a) i h
    unfold trPut at h2
    split at h2
    · cases h2
    · rename_i e
      refine ⟨fun n hn => ?_, h2⟩
      rcases List.mem_cons.1 hn with rfl | hn
      · exact fun hh => e hh.symm
      · exact h1 n hn
theorem gather_look {ns : List Nd} (hu : Unique ns) (hb : ∀ n ∈ ns, 1 ≤ n.id) (id : Int) : gather ns id.toNat = lookR ns id := by
  cases h : lookR ns id with
  | some n =>
    obtain ⟨h1, h2⟩ := lookR_mem h
    have hid := hb n h1
    cases hg : gather ns id.toNat with
    | none => exact absurd (by omega) ((fold_none ns tr0 _ hg).1 n h1)
    | some m =>
      rcases fold_some ns tr0 _ m hg with ⟨h3, h4⟩ | h3
      · rw [hu m n h3 h1 (by omega)]
      · cases h3
  | none =>
    cases hg : gather ns id.toNat with
    | none => rfl
    | some m =>
      rcases fold_some ns tr0 _ m hg with ⟨h3, h4⟩ | h3
      · have := hb m h3
        exact absurd (by omega) (lookR_no h m h3)
      · cases h3
/-! The way up. -/
theorem below_mono {look : Int → Option Nd} {top : Int} : ∀ (f : Nat) (id : Int), belowF look f id top = true → belowF look (f + 1) id top = true := by
  intro f
  induction f with
  | zero => intro id h; simp [belowF] at h
  | succ f ih =>
    intro id h
    rw [belowF] at h ⊢
    cases hl : look id with
    | none => rw [hl] at h; simp at h
    | some n =>
      rw [hl] at h
      simp only at h ⊢
      by_cases hp : n.parent = top
      · rw [if_pos hp]
      · rw [if_neg hp] at h ⊢; exact ih _ h
theorem below_le {look : Int → Option Nd} {top : Int} {f g : Nat} (hfg : f ≤ g) (id : Int) (h : belowF look f id top = true) : belowF look g id top = true := by
  induction g with
  | zero => have : f = 0 := by omega
            subst this; exact h
  | succ g ih =>
    by_cases e : f = g + 1
    · subst e; exact h
    · exact below_mono g id (ih (by omega))
theorem way_list {look : Int → Option Nd} {top : Int} : ∀ (f : Nat) (id : Int), belowF look (f + 1) id top = true → belowF look f id top = false →
    ∃ l : List Int, l.length = f + 1 ∧ l.Nodup ∧ (∀ x ∈ l, (look x).isSome = true) ∧ ∀ x ∈ l, ∃ g, g ≤ f ∧ belowF look (g + 1) x top = true := by
  intro f
  induction f with
  | zero =>
    intro id h _
    refine ⟨[id], rfl, by simp, ?_, ?_⟩
    · intro x hx; simp at hx; subst hx
      rw [belowF] at h
      cases hl : look x with
      | none => rw [hl] at h; simp at h
      | some n => rfl
    · intro x hx; simp at hx; subst hx; exact ⟨0, Nat.le_refl _, h⟩
  | succ f ih =>
    intro id h hno
    have h' := h
    rw [belowF] at h'
    cases hl : look id with
    | none => rw [hl] at h'; simp at h'
    | some n =>
      rw [hl] at h'
      simp only at h'
      have hp : ¬ n.parent = top := by
        intro hp
        have : belowF look 1 id top = true := by rw [belowF, hl]; simp [hp]
        rw [below_le (show 1 ≤ f + 1 by omega) id this] at hno
        cases hno
      rw [if_neg hp] at h'
      have hno' : belowF look f n.parent top = false := by
        rw [belowF, hl] at hno
        simp only [if_neg hp] at hno
        exact hno
      obtain ⟨l, l1, l2, l3, l4⟩ := ih n.parent h' hno'
      refine ⟨id :: l, by simp [l1], ?_, ?_, ?_⟩
      · rw [List.nodup_cons]
        refine ⟨fun hm => ?_, l2⟩
        obtain ⟨g, hg, hb⟩ := l4 id hm
        rw [below_le (show g + 1 ≤ f + 1 by omega) id hb] at hno
        cases hno
      · intro x hx
        rcases List.mem_cons.1 hx with rfl | hx
        · rw [hl]; rfl
        · exact l3 x hx
      · intro x hx
        rcases List.mem_cons.1 hx with rfl | hx
        · exact ⟨f + 1, Nat.le_refl _, h⟩
        · obtain ⟨g, hg, hb⟩ := l4 x hx; exact ⟨g, by omega, hb⟩
theorem pigeon : ∀ (l m : List Int), l.Nodup → (∀ x ∈ l, x ∈ m) → l.length ≤ m.length := by
  intro l
  induction l with
  | nil => intro m _ _; simp
  | cons a l ih =>
    intro m hn hs
    rw [List.nodup_cons] at hn
    have ha := hs a (by simp)
    have := ih (m.erase a) hn.2 (fun x hx => by
      have hxa : x ≠ a := fun e => hn.1 (e ▸ hx)
      exact (List.mem_erase_of_ne hxa).2 (hs x (by simp [hx])))
    rw [List.length_erase_of_mem ha] at this
    have hpos : 0 < m.length := List.length_pos_of_mem ha
    simp; omega
theorem below_stop {ns : List Nd} {look : Int → Option Nd} (hlook : ∀ x n, look x = some n → n ∈ ns ∧ n.id = x) {top : Int} (f : Nat) (id : Int) (h : belowF look f id top = true) : belowF look ns.length id top = true := by
  induction f with
  | zero => simp [belowF] at h
  | succ f ih =>
    cases hf : belowF look f id top
    · obtain ⟨l, l1, l2, l3, _⟩ := way_list f id h hf
      have hle : l.length ≤ (ns.map (·.id)).length := pigeon l _ l2 (fun x hx => by
        obtain ⟨n, hn⟩ := Option.isSome_iff_exists.1 (l3 x hx)
        obtain ⟨h1, h2⟩ := hlook x n hn
        exact List.mem_map.2 ⟨n, h1, h2⟩)
      rw [List.length_map] at hle
      exact below_le (by omega) id h
    · exact ih hf
theorem below_same {ns : List Nd} {look : Int → Option Nd} (hlook : ∀ x n, look x = some n → n ∈ ns ∧ n.id = x) {top : Int} {f g : Nat} (hf : ns.length ≤ f) (hg : ns.length ≤ g) (id : Int) : belowF look f id top = belowF look g id top := by
  cases h1 : belowF look f id top
  · cases h2 : belowF look g id top
    · rfl
    · rw [below_le hf id (below_stop hlook g id h2)] at h1; cases h1
  · rw [below_le hg id (below_stop hlook f id h1)]
theorem meets_below (t : Tr) (goal : Int) : ∀ (f : Nat) (id : Int), meetsF t (f + 1) id goal = (decide (id = goal) || belowF (fun x => t x.toNat) f id goal) := by
  intro f
  induction f with
  | zero =>
    intro id
    by_cases h : id = goal
    · simp [meetsF, h]
    · rw [meetsF, if_neg h]
      cases hl : t id.toNat with
      | none => simp [belowF, h]
      | some n => simp [belowF, h, meetsF]
  | succ f ih =>
    intro id
    by_cases h : id = goal
    · simp [meetsF, h]
    · rw [meetsF, if_neg h, belowF]
      cases hl : t id.toNat with
      | none => simp [h]
      | some n =>
        simp only
        rw [ih]
        by_cases hp : n.parent = goal
        · simp [hp]
        · simp [h, hp]
theorem ordered_short {ns : List Nd} (ho : Ordered ns) (hb : ∀ n ∈ ns, 1 ≤ n.id ∧ n.id ≤ 99) : ns.length ≤ 99 := by
  have : ∀ i, i < ns.length → (i : Int) + 1 ≤ (ndAt ns i).id := by
    intro i
    induction i with
    | zero => intro h; have := (hb _ (ndAt_mem h)).1; omega
    | succ i ih => intro h; have h1 := ih (by omega); have h2 := ho i (i + 1) (by omega) h; omega
  rcases Nat.lt_or_ge 99 ns.length with h | h
  · have h1 := this 99 h
    have h2 := (hb _ (ndAt_mem h)).2
    omega
  · exact h
theorem meets_R {ns : List Nd} (ho : Ordered ns) (hb : ∀ n ∈ ns, 1 ≤ n.id ∧ n.id ≤ 99) (id goal : Int) : meetsT (gather ns) id goal = (decide (id = goal) || belowR ns id goal) := by
  have hfun : (fun x : Int => gather ns x.toNat) = lookR ns := funext fun x => gather_look (ordered_unique ho) (fun n hn => (hb n hn).1) x
  unfold meetsT belowR
  rw [meets_below, hfun, below_same (ns := ns) (look := lookR ns) (fun x n h => lookR_mem h) (ordered_short ho hb) (show ns.length ≤ ns.length + 1 by omega) id]
theorem isParent_R {ns : List Nd} (ho : Ordered ns) (hb : ∀ n ∈ ns, 1 ≤ n.id ∧ n.id ≤ 99) (id : Int) : isParentT (gather ns) id = folderR ns id := by
  unfold isParentT folderR hasT
  rw [gather_look (ordered_unique ho) (fun n hn => (hb n hn).1) id]
theorem ndAt_take {ns : List Nd} {i j : Nat} (h : j < i) (hi : i ≤ ns.length) : ndAt (ns.take i) j = ndAt ns j := by
  rw [ndAt_get _ _ (by rw [List.length_take]; omega), ndAt_get _ _ (by omega)]; simp
theorem twice_R {ns : List Nd} (hb : ∀ n ∈ ns, 1 ≤ n.id) {i : Nat} (hi : i < ns.length) : twice ns i = rTwice ns i := by
  have hlen : (ns.take i).length = i := by rw [List.length_take]; omega
  unfold rTwice takenR takenN
  rw [hlen]
  rcases scan_cases (placeIs (ns.take i) (ndAt ns i).parent (ndAt ns i).name) 0 i with ⟨h1, _, h3, _⟩ | ⟨h1, h2⟩
  · rw [if_pos h1]
    generalize scan (placeIs (ns.take i) (ndAt ns i).parent (ndAt ns i).name) 0 i = k at *
    have hm := hb _ (ndAt_mem (ns := ns) (i := k) (by omega))
    rw [ndAt_take h1 (by omega)]
    have e1 : twice ns i = true := by
      unfold twice
      refine decide_eq_true ⟨_, h1, ?_⟩
      unfold placeIs at h3; rw [ndAt_take h1 (by omega)] at h3
      exact h3
    rw [e1]
    symm; rw [bne_iff_ne]; omega
  · rw [if_neg (by omega)]
    have e1 : twice ns i = false := by
      unfold twice
      apply decide_eq_false
      rintro ⟨j, hj, hs⟩
      have := h2 j (by omega) hj
      unfold placeIs at this; rw [ndAt_take hj (by omega)] at this
      unfold samePlace at hs
      rw [this] at hs; cases hs
    rw [e1]; rfl
theorem check_same (l : Str) : checkR l = checkT l := by
  unfold checkR checkT
  split
  · rfl
  · simp only []
    split
    · rfl
    · unfold wrongR
      split
      · rfl
      · rename_i _ _ hu
        have ho := ordered_of hu
        have hb := readNodes_bd (cut l)
        generalize readNodes (cut l) = ns at *
        have hb2 : ∀ n ∈ ns, 1 ≤ n.id ∧ n.id ≤ 99 := fun n hn => ⟨(hb n hn).1, (hb n hn).2.1⟩
        unfold misplaced
        have e1 : scan (orphan (gather ns) ns) 0 ns.length = scan (rOrphan ns) 0 ns.length := scan_congr (fun j _ _ => by unfold orphan rOrphan; rw [isParent_R ho hb2])
        have e2 : scan (looped (gather ns) ns) 0 ns.length = scan (rLooped ns) 0 ns.length := scan_congr (fun j _ hj => by
          unfold looped rLooped; rw [meets_R ho hb2]
          have := (hb2 _ (ndAt_mem hj)).1
          have e : decide ((ndAt ns j).id = 0) = false := by simp; omega
          rw [e]; rfl)
        have e3 : scan (twice ns) 0 ns.length = scan (rTwice ns) 0 ns.length := scan_congr (fun j _ hj => twice_R (fun n hn => (hb2 n hn).1) hj)
        rw [e1, e2, e3]
end Go.Proofs.YtdcjimlhaklhfabGreatDoor

namespace Go.Proofs.YtdcjimlhaklhfabGreatDoor
open Go.RowKit
/-! Cutting texts that are put together of records. -/
theorem cutFold (L : List Str) : ∀ (l c : Str), l.foldl cutStep (L, c) = (L ++ (l.foldl cutStep ([], c)).1, (l.foldl cutStep ([], c)).2) := by
  intro l
  induction l generalizing L with
  | nil => intro c; simp
  | cons x l ih =>
    intro c
    simp only [List.foldl_cons, cutStep]
    by_cases h : x = 59
    · rw [if_pos h, if_pos h, ih (L ++ [c ++ [x]]), ih ([] ++ [c ++ [x]])]; simp
    · rw [if_neg h, if_neg h, ih L]
theorem cutRec : ∀ (a c : Str), (∀ x ∈ a, x ≠ 59) → (a ++ [59]).foldl cutStep ([], c) = ([c ++ a ++ [59]], []) := by
  intro a
  induction a with
  | nil => intro c _; simp [cutStep]
  | cons x a ih =>
    intro c h
    rw [List.cons_append, List.foldl_cons, cutStep, if_neg (h x (by simp)), ih _ (fun y hy => h y (by simp [hy]))]
    simp
theorem cut_cons {a : Str} (h : ∀ x ∈ a, x ≠ 59) (rest : Str) : cut (a ++ [59] ++ rest) = (a ++ [59]) :: cut rest := by
  have e : cutTo (a ++ [59] ++ rest) = ((a ++ [59]) :: (cutTo rest).1, (cutTo rest).2) := by
    unfold cutTo
    rw [List.foldl_append, cutRec a [] h, cutFold]; simp
  unfold cut
  rw [e]
  split
  · rfl
  · simp
theorem cut_nil : cut [] = [] := rfl
theorem cut_flat (l : Str) : (cut l).flatten = l := by
  have key : (cutTo l).1.flatten ++ (cutTo l).2 = l := by
    refine snoc_ind (P := fun l => (cutTo l).1.flatten ++ (cutTo l).2 = l) rfl ?_ l
    intro l c h
    rw [cutTo_snoc]; unfold cutStep
    split
    · simp; rw [← List.append_assoc, h]
    · simp; rw [← List.append_assoc, h]
  unfold cut
  split
  · rename_i h; rw [h] at key; simpa using key
  · rw [List.flatten_append]; simpa using key
/-- A text whose records all end with their semicolon: what is cut of it and of what follows. -/
theorem cut_app {s : Str} (h : ∀ r ∈ cut s, bodyB r = true) (t : Str) : cut (s ++ t) = cut s ++ cut t := by
  have hc : (cutTo s).2 = [] := by
    cases he : (cutTo s).2 with
    | nil => rfl
    | cons x r =>
      exfalso
      have hm : (cutTo s).2 ∈ cut s := by unfold cut; rw [if_neg (by rw [he]; simp)]; simp
      have hb := h _ hm
      -- the rest behind the last semicolon holds none
      have hno : ∀ l : Str, ∀ y ∈ (cutTo l).2, y ≠ 59 := by
        intro l
        refine snoc_ind (P := fun l => ∀ y ∈ (cutTo l).2, y ≠ 59) (by simp [cutTo]) ?_ l
        intro l c ih
        rw [cutTo_snoc]; unfold cutStep
        split
        · simp
        · rename_i hne
          intro y hy
          rcases List.mem_append.1 hy with hy | hy
          · exact ih y hy
          · simp at hy; rw [hy]; exact hne
      unfold bodyB at hb
      have hl : (cutTo s).2.getLast? = some 59 := by simpa using hb
      exact hno s 59 (List.mem_of_getLast? hl) rfl
  have e : cutTo (s ++ t) = ((cutTo s).1 ++ (cutTo t).1, (cutTo t).2) := by
    have : cutTo s = ((cutTo s).1, []) := by rw [← hc]
    unfold cutTo at this ⊢
    rw [List.foldl_append, this, cutFold]
  unfold cut
  rw [e, hc]
  split
  · rw [if_pos rfl]
  · rw [if_pos rfl]; simp
/-! Parts. -/
theorem partFold (L : List Str) : ∀ (l c : Str), l.foldl partStep (L, c) = (L ++ (l.foldl partStep ([], c)).1, (l.foldl partStep ([], c)).2) := by
  intro l
  induction l generalizing L with
  | nil => intro c; simp
  | cons x l ih =>
    intro c
    simp only [List.foldl_cons, partStep]
    by_cases h : x = 32
    · rw [if_pos h, if_pos h, ih (L ++ [c]), ih ([] ++ [c])]; simp
    · rw [if_neg h, if_neg h, ih L]
theorem partNo : ∀ (a c : Str), (∀ x ∈ a, x ≠ 32) → a.foldl partStep ([], c) = ([], c ++ a) := by
  intro a
  induction a with
  | nil => intro c _; simp
  | cons x a ih =>
    intro c h
    rw [List.foldl_cons, partStep, if_neg (h x (by simp)), ih _ (fun y hy => h y (by simp [hy]))]
    simp
theorem parts_cons {a : Str} (h : ∀ x ∈ a, x ≠ 32) (rest : Str) : parts (a ++ [32] ++ rest) = a :: parts rest := by
  have e : partTo (a ++ [32] ++ rest) = (a :: (partTo rest).1, (partTo rest).2) := by
    unfold partTo
    rw [List.foldl_append, List.foldl_append, partNo a [] h]
    simp only [List.foldl_cons, List.foldl_nil, partStep, if_pos, List.nil_append]
    rw [partFold]; simp
  unfold parts; rw [e]; rfl
theorem parts_one {a : Str} (h : ∀ x ∈ a, x ≠ 32) : parts a = [a] := by
  unfold parts partTo; rw [partNo a [] h]; rfl
/-- The parts, with blanks between, are the text. -/
def joined : List Str → Str
  | [] => []
  | [a] => a
  | a :: b :: l => a ++ [32] ++ joined (b :: l)
theorem joined_snoc : ∀ (L : List Str) (a b : Str), joined (L ++ [a] ++ [b]) = joined (L ++ [a]) ++ [32] ++ b := by
  intro L
  induction L with
  | nil => intro a b; simp [joined]
  | cons x L ih =>
    intro a b
    cases L with
    | nil => simp [joined]
    | cons y L =>
      have := ih a b
      simp only [List.cons_append, joined] at this ⊢
      rw [this]; simp
theorem joined_last : ∀ (L : List Str) (a : Str) (c : UInt8), joined (L ++ [a ++ [c]]) = joined (L ++ [a]) ++ [c] := by
  intro L
  induction L with
  | nil => intro a c; simp [joined]
  | cons x L ih =>
    intro a c
    cases L with
    | nil => simp [joined]
    | cons y L =>
      have := ih a c
      simp only [List.cons_append, joined] at this ⊢
      rw [this]; simp
theorem joined_parts (l : Str) : joined (parts l) = l := by
  unfold parts
  refine snoc_ind (P := fun l => joined ((partTo l).1 ++ [(partTo l).2]) = l) rfl ?_ l
  intro l c h
  rw [partTo_snoc]; unfold partStep
  split
  · rename_i hc
    rw [joined_snoc, h, hc]; simp
  · rw [joined_last, h]
/-! Numbers and names. -/
theorem digs_no : ∀ n : Nat, n < 100 → ∀ x ∈ digs (n : Int), x ≠ 59 ∧ x ≠ 32 := by decide +kernel
theorem digs_num1 : ∀ n : Nat, n < 100 → 1 ≤ n → number (digs (n : Int)) 1 99 = ((n : Int), true) := by decide +kernel
theorem digs_num0 : ∀ n : Nat, n < 100 → number (digs (n : Int)) 0 99 = ((n : Int), true) := by decide +kernel
theorem number_digs {a : Str} {lo : Int} (h : (number a lo 99).2 = true) : digs (number a lo 99).1 = a := by
  have hb : numBad a = false := by
    cases hb : numBad a
    · rfl
    · rw [number_bad hb] at h; cases h
  have ha : a.all digB = true := by
    cases ha : a.all digB
    · rw [number_none (numGo_bad 99 a 0 ha)] at h; cases h
    · rfl
  have hr : numR a lo 99 = (number a lo 99).1 := by unfold numR; rw [h]; rfl
  rw [numR_digits ha hb (by omega)] at hr
  have bd := number_bd a lo 99 (by omega)
  split at hr
  · rename_i hh
    rw [← hr, digs_dec (val a) (by omega), val_dec a ha hb]
  · omega
theorem takeWhile_all {p : UInt8 → Bool} : ∀ (l : Str), ∀ x ∈ l.takeWhile p, p x = true := by
  intro l
  induction l with
  | nil => intro x hx; simp at hx
  | cons a l ih =>
    intro x hx
    rw [List.takeWhile_cons] at hx
    split at hx
    · rcases List.mem_cons.1 hx with rfl | hx
      · assumption
      · exact ih x hx
    · simp at hx
theorem take_plain (l : Str) : l.take (plainLen l) = l.takeWhile plainB := by
  induction l with
  | nil => rfl
  | cons a l ih =>
    unfold plainLen at ih ⊢
    rw [List.takeWhile_cons]
    split
    · simp [ih]
    · rfl
theorem plain_no {x : UInt8} (h : plainB x = true) : x ≠ 59 ∧ x ≠ 32 := by
  constructor <;> (intro e; subst e; revert h; decide)
theorem name_no {l : Str} {id : Int} (h : isName l id = true) (h0 : 0 ≤ id) (h1 : id ≤ 99) : ∀ x ∈ l, x ≠ 59 ∧ x ≠ 32 := by
  intro x hx
  rw [← List.take_append_drop (plainLen l) l] at hx
  rcases List.mem_append.1 hx with hx | hx
  · rw [take_plain] at hx; exact plain_no (takeWhile_all l x hx)
  · unfold isName at h
    simp only [Bool.and_eq_true, decide_eq_true_eq, Bool.or_eq_true, beq_iff_eq] at h
    rcases h.2 with h2 | h2
    · rw [h2, List.drop_length] at hx; simp at hx
    · rw [h2] at hx
      rcases List.mem_cons.1 hx with rfl | hx
      · exact ⟨by decide, by decide⟩
      · obtain ⟨m, rfl⟩ := Int.eq_ofNat_of_zero_le h0
        exact digs_no m (by omega) x hx
def NdOk (n : Nd) : Prop := 1 ≤ n.id ∧ n.id ≤ 99 ∧ 0 ≤ n.parent ∧ n.parent ≤ 99 ∧ isName n.name n.id = true
def ndBody (n : Nd) : Str := digs n.id ++ [32] ++ (digs n.parent ++ [32] ++ n.name)
theorem nodeText_body (n : Nd) : nodeText n = ndBody n ++ [59] := by simp [nodeText, ndBody]
theorem digs_noI {n : Int} (h0 : 0 ≤ n) (h1 : n ≤ 99) : ∀ x ∈ digs n, x ≠ 59 ∧ x ≠ 32 := by
  obtain ⟨m, rfl⟩ := Int.eq_ofNat_of_zero_le h0
  exact digs_no m (by omega)
theorem body_no {n : Nd} (h : NdOk n) : ∀ x ∈ ndBody n, x ≠ 59 := by
  intro x hx
  have h1 := digs_noI (n := n.id) (by have := h.1; omega) h.2.1
  have h2 := digs_noI h.2.2.1 h.2.2.2.1
  have h3 := name_no h.2.2.2.2 (by have := h.1; omega) h.2.1
  simp only [ndBody, List.mem_append, List.mem_singleton] at hx
  rcases hx with (hx | rfl) | (hx | rfl) | hx
  · exact (h1 x hx).1
  · decide
  · exact (h2 x hx).1
  · decide
  · exact (h3 x hx).1
theorem readNode_body {n : Nd} (h : NdOk n) : readNode (ndBody n) = some n := by
  have h1 := digs_noI (n := n.id) (by have := h.1; omega) h.2.1
  have h2 := digs_noI h.2.2.1 h.2.2.2.1
  have h3 := name_no h.2.2.2.2 (by have := h.1; omega) h.2.1
  have hp : parts (ndBody n) = [digs n.id, digs n.parent, n.name] := by
    unfold ndBody
    rw [parts_cons (fun x hx => (h1 x hx).2), parts_cons (fun x hx => (h2 x hx).2), parts_one (fun x hx => (h3 x hx).2)]
  obtain ⟨id, parent, name⟩ := n
  simp only [NdOk] at h hp ⊢
  obtain ⟨i, rfl⟩ := Int.eq_ofNat_of_zero_le (show 0 ≤ id by omega)
  obtain ⟨p, rfl⟩ := Int.eq_ofNat_of_zero_le h.2.2.1
  unfold readNode
  rw [hp]
  simp only
  rw [digs_num1 i (by omega) (by omega), digs_num0 p (by omega)]
  simp [h.2.2.2.2]
theorem recNode_text {n : Nd} (h : NdOk n) : recNode (nodeText n) = some n := by
  rw [nodeText_body]
  unfold recNode bodyS bodyB
  simp [readNode_body h]
theorem recNode_canon {r : Str} {n : Nd} (h : recNode r = some n) : r = nodeText n := by
  unfold recNode at h
  split at h
  · rename_i hb
    have hr : r = bodyS r ++ [59] := by
      unfold bodyS; rw [if_pos hb]
      unfold bodyB at hb
      have hl : r.getLast? = some 59 := by simpa using hb
      obtain ⟨ys, hy⟩ := List.getLast?_eq_some_iff.1 hl
      rw [hy]; simp
    rw [nodeText_body]
    conv => lhs; rw [hr]
    congr 1
    generalize bodyS r = b at h
    unfold readNode at h
    split at h
    · rename_i x y z hp
      split at h
      · rename_i hh
        simp only [Bool.and_eq_true] at hh
        cases h
        have hj := joined_parts b
        rw [hp] at hj
        simp only [joined] at hj
        unfold ndBody
        simp only
        rw [number_digs hh.1.1, number_digs hh.1.2]
        exact hj.symm
      · cases h
    · cases h
  · cases h
end Go.Proofs.YtdcjimlhaklhfabGreatDoor
