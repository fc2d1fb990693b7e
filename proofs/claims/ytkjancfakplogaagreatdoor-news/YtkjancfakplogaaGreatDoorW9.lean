import Derived.Test.YtkjancfakplogaaGreatDoorW8
namespace Go.Proofs.YtkjancfakplogaaGreatDoor
open Go.RowKit
theorem ret_ii {a b c d : Int} (h : a = c) (g : b = d) : Ending.returned (.tuple #[.int .i64 a, .int .i64 b]) = .returned (.tuple #[.int .i64 c, .int .i64 d]) := by rw [h, g]
set_option maxHeartbeats 2000000 in
theorem misplaced_any {x : Ext} (t : Tr) (b : Nat) (ns : List Nd) (ao : Option Addr) (cap : Nat) (w : World) (ht : TrOk t) (hT : TreeAt x w b t) (hrow : Row w ao ns.length 3 (ndCells ns)) (hn : ∀ n ∈ ns, 1 ≤ n.id ∧ n.id ≤ 99 ∧ 0 ≤ n.parent ∧ n.parent ≤ 99 ∧ isName n.name n.id = true) (hl : ns.length ≤ 4000) :
    Calls Tryz.prog 69 #[.pointer (some ⟨b, 0, none⟩), .slice ao ns.length cap] w fun e w' => e = .returned (.tuple #[.int .i64 (misplaced t ns).1, .int .i64 (misplaced t ns).2]) ∧ Below w.heap.size w w' := by
  have HO := hide (fun W (h1 : TreeAt x W b t) (h2 : Row W ao ns.length 3 (ndCells ns)) => orphan_any t b ns ao cap W ht h1 h2 (fun n hh => ⟨(hn n hh).2.2.1, (hn n hh).2.2.2.1⟩) hl)
  have HL := hide (fun W (h1 : TreeAt x W b t) (h2 : Row W ao ns.length 3 (ndCells ns)) => looped_any t b ns ao cap W ht h1 h2 (fun n hh => ⟨by have := (hn n hh).1; omega, (hn n hh).2.1⟩) hl)
  have HW := hide (fun W (h2 : Row W ao ns.length 3 (ndCells ns)) => twice_any ns ao cap W h2 hl)
  have HM : Hid (misplaced t ns = if scan (orphan t ns) 0 ns.length < ns.length then (4, scan (orphan t ns) 0 ns.length) else if scan (looped t ns) 0 ns.length < ns.length then (5, scan (looped t ns) 0 ns.length) else if scan (twice ns) 0 ns.length < ns.length then (6, scan (twice ns) 0 ns.length) else (0, 0)) := hide rfl
  have b1 := scan_le (orphan t ns) 0 ns.length
  have b2 := scan_le (looped t ns) 0 ns.length
  have b3 := scan_le (twice ns) 0 ns.length
  have HT := hide hT; clear hT
  have HR := hide hrow; clear hrow
  clear hn ht
  generalize scan (orphan t ns) 0 ns.length = x at *
  generalize scan (looped t ns) 0 ns.length = y at *
  generalize scan (twice ns) 0 ns.length = z at *
  generalize misplaced t ns = M at *
  by_cases hx : x < ns.length
  · have HM1 : Hid (M = (4, x)) := by apply hide; rw [unhide HM, if_pos hx]
    go_enter Tryz.func69, Tryz.ntmps69
    go_wp2_with fail
    refine (unhide HO _ (unhide HT) (unhide HR)).mono ?_
    rintro e w1 ⟨rfl, hb1⟩
    go_wp2
    go_ret2
    exact ⟨by rw [unhide HM1]; rfl, hb1⟩
  · by_cases hy : y < ns.length
    · have HM1 : Hid (M = (5, y)) := by apply hide; rw [unhide HM, if_neg hx, if_pos hy]
      go_enter Tryz.func69, Tryz.ntmps69
      go_wp2_with fail
      refine (unhide HO _ (unhide HT) (unhide HR)).mono ?_
      rintro e w1 ⟨rfl, hb1⟩
      go_wp2_with fail
      refine (unhide HL _ ((unhide HT).below hb1) ((unhide HR).below hb1)).mono ?_
      rintro e w2 ⟨rfl, hb2⟩
      go_wp2
      go_ret2
      exact ⟨by rw [unhide HM1]; rfl, hb1.trans (hb2.mono hb1.size)⟩
    · by_cases hz : z < ns.length
      · have HM1 : Hid (M = (6, z)) := by apply hide; rw [unhide HM, if_neg hx, if_neg hy, if_pos hz]
        go_enter Tryz.func69, Tryz.ntmps69
        go_wp2_with fail
        refine (unhide HO _ (unhide HT) (unhide HR)).mono ?_
        rintro e w1 ⟨rfl, hb1⟩
        go_wp2_with fail
        refine (unhide HL _ ((unhide HT).below hb1) ((unhide HR).below hb1)).mono ?_
        rintro e w2 ⟨rfl, hb2⟩
        have HB2 := hide (hb1.trans (hb2.mono hb1.size))
        go_wp2_with fail
        refine (unhide HW _ ((unhide HR).below (unhide HB2))).mono ?_
        rintro e w3 ⟨rfl, nq, rfl⟩
        go_wp2
        go_ret2
        exact ⟨by rw [unhide HM1]; rfl, below_drewN (unhide HB2) _⟩
      · have HM1 : Hid (M = (0, 0)) := by apply hide; rw [unhide HM, if_neg hx, if_neg hy, if_neg hz]
        go_enter Tryz.func69, Tryz.ntmps69
        go_wp2_with fail
        refine (unhide HO _ (unhide HT) (unhide HR)).mono ?_
        rintro e w1 ⟨rfl, hb1⟩
        go_wp2_with fail
        refine (unhide HL _ ((unhide HT).below hb1) ((unhide HR).below hb1)).mono ?_
        rintro e w2 ⟨rfl, hb2⟩
        have HB2 := hide (hb1.trans (hb2.mono hb1.size))
        go_wp2_with fail
        refine (unhide HW _ ((unhide HR).below (unhide HB2))).mono ?_
        rintro e w3 ⟨rfl, nq, rfl⟩
        go_wp2
        go_ret2
        exact ⟨by rw [unhide HM1]; rfl, below_drewN (unhide HB2) _⟩
/-! A whole block stored. -/
theorem heap_setCells_row (b : Nat) (t : TypeId) : ∀ (vs : List Value) (o : Nat) (w : World) (cs : List Value), w.heap[b]? = some (.cells cs.toArray t (0, 0)) → o + vs.length ≤ cs.length →
    (w.setCells b o vs).heap[b]? = some (.cells (cs.take o ++ vs ++ cs.drop (o + vs.length)).toArray t (0, 0))
  | [], o, w, cs, h, hl => by simpa [World.setCells] using h
  | v :: r, o, w, cs, h, hl => by
    simp at hl
    have h1 : (w.setCell ⟨b, o, none⟩ v).heap[b]? = some (.cells (cs.set o v).toArray t (0, 0)) := by rw [heap_setCell_same w b o _ _ v h]; simp
    have := heap_setCells_row b t r (o + 1) _ _ h1 (by simp; omega)
    rw [World.setCells, this]
    have e1 : (cs.set o v).take (o + 1) = cs.take o ++ [v] := by
      rw [List.take_succ_eq_append_getElem (by simp; omega), List.take_set]; simp
      rw [List.set_eq_of_length_le (by simp; omega)]
    have e2 : (cs.set o v).drop (o + 1 + r.length) = cs.drop (o + (v :: r).length) := by
      rw [List.drop_set_of_lt (by omega)]; congr 1; simp; omega
    rw [e1, e2]; simp
theorem treeAt_stored {x : Ext} {w : World} {b : Nat} {t : Tr} (h : TreeAt x w b t) (t' : Tr) : TreeAt x (w.setCells b 0 (treeCells t')) b t' := by
  have := heap_setCells_row b x.ty (treeCells t') 0 w (treeCells t ++ x.rest) h (by simp [treeCells_length])
  unfold TreeAt
  rw [this]
  have hd : (treeCells t ++ x.rest).drop 400 = x.rest := by rw [← treeCells_length t, List.drop_left]
  simp [treeCells_length, hd]
end Go.Proofs.YtkjancfakplogaaGreatDoor
