import Derived.Test.YtdcjimlhaklhfabGreatDoorHi4
import Derived.Test.YtdcjimlhaklhfabGreatDoorHi6
import Derived.Test.YtdcjimlhaklhfabGreatDoorHi2
import Derived.Test.YtdcjimlhaklhfabGreatDoorHi1
import Derived.Test.YtdcjimlhaklhfabGreatDoorHi3
namespace Go.Proofs.YtdcjimlhaklhfabGreatDoor
open Go.RowKit
theorem grown_refl (w : World) (r : Option Nat) : w.grownBy w r := ⟨rfl, rfl, rfl, Nat.le_refl _, fun _ _ _ => rfl⟩
theorem grown_trans {a b c : World} {r : Option Nat} (h : a.grownBy b r) (k : b.grownBy c r) : a.grownBy c r :=
  ⟨k.os.trans h.os, k.tape.trans h.tape, k.output.trans h.output, Nat.le_trans h.size k.size, fun i hi hne => (k.block i (Nat.lt_of_lt_of_le hi h.size) hne).trans (h.block i hi hne)⟩
theorem grown_of_below {w w' : World} (h : Below w.heap.size w w') (r : Option Nat) : w.grownBy w' r := ⟨h.os, h.tape, h.output, h.size, fun k hk _ => h.block k hk⟩
theorem row_grown {w w' : World} {ao : Option Addr} {n size : Nat} {xs : List Value} {b : Nat} (h : Row w ao n size xs) (hg : w.grownBy w' (some b)) (hne : ∀ g, ao = some ⟨g, 0, none⟩ → g ≠ b) : Row w' ao n size xs := by
  refine ⟨h.1, fun hn => ?_⟩
  obtain ⟨g, h1, h2, h3⟩ := h.2 hn
  refine ⟨g, h1, by have := hg.size; omega, fun j u hu => ?_⟩
  rw [World.cell?_of_block (a := ⟨g, j, none⟩) (hg.block g h2 (fun e => hne g h1 (by cases e; rfl)))]
  exact h3 j u hu
/-- Create. -/
theorem createE_1 {t : Tr} {n : Nd} (h : hasT t n.id = true) : createE t n = 8 := by unfold createE; rw [h]; rfl
theorem createE_2 {t : Tr} {n : Nd} (h : hasT t n.id = false) (h2 : isParentT t n.parent = false) : createE t n = 4 := by unfold createE; rw [h, h2]; rfl
theorem createE_3 {t : Tr} {n : Nd} (h : hasT t n.id = false) (h2 : isParentT t n.parent = true) (h3 : (atT t n.parent n.name != 0) = true) : createE t n = 6 := by unfold createE; rw [h, h2, h3]; rfl
theorem createE_4 {t : Tr} {n : Nd} (h : hasT t n.id = false) (h2 : isParentT t n.parent = true) (h3 : (atT t n.parent n.name != 0) = false) : createE t n = 0 := by unfold createE; rw [h, h2, h3]; rfl
set_option maxHeartbeats 1000000 in
theorem create_any {x : Ext} (t : Tr) (b : Nat) (n : Nd) (w : World) (ht : TrOk t) (hT : TreeAt x w b t) (hn : 1 ≤ n.id ∧ n.id ≤ 99 ∧ 0 ≤ n.parent ∧ n.parent ≤ 99) :
    Calls Tryz.prog 129 #[.pointer (some ⟨b, 0, none⟩), .agg #[.int .i64 n.id, .int .i64 n.parent, .string (bs n.name)]] w fun e w' => e = .returned (.int .i64 (createE t n)) ∧ TreeAt x w' b (if createE t n = 0 then trPut t n else t) ∧ w.grownBy w' (some b) := by
  have hb1 := (Below.refl w.heap.size w).alloc (Nat.le_refl _) (.cells #[.int .i64 n.id, .int .i64 n.parent, .string (bs n.name)] 75)
  have hT1 := hT.below hb1
  have HHAS := hide (has_any t b n.id _ ht (by omega) hn.2.1 hT1)
  have HPAR := hide (isParent_any t b n.parent _ ht hn.2.2.1 hn.2.2.2 hT1)
  have HAT := hide (at_any t b n.parent n.name _ hT1)
  have HPUT := hide (put_any t b n _ hn.1 hn.2.1 hT1)
  have HG := hide (grown_of_below hb1 (some b))
  have HT1 := hide hT1
  clear hb1 hT1 hT ht
  cases h1 : hasT t n.id
  · cases h2 : isParentT t n.parent
    · rw [createE_2 h1 h2, if_neg (by omega)]
      rw [h1] at HHAS
      rw [h2] at HPAR
      go_enter Tryz.func129, Tryz.ntmps129
      go_wp2_with fail
      refine (unhide HHAS).mono ?_
      rintro e w1 ⟨rfl, rfl⟩
      go_wp2_with fail
      refine (unhide HPAR).mono ?_
      rintro e w1 ⟨rfl, rfl⟩
      go_wp2
      go_ret
      exact ⟨rfl, unhide HT1, unhide HG⟩
    · cases h3 : (atT t n.parent n.name != 0)
      · rw [createE_4 h1 h2 h3, if_pos rfl]
        rw [h1] at HHAS
        rw [h2] at HPAR
        generalize atT t n.parent n.name = q at *
        go_enter Tryz.func129, Tryz.ntmps129
        go_wp2_with fail
        refine (unhide HHAS).mono ?_
        rintro e w1 ⟨rfl, rfl⟩
        go_wp2_with fail
        refine (unhide HPAR).mono ?_
        rintro e w1 ⟨rfl, rfl⟩
        go_wp2_with fail
        refine (unhide HAT).mono ?_
        rintro e w1 ⟨rfl, rfl⟩
        go_wp2_with fail
        refine (unhide HPUT).mono ?_
        rintro e w1 ⟨rfl, hT2, hg2⟩
        go_wp2
        go_ret
        exact ⟨rfl, hT2, grown_trans (unhide HG) hg2⟩
      · rw [createE_3 h1 h2 h3, if_neg (by omega)]
        rw [h1] at HHAS
        rw [h2] at HPAR
        generalize atT t n.parent n.name = q at *
        go_enter Tryz.func129, Tryz.ntmps129
        go_wp2_with fail
        refine (unhide HHAS).mono ?_
        rintro e w1 ⟨rfl, rfl⟩
        go_wp2_with fail
        refine (unhide HPAR).mono ?_
        rintro e w1 ⟨rfl, rfl⟩
        go_wp2_with fail
        refine (unhide HAT).mono ?_
        rintro e w1 ⟨rfl, rfl⟩
        go_wp2
        go_ret
        exact ⟨rfl, unhide HT1, unhide HG⟩
  · rw [createE_1 h1, if_neg (by omega)]
    rw [h1] at HHAS
    go_enter Tryz.func129, Tryz.ntmps129
    go_wp2_with fail
    refine (unhide HHAS).mono ?_
    rintro e w1 ⟨rfl, rfl⟩
    go_wp2
    go_ret
    exact ⟨rfl, unhide HT1, unhide HG⟩
theorem moveE_1 {t : Tr} {n : Nd} (h : hasT t n.id = false) : moveE t n = 9 := by unfold moveE; rw [h]; rfl
theorem moveE_2 {t : Tr} {n : Nd} (h : hasT t n.id = true) (h2 : isParentT t n.parent = false) : moveE t n = 4 := by unfold moveE; rw [h, h2]; rfl
theorem moveE_3 {t : Tr} {n : Nd} (h : hasT t n.id = true) (h2 : isParentT t n.parent = true) (h3 : meetsT t n.parent n.id = true) : moveE t n = 5 := by unfold moveE; rw [h, h2, h3]; rfl
theorem moveE_4 {t : Tr} {n : Nd} (h : hasT t n.id = true) (h2 : isParentT t n.parent = true) (h3 : meetsT t n.parent n.id = false) (h4 : (atT t n.parent n.name != 0) = true) (h5 : (atT t n.parent n.name != n.id) = true) : moveE t n = 6 := by unfold moveE; rw [h, h2, h3, h4, h5]; rfl
theorem moveE_5 {t : Tr} {n : Nd} (h : hasT t n.id = true) (h2 : isParentT t n.parent = true) (h3 : meetsT t n.parent n.id = false) (h4 : (atT t n.parent n.name != 0) = true) (h5 : (atT t n.parent n.name != n.id) = false) : moveE t n = 0 := by unfold moveE; rw [h, h2, h3, h4, h5]; rfl
theorem moveE_6 {t : Tr} {n : Nd} (h : hasT t n.id = true) (h2 : isParentT t n.parent = true) (h3 : meetsT t n.parent n.id = false) (h4 : (atT t n.parent n.name != 0) = false) : moveE t n = 0 := by unfold moveE; rw [h, h2, h3, h4]; rfl
set_option maxHeartbeats 2000000 in
theorem move_any {x : Ext} (t : Tr) (b : Nat) (n : Nd) (w : World) (ht : TrOk t) (hT : TreeAt x w b t) (hn : 1 ≤ n.id ∧ n.id ≤ 99 ∧ 0 ≤ n.parent ∧ n.parent ≤ 99) :
    Calls Tryz.prog 130 #[.pointer (some ⟨b, 0, none⟩), .agg #[.int .i64 n.id, .int .i64 n.parent, .string (bs n.name)]] w fun e w' => e = .returned (.int .i64 (moveE t n)) ∧ TreeAt x w' b (if moveE t n = 0 then trPut t n else t) ∧ w.grownBy w' (some b) := by
  have hb1 := (Below.refl w.heap.size w).alloc (Nat.le_refl _) (.cells #[.int .i64 n.id, .int .i64 n.parent, .string (bs n.name)] 75)
  have hT1 := hT.below hb1
  have HHAS := hide (has_any t b n.id _ ht (by omega) hn.2.1 hT1)
  have HPAR := hide (isParent_any t b n.parent _ ht hn.2.2.1 hn.2.2.2 hT1)
  have HME := hide (meets_any t b n.parent n.id _ ht hn.2.2.1 hn.2.2.2 hT1)
  have HAT := hide (at_any t b n.parent n.name _ hT1)
  have HPUT := hide (put_any t b n _ hn.1 hn.2.1 hT1)
  have HG := hide (grown_of_below hb1 (some b))
  have HT1 := hide hT1
  clear hb1 hT1 hT ht
  cases h1 : hasT t n.id
  · rw [moveE_1 h1, if_neg (by omega)]
    rw [h1] at HHAS
    go_enter Tryz.func130, Tryz.ntmps130
    go_wp2_with fail
    refine (unhide HHAS).mono ?_
    rintro e w1 ⟨rfl, rfl⟩
    go_wp2
    go_ret
    exact ⟨rfl, unhide HT1, unhide HG⟩
  · cases h2 : isParentT t n.parent
    · rw [moveE_2 h1 h2, if_neg (by omega)]
      rw [h1] at HHAS
      rw [h2] at HPAR
      go_enter Tryz.func130, Tryz.ntmps130
      go_wp2_with fail
      refine (unhide HHAS).mono ?_
      rintro e w1 ⟨rfl, rfl⟩
      go_wp2_with fail
      refine (unhide HPAR).mono ?_
      rintro e w1 ⟨rfl, rfl⟩
      go_wp2
      go_ret
      exact ⟨rfl, unhide HT1, unhide HG⟩
    · cases h3 : meetsT t n.parent n.id
      · cases h4 : (atT t n.parent n.name != 0)
        · rw [moveE_6 h1 h2 h3 h4, if_pos rfl]
          rw [h1] at HHAS
          rw [h2] at HPAR
          rw [h3] at HME
          generalize atT t n.parent n.name = q at *
          go_enter Tryz.func130, Tryz.ntmps130
          go_wp2_with fail
          refine (unhide HHAS).mono ?_
          rintro e w1 ⟨rfl, rfl⟩
          go_wp2_with fail
          refine (unhide HPAR).mono ?_
          rintro e w1 ⟨rfl, rfl⟩
          go_wp2_with fail
          refine (unhide HME).mono ?_
          rintro e w1 ⟨rfl, rfl⟩
          go_wp2_with fail
          refine (unhide HAT).mono ?_
          rintro e w1 ⟨rfl, rfl⟩
          go_wp2_with fail
          refine (unhide HPUT).mono ?_
          rintro e w1 ⟨rfl, hT2, hg2⟩
          go_wp2
          go_ret
          exact ⟨rfl, hT2, grown_trans (unhide HG) hg2⟩
        · cases h5 : (atT t n.parent n.name != n.id)
          · rw [moveE_5 h1 h2 h3 h4 h5, if_pos rfl]
            rw [h1] at HHAS
            rw [h2] at HPAR
            rw [h3] at HME
            generalize atT t n.parent n.name = q at *
            go_enter Tryz.func130, Tryz.ntmps130
            go_wp2_with fail
            refine (unhide HHAS).mono ?_
            rintro e w1 ⟨rfl, rfl⟩
            go_wp2_with fail
            refine (unhide HPAR).mono ?_
            rintro e w1 ⟨rfl, rfl⟩
            go_wp2_with fail
            refine (unhide HME).mono ?_
            rintro e w1 ⟨rfl, rfl⟩
            go_wp2_with fail
            refine (unhide HAT).mono ?_
            rintro e w1 ⟨rfl, rfl⟩
            go_wp2_with fail
            refine (unhide HPUT).mono ?_
            rintro e w1 ⟨rfl, hT2, hg2⟩
            go_wp2
            go_ret
            exact ⟨rfl, hT2, grown_trans (unhide HG) hg2⟩
          · rw [moveE_4 h1 h2 h3 h4 h5, if_neg (by omega)]
            rw [h1] at HHAS
            rw [h2] at HPAR
            rw [h3] at HME
            generalize atT t n.parent n.name = q at *
            go_enter Tryz.func130, Tryz.ntmps130
            go_wp2_with fail
            refine (unhide HHAS).mono ?_
            rintro e w1 ⟨rfl, rfl⟩
            go_wp2_with fail
            refine (unhide HPAR).mono ?_
            rintro e w1 ⟨rfl, rfl⟩
            go_wp2_with fail
            refine (unhide HME).mono ?_
            rintro e w1 ⟨rfl, rfl⟩
            go_wp2_with fail
            refine (unhide HAT).mono ?_
            rintro e w1 ⟨rfl, rfl⟩
            go_wp2
            go_ret
            exact ⟨rfl, unhide HT1, unhide HG⟩
      · rw [moveE_3 h1 h2 h3, if_neg (by omega)]
        rw [h1] at HHAS
        rw [h2] at HPAR
        rw [h3] at HME
        go_enter Tryz.func130, Tryz.ntmps130
        go_wp2_with fail
        refine (unhide HHAS).mono ?_
        rintro e w1 ⟨rfl, rfl⟩
        go_wp2_with fail
        refine (unhide HPAR).mono ?_
        rintro e w1 ⟨rfl, rfl⟩
        go_wp2_with fail
        refine (unhide HME).mono ?_
        rintro e w1 ⟨rfl, rfl⟩
        go_wp2
        go_ret
        exact ⟨rfl, unhide HT1, unhide HG⟩
theorem deleteE_1 {t : Tr} {id : Int} (h : hasT t id = false) : deleteE t id = 9 := by unfold deleteE; rw [h]; rfl
theorem deleteE_2 {t : Tr} {id : Int} (h : hasT t id = true) (h2 : kidsT t id = true) : deleteE t id = 10 := by unfold deleteE; rw [h, h2]; rfl
theorem deleteE_3 {t : Tr} {id : Int} (h : hasT t id = true) (h2 : kidsT t id = false) : deleteE t id = 0 := by unfold deleteE; rw [h, h2]; rfl
set_option maxHeartbeats 1000000 in
theorem delete_nat {x : Ext} (t : Tr) (b m : Nat) (w : World) (ht : TrOk t) (hT : TreeAt x w b t) (hm : m ≤ 99) :
    Calls Tryz.prog 131 #[.pointer (some ⟨b, 0, none⟩), .int .i64 m] w fun e w' => e = .returned (.int .i64 (deleteE t m)) ∧ TreeAt x w' b (if deleteE t m = 0 then trRemove t m else t) ∧ w.grownBy w' (some b) := by
  have HHAS := hide (has_any t b m w ht (by omega) (by omega) hT)
  have HKID := hide (kid_any t b m w hT)
  have hkk := kids_kid t m
  generalize kidT t m = kd at *
  have HT1 := hide hT
  have HG := hide (grown_refl w (some b))
  cases h1 : hasT t m
  · rw [deleteE_1 h1, if_neg (by omega)]
    rw [h1] at HHAS
    go_enter Tryz.func131, Tryz.ntmps131
    go_wp2_with fail
    refine (unhide HHAS).mono ?_
    rintro e w1 ⟨rfl, rfl⟩
    go_wp2
    go_ret
    exact ⟨rfl, unhide HT1, unhide HG⟩
  · have HREM := hide (remove_nat t b m w ht hm hT (by simpa [hasT] using h1))
    cases h2 : kidsT t m
    · rw [deleteE_3 h1 h2, if_pos rfl]
      rw [h1] at HHAS
      rw [h2] at hkk
      have hkk2 := hkk.symm
      clear hkk
      go_enter Tryz.func131, Tryz.ntmps131
      go_wp2_with fail
      refine (unhide HHAS).mono ?_
      rintro e w1 ⟨rfl, rfl⟩
      go_wp2_with fail
      refine (unhide HKID).mono ?_
      rintro e w1 ⟨rfl, rfl⟩
      go_wp2_with fail
      refine (unhide HREM).mono ?_
      rintro e w1 ⟨rfl, hT2, hg2⟩
      go_wp2
      go_ret
      exact ⟨rfl, hT2, hg2⟩
    · rw [deleteE_2 h1 h2, if_neg (by omega)]
      rw [h1] at HHAS
      rw [h2] at hkk
      have hkk2 := hkk.symm
      clear hkk
      go_enter Tryz.func131, Tryz.ntmps131
      go_wp2_with fail
      refine (unhide HHAS).mono ?_
      rintro e w1 ⟨rfl, rfl⟩
      go_wp2_with fail
      refine (unhide HKID).mono ?_
      rintro e w1 ⟨rfl, rfl⟩
      go_wp2
      go_ret
      exact ⟨rfl, unhide HT1, unhide HG⟩
theorem delete_any {x : Ext} (t : Tr) (b : Nat) (id : Int) (w : World) (ht : TrOk t) (hT : TreeAt x w b t) (h0 : 0 ≤ id) (h1 : id ≤ 99) :
    Calls Tryz.prog 131 #[.pointer (some ⟨b, 0, none⟩), .int .i64 id] w fun e w' => e = .returned (.int .i64 (deleteE t id)) ∧ TreeAt x w' b (if deleteE t id = 0 then trRemove t id else t) ∧ w.grownBy w' (some b) := by
  obtain ⟨m, rfl⟩ := Int.eq_ofNat_of_zero_le h0
  exact delete_nat t b m w ht hT (by omega)
end Go.Proofs.YtdcjimlhaklhfabGreatDoor

namespace Go.Proofs.YtdcjimlhaklhfabGreatDoor
open Go.RowKit
def stC (s : St) : List Value := [.int .u8 s.kind.toNat, .int .i64 s.node.id, .int .i64 s.node.parent, .string (bs s.node.name)]
def stCells (l : List St) : List Value := l.flatMap stC
theorem stCells_length (l : List St) : (stCells l).length = l.length * 4 := by
  induction l with
  | nil => rfl
  | cons n l ih => simp only [stCells, List.flatMap_cons, List.length_append] at ih ⊢; simp [stC] at ih ⊢; omega
theorem stCells_snoc (l : List St) (n : St) : stCells (l ++ [n]) = stCells l ++ stC n := by simp [stCells]
theorem stCells_get (l : List St) (k : Nat) (h : k < l.length) :
    (stCells l)[k * 4]? = some (.int .u8 (l[k]).kind.toNat) ∧ (stCells l)[k * 4 + 1]? = some (.int .i64 (l[k]).node.id) ∧ (stCells l)[k * 4 + 2]? = some (.int .i64 (l[k]).node.parent) ∧ (stCells l)[k * 4 + 3]? = some (.string (bs (l[k]).node.name)) := by
  induction l generalizing k with
  | nil => simp at h
  | cons n l ih =>
    cases k with
    | zero => simp [stCells, stC]
    | succ k =>
      have := ih k (by simpa using h)
      have e : stCells (n :: l) = stC n ++ stCells l := rfl
      rw [e, show (k + 1) * 4 = 4 + k * 4 by omega]
      have hl : (stC n).length = 4 := rfl
      refine ⟨?_, ?_, ?_, ?_⟩
      · rw [List.getElem?_append_right (by rw [hl]; omega), hl]; simpa using this.1
      · rw [List.getElem?_append_right (by rw [hl]; omega), hl, show 4 + k * 4 + 1 - 4 = k * 4 + 1 by omega]; simpa using this.2.1
      · rw [List.getElem?_append_right (by rw [hl]; omega), hl, show 4 + k * 4 + 2 - 4 = k * 4 + 2 by omega]; simpa using this.2.2.1
      · rw [List.getElem?_append_right (by rw [hl]; omega), hl, show 4 + k * 4 + 3 - 4 = k * 4 + 3 by omega]; simpa using this.2.2.2
theorem st_cells {wr : World} {ao : Option Addr} {ss : List St} (hrow : Row wr ao ss.length 4 (stCells ss)) {k : Nat} (hk : k < ss.length) :
    ∃ g, ao = some ⟨g, 0, none⟩ ∧ g < wr.heap.size ∧ wr.cell? ⟨g, k * 4, none⟩ = some (.int .u8 (ss[k]).kind.toNat) ∧ wr.cell? ⟨g, k * 4 + 1, none⟩ = some (.int .i64 (ss[k]).node.id) ∧ wr.cell? ⟨g, k * 4 + 2, none⟩ = some (.int .i64 (ss[k]).node.parent) ∧ wr.cell? ⟨g, k * 4 + 3, none⟩ = some (.string (bs (ss[k]).node.name)) := by
  obtain ⟨g, h1, h2, h3⟩ := hrow.2 (by omega)
  have := stCells_get ss k hk
  exact ⟨g, h1, h2, h3 _ _ this.1, h3 _ _ this.2.1, h3 _ _ this.2.2.1, h3 _ _ this.2.2.2⟩
set_option maxHeartbeats 1000000 in
theorem do_any {x : Ext} (t : Tr) (b : Nat) (s : St) (w : World) (ht : TrOk t) (hT : TreeAt x w b t) (hs : StOk s) :
    Calls Tryz.prog 102 #[.agg #[.int .u8 s.kind.toNat, .int .i64 s.node.id, .int .i64 s.node.parent, .string (bs s.node.name)], .pointer (some ⟨b, 0, none⟩)] w fun e w' => e = .returned (.int .i64 (stepE t s)) ∧ TreeAt x w' b (stepT t s) ∧ w.grownBy w' (some b) := by
  have hb1 := (Below.refl w.heap.size w).alloc (Nat.le_refl _) (.cells #[.int .u8 s.kind.toNat, .int .i64 s.node.id, .int .i64 s.node.parent, .string (bs s.node.name)] 169)
  have hT1 := hT.below hb1
  have HG := hide (grown_of_below hb1 (some b))
  obtain ⟨kind, n⟩ := s
  rcases hs with ⟨h1 | h1, h2⟩ | ⟨h1, h2⟩
  · simp only at h1 h2 hT1 HG ⊢
    subst h1
    have HC := hide (create_any t b n _ ht hT1 ⟨h2.1, h2.2.1, h2.2.2.1, h2.2.2.2.1⟩)
    have e1 : stepE t ⟨43, n⟩ = createE t n := by unfold stepE; rw [if_pos rfl]
    have e2 : stepT t ⟨43, n⟩ = if createE t n = 0 then trPut t n else t := by unfold stepT; rw [e1]; show (if createE t n = 0 then (if (43 : UInt8) = 45 then trRemove t n.id else trPut t n) else t) = _; rw [if_neg (show ¬ ((43 : UInt8) = 45) by decide)]
    rw [e1, e2]
    clear hb1 hT1 hT ht e1 e2
    generalize (if createE t n = 0 then trPut t n else t) = T2 at *
    generalize createE t n = ee at *
    go_enter Tryz.func102, Tryz.ntmps102
    go_wp2_with fail
    refine (unhide HC).mono ?_
    rintro e w1 ⟨rfl, hT2, hg2⟩
    go_wp2
    go_ret
    exact ⟨rfl, hT2, grown_trans (unhide HG) hg2⟩
  · simp only at h1 h2 hT1 HG ⊢
    subst h1
    have HC := hide (move_any t b n _ ht hT1 ⟨h2.1, h2.2.1, h2.2.2.1, h2.2.2.2.1⟩)
    have e1 : stepE t ⟨61, n⟩ = moveE t n := by unfold stepE; rw [if_neg (by show ¬ ((61 : UInt8) = 43); decide), if_pos rfl]
    have e2 : stepT t ⟨61, n⟩ = if moveE t n = 0 then trPut t n else t := by unfold stepT; rw [e1]; show (if moveE t n = 0 then (if (61 : UInt8) = 45 then trRemove t n.id else trPut t n) else t) = _; rw [if_neg (show ¬ ((61 : UInt8) = 45) by decide)]
    rw [e1, e2]
    clear hb1 hT1 hT ht e1 e2
    generalize (if moveE t n = 0 then trPut t n else t) = T2 at *
    generalize moveE t n = ee at *
    go_enter Tryz.func102, Tryz.ntmps102
    go_wp2_with fail
    refine (unhide HC).mono ?_
    rintro e w1 ⟨rfl, hT2, hg2⟩
    go_wp2
    go_ret
    exact ⟨rfl, hT2, grown_trans (unhide HG) hg2⟩
  · simp only at h1 h2 hT1 HG ⊢
    subst h1
    have HC := hide (delete_any t b n.id _ ht hT1 (by omega) h2.2)
    have e1 : stepE t ⟨45, n⟩ = deleteE t n.id := by unfold stepE; rw [if_neg (by show ¬ ((45 : UInt8) = 43); decide), if_neg (by show ¬ ((45 : UInt8) = 61); decide), if_pos rfl]
    have e2 : stepT t ⟨45, n⟩ = if deleteE t n.id = 0 then trRemove t n.id else t := by unfold stepT; rw [e1, if_pos (show (⟨45, n⟩ : St).kind = 45 from rfl)]
    rw [e1, e2]
    clear hb1 hT1 hT ht e1 e2
    generalize (if deleteE t n.id = 0 then trRemove t n.id else t) = T2 at *
    generalize deleteE t n.id = ee at *
    go_enter Tryz.func102, Tryz.ntmps102
    go_wp2_with fail
    refine (unhide HC).mono ?_
    rintro e w1 ⟨rfl, hT2, hg2⟩
    go_wp2
    go_ret
    exact ⟨rfl, hT2, grown_trans (unhide HG) hg2⟩
theorem doAll_cons {ss : List St} {t' : Tr} {k : Nat} (hk : k < ss.length) (h : stepE t' ss[k] = 0) : doAllE (ss.drop k) t' k = doAllE (ss.drop (k + 1)) (stepT t' ss[k]) (k + 1) ∧ doAllT (ss.drop k) t' = doAllT (ss.drop (k + 1)) (stepT t' ss[k]) := by
  rw [List.drop_eq_getElem_cons hk, doAllE, doAllT, if_pos h, if_pos h]; exact ⟨rfl, rfl⟩
theorem doAll_stop {ss : List St} {t' : Tr} {k : Nat} (hk : k < ss.length) (h : ¬ stepE t' ss[k] = 0) : doAllE (ss.drop k) t' k = (stepE t' ss[k], k) ∧ doAllT (ss.drop k) t' = t' ∧ stepT t' ss[k] = t' := by
  refine ⟨?_, ?_, ?_⟩
  · rw [List.drop_eq_getElem_cons hk, doAllE, if_neg h]
  · rw [List.drop_eq_getElem_cons hk, doAllT, if_neg h]
  · unfold stepT; rw [if_neg h]
set_option maxHeartbeats 1000000 in
theorem doAll_any {x : Ext} (t : Tr) (b : Nat) (ss : List St) (ao : Option Addr) (cap : Nat) (w : World) (ht : TrOk t) (hT : TreeAt x w b t) (hrow : Row w ao ss.length 4 (stCells ss)) (hne : ∀ g, ao = some ⟨g, 0, none⟩ → g ≠ b) (hs : ∀ s ∈ ss, StOk s) (hl : ss.length ≤ 4000) :
    Calls Tryz.prog 66 #[.slice ao ss.length cap, .pointer (some ⟨b, 0, none⟩)] w fun e w' => e = .returned (.tuple #[.int .i64 (doAllE ss t 0).1, .int .i64 (doAllE ss t 0).2]) ∧ TreeAt x w' b (doAllT ss t) ∧ w.grownBy w' (some b) := by
  have HROW := hide hrow; clear hrow
  have HNE := hide hne; clear hne
  have HS := hide hs; clear hs
  have HT := hide hT; clear hT
  have HO := hide ht; clear ht
  have HI0 : Hid (doAllE ss t 0 = doAllE (ss.drop 0) t 0 ∧ doAllT ss t = doAllT (ss.drop 0) t) := hide ⟨rfl, rfl⟩
  generalize doAllE ss t 0 = E at *
  generalize doAllT ss t = T at *
  go_enter Tryz.func66, Tryz.ntmps66
  go_wp2
  go_loopw [11] (fun i wr => ∃ k : Nat, ∃ t' : Tr, k ≤ ss.length ∧ i = .int .i64 k ∧ Hid (TrOk t') ∧ Hid (TreeAt x wr b t') ∧ Hid (w.grownBy wr (some b)) ∧ Hid (E = doAllE (ss.drop k) t' k ∧ T = doAllT (ss.drop k) t')) (fun i _ => ss.length - (intOf i).toNat)
  case atStart => exact ⟨0, t, Nat.zero_le _, rfl, HO, HT, hide (grown_refl _ _), HI0⟩
  case round =>
    obtain ⟨k, t', hk, rfl, HO', HT', HG, HI⟩ := hrel
    by_cases hlt : k < ss.length
    · obtain ⟨g, hao, hg, c0, c1, c2, c3⟩ := st_cells (row_grown (unhide HROW) (unhide HG) (unhide HNE)) hlt
      rw [hao]
      have HSK := hide (unhide HS _ (List.getElem_mem hlt))
      have HB1 := hide ((Below.refl wr.heap.size wr).alloc (Nat.le_refl _) (.cells #[.int .u8 (ss[k]).kind.toNat, .int .i64 (ss[k]).node.id, .int .i64 (ss[k]).node.parent, .string (bs (ss[k]).node.name)] 169))
      have HD := hide (do_any t' b ss[k] _ (unhide HO') ((unhide HT').below (unhide HB1)) (unhide HSK))
      have HG1 := hide (grown_trans (unhide HG) (grown_of_below (unhide HB1) (some b)))
      clear hao
      by_cases hE : stepE t' ss[k] = 0
      · have HI2 := hide (doAll_cons hlt hE)
        have HOK := hide (stepT_ok (unhide HO') (unhide HSK))
        rw [hE] at HD
        clear hE
        generalize ss[k] = s at *
        go_wp2_with fail
        refine (unhide HD).mono ?_
        rintro e w2 ⟨rfl, hT2, hg2⟩
        have HT2 := hide hT2
        have HG2 := hide (grown_trans (unhide HG1) hg2)
        clear hT2 hg2 c0 c1 c2 c3
        go_wp2
        go_roundw
        case rel => exact ⟨k + 1, _, by omega, by go_num, HOK, HT2, HG2, hide ⟨(unhide HI).1.trans (unhide HI2).1, (unhide HI).2.trans (unhide HI2).2⟩⟩
        case measure => simp [intOf]; omega
      · have HI2 := hide (doAll_stop hlt hE)
        have hE' : (stepE t' ss[k] != 0) = true := by rw [bne_iff_ne]; exact hE
        clear hE
        rw [(unhide HI2).2.2] at HD
        generalize stepE t' ss[k] = ee at *
        generalize ss[k] = s at *
        go_wp2_with fail
        refine (unhide HD).mono ?_
        rintro e w2 ⟨rfl, hT2, hg2⟩
        have HT2 := hide hT2
        have HG2 := hide (grown_trans (unhide HG1) hg2)
        clear hT2 hg2 c0 c1 c2 c3
        go_wp2
        go_ret2
        rw [(unhide HI).1, (unhide HI).2, (unhide HI2).1, (unhide HI2).2.1]
        exact ⟨rfl, unhide HT2, unhide HG2⟩
    · have HE : Hid (E = (0, 0) ∧ T = t') := by
        apply hide; rw [(unhide HI).1, (unhide HI).2, List.drop_eq_nil_of_le (by omega)]; exact ⟨rfl, rfl⟩
      go_wp2
      go_ret2
      rw [(unhide HE).1, (unhide HE).2]
      exact ⟨rfl, unhide HT', unhide HG⟩
end Go.Proofs.YtdcjimlhaklhfabGreatDoor

namespace Go.Proofs.YtdcjimlhaklhfabGreatDoor
open Go.RowKit
def StRes (l : Str) (e : Ending) : Prop := ∃ (k i p : Int) (z : ByteArray), e = .returned (.tuple #[.agg #[.int .u8 k, .int .i64 i, .int .i64 p, .string z], .bool (readStep l).isSome]) ∧ ∀ st, readStep l = some st → k = st.kind.toNat ∧ i = st.node.id ∧ p = st.node.parent ∧ z = bs st.node.name
theorem stRes_none {l : Str} (h : readStep l = none) (k i p : Int) (z : ByteArray) : StRes l (.returned (.tuple #[.agg #[.int .u8 k, .int .i64 i, .int .i64 p, .string z], .bool false])) :=
  ⟨k, i, p, z, by rw [h]; rfl, fun st hs => by rw [h] at hs; cases hs⟩
theorem stRes_some {l : Str} {st : St} (h : readStep l = some st) : StRes l (.returned (.tuple #[.agg #[.int .u8 st.kind.toNat, .int .i64 st.node.id, .int .i64 st.node.parent, .string (bs st.node.name)], .bool true])) :=
  ⟨_, _, _, _, by rw [h]; rfl, fun st' hs => by rw [h] at hs; cases hs; exact ⟨rfl, rfl, rfl, rfl⟩⟩
theorem tail_bs (k : UInt8) (r : Str) : (bs (k :: r)).extract 1 (bs (k :: r)).size = bs r := by
  rw [bs_extract, sl_bs, bs_size, List.take_of_length_le (Nat.le_refl _)]; rfl
theorem head_bs (k : UInt8) (r : Str) (h : 0 < (bs (k :: r)).size) : (bs (k :: r))[0]'h = k := rfl
theorem beq_u8 {k : UInt8} {n : Nat} (h : n < 256) : ((k.toNat : Int) == (n : Int)) = decide (k = UInt8.ofNat n) := by
  rw [Bool.eq_iff_iff]; simp only [beq_iff_eq, decide_eq_true_eq]
  constructor
  · intro e; apply UInt8.toNat_inj.1; rw [UInt8.toNat_ofNat']; omega
  · intro e; subst e; rw [UInt8.toNat_ofNat']; omega
set_option maxHeartbeats 1000000 in
theorem readStep_empty (s : ByteArray) (w : World) (hs : s.size ≤ 4000) (h : bodyB (sl s) = false ∨ bodyS (sl s) = []) :
    Calls Tryz.prog 101 #[.string s] w fun e w' => StRes (sl s) e ∧ Below w.heap.size w w' := by
  have HB := hide (fun W => body_any s W hs)
  have HN : Hid (readStep (sl s) = none) := by
    apply hide; unfold readStep
    rcases h with h | h
    · rw [h]; rfl
    · rw [h]; split <;> rfl
  have hst : bodyB (sl s) = false ∨ (bodyB (sl s) = true ∧ bodyS (sl s) = []) := by
    rcases h with h | h
    · exact .inl h
    · cases hb : bodyB (sl s)
      · exact .inl rfl
      · exact .inr ⟨rfl, h⟩
  clear h
  generalize bodyB (sl s) = bb at *
  generalize bodyS (sl s) = B at *
  rcases hst with hst | ⟨hst, hB⟩
  · subst hst
    go_enter Tryz.func101, Tryz.ntmps101
    go_wp2_with fail
    refine (unhide HB _).mono ?_
    rintro e w1 ⟨rfl, rfl⟩
    go_wp2
    refine bodyPost_ret (v := .tuple #[.agg #[.int .u8 0, .int .i64 0, .int .i64 0, .string ByteArray.empty], .bool false]) (by simp [results, Tryz.results101, go_sem]; rfl) rfl ⟨stRes_none (unhide HN) _ _ _ _, ?_⟩
    exact (Below.refl _ _).alloc (Nat.le_refl _) _
  · subst hst hB
    have hne : (bs ([] : Str)).toList = [] := by rw [tl_sl, sl_bs]
    have hne2 : (bs ([] : Str)).toList.isEmpty = true := by rw [hne]; rfl
    go_enter Tryz.func101, Tryz.ntmps101
    go_wp2_with fail
    refine (unhide HB _).mono ?_
    rintro e w1 ⟨rfl, rfl⟩
    go_wp2
    refine bodyPost_ret (v := .tuple #[.agg #[.int .u8 0, .int .i64 0, .int .i64 0, .string ByteArray.empty], .bool false]) (by simp [results, Tryz.results101, go_sem]; rfl) rfl ⟨stRes_none (unhide HN) _ _ _ _, ?_⟩
    exact (Below.refl _ _).alloc (Nat.le_refl _) _
theorem stOf_node {k : UInt8} {r : Str} (h : k = 43 ∨ k = 61) : stOf (k :: r) = (readNode r).map (fun n => ⟨k, n⟩) := by
  show (if k = 43 ∨ k = 61 then _ else _) = _; rw [if_pos h]
theorem stOf_del {r : Str} : stOf (45 :: r) = if (number r 1 99).2 then some ⟨45, ⟨(number r 1 99).1, 0, []⟩⟩ else none := by
  show (if (45 : UInt8) = 43 ∨ (45 : UInt8) = 61 then (readNode r).map (fun n => (⟨45, n⟩ : St)) else if (45 : UInt8) = 45 then (if (number r 1 99).2 then some (⟨45, ⟨(number r 1 99).1, 0, []⟩⟩ : St) else none) else none) = _
  rw [if_neg (by decide), if_pos rfl]
theorem stOf_other {k : UInt8} {r : Str} (h : ¬ (k = 43 ∨ k = 61)) (h2 : ¬ k = 45) : stOf (k :: r) = none := by
  show (if k = 43 ∨ k = 61 then _ else if k = 45 then _ else _) = _; rw [if_neg h, if_neg h2]
set_option maxHeartbeats 2000000 in
theorem readStep_full (s : ByteArray) (w : World) (hs : s.size ≤ 4000) (k : UInt8) (r : Str) (hb : bodyB (sl s) = true) (hB : bodyS (sl s) = k :: r) :
    Calls Tryz.prog 101 #[.string s] w fun e w' => StRes (sl s) e ∧ Below w.heap.size w w' := by
  have HB := hide (fun W => body_any s W hs)
  have hlen : (k :: r).length ≤ 4000 := by have := bodyS_len (sl s); rw [hB, sl_length] at this; omega
  have hr4 : (bs r).size ≤ 4000 := by rw [bs_size]; simp at hlen; omega
  have HST : Hid (readStep (sl s) = stOf (k :: r)) := by apply hide; unfold readStep; rw [hb, hB]; rfl
  rw [hb, hB] at HB
  have hpos : 0 < (bs (k :: r)).size := by rw [bs_size]; simp
  have hne := ne_nil_at (bs (k :: r)) hpos
  have hne2 : (bs (k :: r)).toList.isEmpty = false := by rw [List.isEmpty_eq_false_iff]; exact hne
  have htail := tail_bs k r
  have hhead := head_bs k r hpos
  have hp1 : (1 : Int) ≤ (bs (k :: r)).size := by omega
  clear hb hB hlen
  by_cases hk : k = 43 ∨ k = 61
  · have HRN := hide (fun W => readNode_any (bs r) W hr4)
    rw [sl_bs] at HRN
    have HST2 := hide ((unhide HST).trans (stOf_node hk))
    have hkk : ((k.toNat : Int) == 43) = true ∨ (((k.toNat : Int) == 43) = false ∧ ((k.toNat : Int) == 61) = true) := by
      rcases hk with h | h
      · left; rw [h]; rfl
      · right; rw [h]; exact ⟨rfl, rfl⟩
    clear hk HST
    generalize readNode r = R at *
    rcases hkk with hkk | ⟨hk1, hkk⟩
    all_goals
      go_enter Tryz.func101, Tryz.ntmps101
      go_wp2_with fail
      refine (unhide HB _).mono ?_
      rintro e w1 ⟨rfl, rfl⟩
      go_wp2_with fail
      refine (unhide HRN _).mono ?_
      rintro e w2 ⟨rfl, hb2⟩
      obtain ⟨hc, hf⟩ := bcell hb2
      have hz : w.heap.size + 1 ≤ w2.heap.size := by have := hb2.size; simp at this; omega
      have HB0 : Hid (Below w.heap.size w w2) := hide (((Below.refl _ _).alloc (Nat.le_refl _) _).trans (hb2.mono (by simp)))
      have hzl : w.heap.size < w2.heap.size := by omega
      have hzn : ¬ w.heap.size = w2.heap.size := by omega
      clear hb2
      go_wp2
      refine bodyPost_ret (v := .tuple #[.agg #[.int .u8 k.toNat, .int .i64 (R.getD nd0).id, .int .i64 (R.getD nd0).parent, .string (bs (R.getD nd0).name)], .bool R.isSome]) (by simp [results, Tryz.results101, go_sem, hc, hzl]) rfl ⟨?_, ?_⟩
      · cases R with
        | none => exact stRes_none (unhide HST2) _ _ _ _
        | some n => exact stRes_some (unhide HST2)
      · exact (((((unhide HB0).setCell (Nat.le_refl _) _).setCell (Nat.le_refl _) _).setCell (Nat.le_refl _) _).setCell (Nat.le_refl _) _).alloc (by simp; omega) _
  · have hk1 : ((k.toNat : Int) == 43) = false := by
      rw [beq_eq_false_iff_ne]; intro h; exact hk (.inl (UInt8.toNat_inj.1 (by simpa using (by omega : k.toNat = 43))))
    have hk2 : ((k.toNat : Int) == 61) = false := by
      rw [beq_eq_false_iff_ne]; intro h; exact hk (.inr (UInt8.toNat_inj.1 (by simpa using (by omega : k.toNat = 61))))
    by_cases hk3 : k = 45
    · subst hk3
      have HNU := hide (fun W => number_any (bs r) 1 99 W hr4 (by omega) (by omega))
      rw [sl_bs] at HNU
      have HST2 := hide ((unhide HST).trans stOf_del)
      clear hk HST hk1 hk2
      generalize (number r 1 99).1 = x at *
      generalize (number r 1 99).2 = q at *
      go_enter Tryz.func101, Tryz.ntmps101
      go_wp2_with fail
      refine (unhide HB _).mono ?_
      rintro e w1 ⟨rfl, rfl⟩
      go_wp2_with fail
      refine (unhide HNU _).mono ?_
      rintro e w2 ⟨rfl, rfl⟩
      go_wp2
      refine bodyPost_ret (v := .tuple #[.agg #[.int .u8 45, .int .i64 x, .int .i64 0, .string ⟨#[]⟩], .bool q]) (by simp [results, Tryz.results101, go_sem]) rfl ⟨?_, ?_⟩
      · cases q with
        | false => exact stRes_none (unhide HST2) _ _ _ _
        | true => exact stRes_some (st := ⟨45, ⟨x, 0, []⟩⟩) (unhide HST2)
      · exact (Below.refl _ _).alloc (Nat.le_refl _) _
    · have hk4 : ((k.toNat : Int) == 45) = false := by
        rw [beq_eq_false_iff_ne]; intro h; exact hk3 (UInt8.toNat_inj.1 (by simpa using (by omega : k.toNat = 45)))
      have HST2 := hide ((unhide HST).trans (stOf_other hk hk3))
      clear hk hk3 HST
      go_enter Tryz.func101, Tryz.ntmps101
      go_wp2_with fail
      refine (unhide HB _).mono ?_
      rintro e w1 ⟨rfl, rfl⟩
      go_wp2
      refine bodyPost_ret (v := .tuple #[.agg #[.int .u8 0, .int .i64 0, .int .i64 0, .string ByteArray.empty], .bool false]) (by simp [results, Tryz.results101, go_sem]; rfl) rfl ⟨stRes_none (unhide HST2) _ _ _ _, ?_⟩
      exact (Below.refl _ _).alloc (Nat.le_refl _) _
theorem readStep_any (s : ByteArray) (w : World) (hs : s.size ≤ 4000) :
    Calls Tryz.prog 101 #[.string s] w fun e w' => StRes (sl s) e ∧ Below w.heap.size w w' := by
  cases hb : bodyB (sl s)
  · exact readStep_empty s w hs (.inl hb)
  · cases hB : bodyS (sl s) with
    | nil => exact readStep_empty s w hs (.inr hB)
    | cons k r => exact readStep_full s w hs k r hb hB
end Go.Proofs.YtdcjimlhaklhfabGreatDoor

namespace Go.Proofs.YtdcjimlhaklhfabGreatDoor
open Go.RowKit
theorem row_of_owns3 {w : World} {base : Nat} {e : TypeId} {size : Nat} {v : Value} {n : Nat} {xs : List Value} (h : w.ownsRow base e size v n xs) : ∃ ao cap, v = .slice ao n cap ∧ Row w ao n size xs ∧ ∀ g, ao = some ⟨g, 0, none⟩ → base ≤ g := by
  obtain ⟨ao, cap, hv, hr⟩ := row_of_owns h
  refine ⟨ao, cap, hv, hr, fun g hg => ?_⟩
  subst hv
  exact own_ge h g (by rw [hg]; rfl)
theorem Tryz.infoStep : (Tryz.prog.info? 169).map (fun i => (i.zero, i.size, i.bytes)) = some (some (.agg #[.int .u8 0, .int .i64 0, .int .i64 0, .string ByteArray.empty]), 4, 40) := by kernel_rfl
theorem news_four' {w : World} (o : Obj) (a b c d : Value) (t : TypeId) : ∀ j x, [a, b, c, d][j]? = some x → ((w.alloc o).alloc (.cells #[a, b, c, d] t)).cell? ((⟨w.heap.size + 1, 0, none⟩ : Addr).add j) = some x := by
  intro j x hx
  have := World.news_of_block (cs := #[a, b, c, d]) (heap_alloc_new (w.alloc o) (.cells #[a, b, c, d] t)) j x hx
  simpa using this
def RsInv (rs : List Str) (k : Nat) (ss : List St) : Prop := ss.length = k ∧ readSteps rs = ss ++ readSteps (rs.drop k)
theorem rsInv_yes {rs : List Str} {k : Nat} {ss : List St} (h : RsInv rs k ss) (hk : k < rs.length) {n : St} (hn : readStep rs[k] = some n) : RsInv rs (k + 1) (ss ++ [n]) := by
  refine ⟨by simp [h.1], ?_⟩
  rw [h.2, List.drop_eq_getElem_cons hk, readSteps, hn]; simp
theorem rsInv_no {rs : List Str} {k : Nat} {ss : List St} (h : RsInv rs k ss) (hk : k < rs.length) (hn : readStep rs[k] = none) : readSteps rs = ss ∧ ss.length = k ∧ decide ((readSteps rs).length = rs.length) = false := by
  have e : readSteps rs = ss := by rw [h.2, List.drop_eq_getElem_cons hk, readSteps, hn]; simp
  refine ⟨e, h.1, ?_⟩
  rw [e, h.1]; exact decide_eq_false (by omega)
theorem rsInv_end {rs : List Str} {k : Nat} {ss : List St} (h : RsInv rs k ss) (hk : ¬ k < rs.length) (hk' : k ≤ rs.length) : readSteps rs = ss ∧ ss.length = k ∧ decide ((readSteps rs).length = rs.length) = true := by
  have e : readSteps rs = ss := by rw [h.2, List.drop_eq_nil_of_le (by omega)]; simp [readSteps]
  refine ⟨e, h.1, ?_⟩
  rw [e, h.1]; exact decide_eq_true (by omega)
set_option maxHeartbeats 2000000 in
theorem stepsRead_any (s : ByteArray) (w : World) (hs : s.size ≤ 4000) :
    Calls Tryz.prog 65 #[.string s] w fun e w' => (∃ ao cap, e = .returned (.tuple #[.slice ao (readSteps (cut (sl s))).length cap, .bool (decide ((readSteps (cut (sl s))).length = (cut (sl s)).length))]) ∧ Row w' ao (readSteps (cut (sl s))).length 4 (stCells (readSteps (cut (sl s)))) ∧ ∀ g, ao = some ⟨g, 0, none⟩ → w.heap.size ≤ g) ∧ Below w.heap.size w w' := by
  obtain ⟨i0, hi, hz0, hz1, hz2⟩ := info_parts Tryz.infoStep
  have HC := hide (fun W => cut_any s W hs)
  have hrl : (cut (sl s)).length ≤ 4000 := by have := cut_length_le (sl s); rw [sl_length] at this; omega
  have HRM : Hid (∀ r ∈ cut (sl s), r.length ≤ 4000) := hide (fun r hr => by have := cut_mem_len (sl s) r hr; rw [sl_length] at this; omega)
  generalize cut (sl s) = rs at *
  go_enter Tryz.func65, Tryz.ntmps65
  go_wp2_with fail
  refine (unhide HC _).mono ?_
  rintro e w1 ⟨ao, cap, rfl, hrow, hb1⟩
  have HROW := hide hrow
  have HB1 := hide hb1
  have hsz1 := hb1.size
  clear hrow hb1
  go_wp2
  go_loopw [4, 12] (fun v i wr => ∃ k : Nat, ∃ ss : List St, k ≤ rs.length ∧ i = .int .i64 k ∧ wr.ownsRow w1.heap.size 169 4 v k (stCells ss) ∧ Below w1.heap.size w1 wr ∧ Hid (RsInv rs k ss)) (fun _ i _ => rs.length - (intOf i).toNat)
  case atStart => exact ⟨0, [], Nat.zero_le _, rfl, World.ownsRow_nil _ _ _ _, Below.refl _ _, hide ⟨rfl, rfl⟩⟩
  case round =>
    obtain ⟨k, ss, hk, rfl, hown, hbel, HI⟩ := hrel
    by_cases hlt : k < rs.length
    · obtain ⟨g, hao, hg, hcell⟩ := str_cell (unhide HROW) hbel hlt
      rw [hao]
      have hrl2 : (rs[k]).length ≤ 4000 := unhide HRM _ (List.getElem_mem hlt)
      have HP := hide (fun W => readStep_any (bs rs[k]) W (by rw [bs_size]; exact hrl2))
      rw [sl_bs] at HP
      have hsz := hbel.size
      clear hao
      generalize hr : rs[k] = r at *
      have HR := hide hr; clear hr
      go_wp2_with fail
      refine (unhide HP _).mono ?_
      rintro e w3 ⟨⟨x0, x1, x2, x3, rfl, hx⟩, hb3⟩
      have HOWN := hide (own_below hown hb3)
      have HB3 := hide (hbel.trans (hb3.mono hsz))
      have hz3 : wr.heap.size ≤ w3.heap.size := hb3.size
      have HX := hide hx
      clear hx hb3 HP
      cases hR : readStep r with
      | none =>
        have HS := hide (rsInv_no (unhide HI) hlt (by rw [unhide HR]; exact hR))
        clear hR
        go_wp2
        go_ret2
        obtain ⟨f1, f2, f3⟩ := unhide HS
        have hE := (Below.refl w3.heap.size w3).alloc (Nat.le_refl _) (.cells #[.int .u8 x0, .int .i64 x1, .int .i64 x2, .string x3] 169)
        obtain ⟨ao', cap', rfl, hr, hge⟩ := row_of_owns3 (own_below (unhide HOWN) hE)
        rw [f3, f1]
        rw [← f2] at hr
        exact ⟨⟨ao', cap', by rw [f2]; rfl, hr, fun g hg => by have := hge g hg; omega⟩, (unhide HB1).trans (((unhide HB3).trans (hE.mono (by omega))).mono hsz1)⟩
      | some st =>
        have HN := hide (rsInv_yes (unhide HI) hlt (n := st) (by rw [unhide HR]; exact hR))
        obtain ⟨rfl, rfl, rfl, rfl⟩ := unhide HX st hR
        clear HX hR
        go_wp2_with (first
          | (at_builtin; (refine wpList_append_own _ rfl _ _ 122 rfl w1.heap.size 169 i0 (.agg #[.int .u8 0, .int .i64 0, .int .i64 0, .string ByteArray.empty]) 4 40 Tryz.underlying122 hi hz0 hz1 hz2 rfl (by decide) _ _ _ rfl (own_below (unhide HOWN) (((Below.refl _ _).alloc (Nat.le_refl _) _).alloc (by simp) _)) ⟨w3.heap.size + 1, 0, none⟩ 1 1 [.int .u8 st.kind.toNat, .int .i64 st.node.id, .int .i64 st.node.parent, .string (bs st.node.name)] rfl rfl (news_four' _ _ _ _ _ _) (by simp [Value.oneCell']) (by unfold maxLen; omega) (by omega) (by have := hbel.size; simp; omega) ?_))
          | go_in)
        intro v' w4 hown' hgrow _
        have hb4 : Below w1.heap.size w1 w4 := ((((unhide HB3).alloc (by omega) _).alloc (by simp; omega) _)).grown hgrow (by simp; omega) (own_ge hown)
        have hown2 : w4.ownsRow w1.heap.size 169 4 v' (k + 1) (stCells (ss ++ [st])) := by rw [stCells_snoc]; exact hown'
        clear hgrow hown hbel hown'
        go_wp2
        go_roundw
        case rel => exact ⟨k + 1, _, by omega, by go_num, hown2, hb4, HN⟩
        case measure => simp [intOf]; omega
    · have HF := hide (rsInv_end (unhide HI) hlt hk)
      go_wp2
      go_ret2
      obtain ⟨f1, f2, f3⟩ := unhide HF
      obtain ⟨ao', cap', rfl, hr, hge⟩ := row_of_owns3 hown
      rw [f3, f1]
      rw [← f2] at hr
      exact ⟨⟨ao', cap', by rw [f2]; rfl, hr, fun g hg => by have := hge g hg; omega⟩, (unhide HB1).trans (hbel.mono hsz1)⟩
/-! Texts. -/
theorem bs_app (a b : Str) : bs a ++ bs b = bs (a ++ b) := by
  rw [← bs_sl (bs a ++ bs b), sl_append, sl_bs, sl_bs]
theorem add_bs (a b : Str) (ha : a.length ≤ 1000000) (hb : b.length ≤ 1000000) (W : World) : (Op.stringOp .add (bs a) (bs b)).run Tryz.prog W = .ok (.string (bs (a ++ b))) W := by
  rw [run_string_add_sum (P := Tryz.prog) W _ _ (by rw [bs_size, bs_size]; omega), bs_app]
theorem add_32 (a : Str) (ha : a.length ≤ 1000000) (W : World) : (Op.stringOp .add (bs a) ⟨#[32]⟩).run Tryz.prog W = .ok (.string (bs (a ++ [32]))) W := add_bs a [32] ha (by simp) W
theorem add_59 (a : Str) (ha : a.length ≤ 1000000) (W : World) : (Op.stringOp .add (bs a) ⟨#[59]⟩).run Tryz.prog W = .ok (.string (bs (a ++ [59]))) W := add_bs a [59] ha (by simp) W
set_option maxHeartbeats 1000000 in
theorem nodeText_any (n : Nd) (w : World) (h1 : 0 ≤ n.id ∧ n.id ≤ 99) (h2 : 0 ≤ n.parent ∧ n.parent ≤ 99) (hn : n.name.length ≤ 4000) :
    Calls Tryz.prog 64 #[.agg #[.int .i64 n.id, .int .i64 n.parent, .string (bs n.name)]] w fun e w' => e = .returned (.string (bs (nodeText n))) ∧ Below w.heap.size w w' := by
  have HI := hide (fun W => itoa_any n.id W h1.1 h1.2)
  have HP := hide (fun W => itoa_any n.parent W h2.1 h2.2)
  have l1 := digs_len n.id
  have l2 := digs_len n.parent
  have HN : Hid (nodeText n = digs n.id ++ [32] ++ digs n.parent ++ [32] ++ n.name ++ [59]) := hide rfl
  generalize digs n.id = a at *
  generalize digs n.parent = b at *
  have a1 := add_32 a (by omega)
  have a2 := add_bs (a ++ [32]) b (by simp; omega) (by omega)
  have a3 := add_32 (a ++ [32] ++ b) (by simp; omega)
  have a4 := add_bs (a ++ [32] ++ b ++ [32]) n.name (by simp; omega) (by omega)
  have a5 := add_59 (a ++ [32] ++ b ++ [32] ++ n.name) (by simp; omega)
  generalize a ++ [32] ++ b ++ [32] ++ n.name ++ [59] = r5 at *
  generalize a ++ [32] ++ b ++ [32] ++ n.name = r4 at *
  generalize a ++ [32] ++ b ++ [32] = r3 at *
  generalize a ++ [32] ++ b = r2 at *
  generalize a ++ [32] = r1 at *
  go_enter Tryz.func64, Tryz.ntmps64
  go_wp2_with fail
  refine (unhide HI _).mono ?_
  rintro e w1 ⟨rfl, rfl⟩
  go_wp2_with fail
  refine (unhide HP _).mono ?_
  rintro e w1 ⟨rfl, rfl⟩
  go_wp2
  go_ret
  exact ⟨ret_str (by rw [unhide HN]), (Below.refl _ _).alloc (Nat.le_refl _) _⟩
set_option maxHeartbeats 1000000 in
theorem text_any {x : Ext} (t : Tr) (b : Nat) (w : World) (ht : TrOk t) (hT : TreeAt x w b t) :
    Calls Tryz.prog 32 #[.pointer (some ⟨b, 0, none⟩)] w fun e w' => e = .returned (.string (bs (textT t))) ∧ Below w.heap.size w w' := by
  have HT := hide hT; clear hT
  have HO := hide ht; clear ht
  go_enter Tryz.func32, Tryz.ntmps32
  go_wp2
  go_loopw [3, 4] (fun x i wr => ∃ k : Nat, ∃ S : Str, k ≤ 99 ∧ i = .int .i64 ((k : Int) + 1) ∧ x = .string (bs S) ∧ Below w.heap.size w wr ∧ Hid (S = textTo t k)) (fun _ i _ => 101 - (intOf i).toNat)
  case atStart => exact ⟨0, [], by omega, rfl, rfl, Below.refl _ _, hide rfl⟩
  case round =>
    obtain ⟨k, S, hk, rfl, rfl, hbel, HS⟩ := hrel
    by_cases hlt : k < 99
    · have hTr := (unhide HT).below hbel
      have c0 := hTr.here (k + 1) (by omega)
      have c1 := hTr.id (k + 1) (by omega)
      have c2 := hTr.parent (k + 1) (by omega)
      have c3 := hTr.name (k + 1) (by omega)
      have HSU := hide (textTo_succ t k)
      have hSl : S.length ≤ 18 * 99 := by rw [unhide HS]; have := textTo_len (unhide HO) k; omega
      have hk0 : (0 : Int) ≤ (k : Int) + 1 := by omega
      have hk1 : (k : Int) + 1 < 100 := by omega
      have hk2 : ((k : Int) + 1).toNat = k + 1 := by omega
      have hsz := hbel.size
      clear hTr
      have HTA : Hid (textAt t (k + 1) = match t (k + 1) with | none => [] | some n => nodeText n) := hide rfl
      cases hq : t (k + 1) with
      | none =>
        have HS2 : Hid (S = textTo t (k + 1)) := by apply hide; rw [unhide HSU, unhide HTA, hq, unhide HS]; simp
        rw [hq] at c0 c1 c2 c3
        clear hq
        go_wp2
        go_roundw
        case rel => exact ⟨k + 1, S, by omega, by go_num, rfl, hbel, HS2⟩
        case measure => simp [intOf]; omega
      | some n =>
        have hb := (unhide HO).2 (k + 1) n hq
        have HS2 : Hid (S ++ nodeText n = textTo t (k + 1)) := by apply hide; rw [unhide HSU, unhide HTA, hq, unhide HS]
        have hnl := nodeText_len hb.2.2.2.2.2
        have HNT := hide (fun W => nodeText_any n W ⟨by omega, by omega⟩ ⟨hb.2.2.2.1, hb.2.2.2.2.1⟩ (by have := name_len hb.2.2.2.2.2; omega))
        have hadd := add_bs S (nodeText n) (by omega) (by omega)
        rw [hq] at c0 c1 c2 c3
        clear hq hb
        generalize nodeText n = nt at *
        go_wp2_with fail
        refine (unhide HNT _).mono ?_
        rintro e w2 ⟨rfl, hb2⟩
        have HB2 := hide (hbel.trans (hb2.mono hsz))
        clear hb2 hbel c0 c1 c2 c3
        go_wp2
        go_roundw
        case rel => exact ⟨k + 1, _, by omega, by go_num, rfl, unhide HB2, HS2⟩
        case measure => simp [intOf]; omega
    · have hk99 : k = 99 := by omega
      subst hk99
      go_wp2
      go_ret
      exact ⟨ret_str (by rw [unhide HS]; rfl), hbel⟩
end Go.Proofs.YtdcjimlhaklhfabGreatDoor

namespace Go.Proofs.YtdcjimlhaklhfabGreatDoor
open Go.RowKit
/-- A step of a kind's byte and the parts behind it. -/
def stR (k : UInt8) (ps : List Str) : Option St :=
  match ps with
  | [a] => if k = 45 then (if (number a 1 99).2 then some ⟨45, ⟨(number a 1 99).1, 0, []⟩⟩ else none) else none
  | _ => if k = 43 ∨ k = 61 then (node3 ps).map (fun n => ⟨k, n⟩) else none
theorem stR_one {k : UInt8} {a : Str} (h : k = 45) : stR k [a] = if (number a 1 99).2 then some ⟨45, ⟨(number a 1 99).1, 0, []⟩⟩ else none := by simp only [stR]; rw [if_pos h]
theorem stR_node {k : UInt8} {ps : List Str} (h : k = 43 ∨ k = 61) : stR k ps = (node3 ps).map (fun n => ⟨k, n⟩) := by
  unfold stR
  split
  · rw [if_neg (by rcases h with rfl | rfl <;> decide)]; rfl
  · rw [if_pos h]
theorem stR_none {k : UInt8} {ps : List Str} (h : ¬ (k = 43 ∨ k = 61)) (h1 : ps.length = 1 → ¬ k = 45) : stR k ps = none := by
  unfold stR
  split
  · rw [if_neg (h1 rfl)]
  · rw [if_neg h]
theorem number_blank {l : Str} (h : 32 ∈ l) : (number l 1 99).2 = false := by
  have ha : l.all digB = false := by
    rw [List.all_eq_false]
    exact ⟨32, h, by decide⟩
  rw [number_none (numGo_bad 99 l 0 ha)]
theorem readStep_R (k : UInt8) (r : Str) (hr : r ≠ []) : readStep (k :: r) = stR k (rparts r) := by
  have hbb : bodyB (k :: r) = bodyB r := by
    unfold bodyB
    cases r with
    | nil => exact absurd rfl hr
    | cons a r => rw [List.getLast?_cons_cons]
  unfold readStep
  rw [hbb]
  cases hb : bodyB r
  · rw [rparts_no hb]
    unfold stR; simp [node3]
  · have hS : bodyS (k :: r) = k :: r.dropLast := by
      unfold bodyS; rw [hbb, hb]
      cases r with
      | nil => exact absurd rfl hr
      | cons a r => rfl
    rw [hS, rparts_yes hb]
    show stOf (k :: r.dropLast) = _
    generalize r.dropLast = B
    by_cases hk : k = 43 ∨ k = 61
    · rw [stR_node hk, stOf_node hk]; rfl
    · by_cases hk2 : k = 45
      · subst hk2
        rw [stOf_del]
        by_cases hm : 32 ∈ B
        · rw [number_blank hm]
          have key : ∀ ps, joined ps = B → stR 45 ps = none := by
            intro ps hj
            unfold stR
            split
            · have e : _ = B := hj
              simp only [joined] at e
              rw [e, number_blank hm]; rfl
            · rfl
          rw [key _ (joined_parts B)]; rfl
        · rw [parts_one (fun x hx e => hm (e ▸ hx)), stR_one rfl]
      · rw [stOf_other hk hk2, stR_none hk (fun _ => hk2)]
theorem readStep_short (l : Str) (h : l.length < 2) : readStep l = none := by
  match l, h with
  | [], _ => rfl
  | [k], _ =>
    unfold readStep
    split
    · have : bodyS [k] = [] := by unfold bodyS; split <;> rfl
      rw [this]; rfl
    · rfl
theorem numR_pos {a : Str} (h : (number a 1 99).2 = true) : 1 ≤ numR a 1 99 ∧ numR a 1 99 ≤ 99 ∧ numR a 1 99 = (number a 1 99).1 := by
  rw [numR_yes h]; exact ⟨number_lo a 1 99 h, (number_bd a 1 99 (by omega)).2, rfl⟩
set_option maxHeartbeats 2000000 in
theorem rstep_long (k : UInt8) (r : Str) (w : World) (hr : r ≠ []) (hl : (k :: r).length ≤ 4000) :
    Calls Tryz.prog 122 #[.string (bs (k :: r))] w fun e w' => StRes (k :: r) e ∧ Below w.heap.size w w' := by
  have hlr : r.length ≤ 4000 := by simp at hl; omega
  have HP := hide (fun W => rparts_any (bs r) W (by rw [bs_size]; exact hlr))
  rw [sl_bs] at HP
  have HPL := hide (rparts_len r hlr)
  have HST := hide (readStep_R k r hr)
  have hr0 : 0 < r.length := List.length_pos_iff.2 hr
  have hsz : (bs (k :: r)).size = r.length + 1 := by rw [bs_size]; rfl
  have h2 : ¬ ((bs (k :: r)).size : Int) < 2 := by omega
  have htail : (bs (k :: r)).extract 1 (r.length + 1) = bs r := by have := tail_bs k r; rwa [hsz] at this
  have hpos : 0 < (bs (k :: r)).size := by omega
  have hne := ne_nil_at (bs (k :: r)) hpos
  have hhead := head_bs k r hpos
  have hp1 : (1 : Int) ≤ (bs (k :: r)).size := by omega
  clear hl hlr hr
  generalize rparts r = ps at *
  by_cases hk : k = 43 ∨ k = 61
  · have HND := hide (fun ao cap W (hh : Row W ao ps.length 1 (ps.map strV)) => rnode_any ps ao cap W hh (unhide HPL))
    have HST2 := hide ((unhide HST).trans (stR_node hk))
    have hk4 : ((k.toNat : Int) == 45) = false := by rcases hk with h | h <;> (rw [h]; rfl)
    have hkk : ((k.toNat : Int) != 43) = false ∨ (((k.toNat : Int) != 43) = true ∧ ((k.toNat : Int) != 61) = false) := by
      rcases hk with h | h
      · left; rw [h]; rfl
      · right; rw [h]; exact ⟨rfl, rfl⟩
    clear hk HST
    rcases hkk with hkk | ⟨hk1, hkk⟩
    all_goals
      go_enter Tryz.func122, Tryz.ntmps122
      go_wp2_with fail
      refine (unhide HP _).mono ?_
      rintro e w1 ⟨ao, cap, rfl, hrow, hb1⟩
      have HROW := hide hrow
      clear hrow
      go_wp2_with fail
      refine (unhide HND _ _ _ (unhide HROW)).mono ?_
      rintro e w2 ⟨⟨x, y, z, rfl, hx⟩, hb2⟩
      have HX := hide hx
      clear hx
      have hb12 := hb1.trans (hb2.mono hb1.size)
      obtain ⟨hc, hf⟩ := bcell hb12
      have hz : w.heap.size + 1 ≤ w2.heap.size := by have := hb12.size; simp at this; omega
      have HB0 : Hid (Below w.heap.size w w2) := hide (((Below.refl _ _).alloc (Nat.le_refl _) _).trans (hb12.mono (by simp)))
      have hzl : w.heap.size < w2.heap.size := by omega
      have hzn : ¬ w.heap.size = w2.heap.size := by omega
      clear hb1 hb2 hb12
      generalize node3 ps = R at *
      go_wp2
      refine bodyPost_ret (v := .tuple #[.agg #[.int .u8 k.toNat, .int .i64 x, .int .i64 y, .string z], .bool R.isSome]) (by simp [results, Tryz.results122, go_sem, hc, hzl]) rfl ⟨?_, ?_⟩
      · cases R with
        | none => exact stRes_none (unhide HST2) _ _ _ _
        | some n =>
          obtain ⟨e1, e2, e3⟩ := unhide HX n rfl
          rw [e1, e2, e3]
          exact stRes_some (unhide HST2)
      · exact (((((unhide HB0).setCell (Nat.le_refl _) _).setCell (Nat.le_refl _) _).setCell (Nat.le_refl _) _).setCell (Nat.le_refl _) _).alloc (by simp; omega) _
  · have hk1 : ((k.toNat : Int) != 43) = true := by
      rw [bne_iff_ne]; intro h; exact hk (.inl (UInt8.toNat_inj.1 (by simpa using (by omega : k.toNat = 43))))
    have hk2 : ((k.toNat : Int) != 61) = true := by
      rw [bne_iff_ne]; intro h; exact hk (.inr (UInt8.toNat_inj.1 (by simpa using (by omega : k.toNat = 61))))
    by_cases hk3 : k = 45
    · by_cases hp : ps.length = 1
      · obtain ⟨a, rfl⟩ := List.length_eq_one_iff.1 hp
        have HNU := hide (fun W => rnumber_any (bs a) 1 99 W (by rw [bs_size]; exact unhide HPL a (by simp)) (by omega) (by omega))
        rw [sl_bs] at HNU
        have HST2 := hide ((unhide HST).trans (stR_one hk3))
        have hk4 : ((k.toNat : Int) == 45) = true := by rw [hk3]; rfl
        have hk5 : (k.toNat : Int) = 45 := by rw [hk3]; rfl
        have hnp : ((number a 1 99).2 = true ∧ 0 < numR a 1 99 ∧ numR a 1 99 = (number a 1 99).1) ∨ ((number a 1 99).2 = false ∧ numR a 1 99 = -1) := by
          cases hq : (number a 1 99).2
          · exact .inr ⟨rfl, numR_neg hq⟩
          · obtain ⟨p1, p2, p3⟩ := numR_pos hq
            exact .inl ⟨rfl, by omega, p3⟩
        clear hk HST hk1 hk2 hk3 hp
        generalize (number a 1 99).1 = x at *
        generalize (number a 1 99).2 = q at *
        generalize numR a 1 99 = y at *
        go_enter Tryz.func122, Tryz.ntmps122
        go_wp2_with fail
        refine (unhide HP _).mono ?_
        rintro e w1 ⟨ao, cap, rfl, hrow, hb1⟩
        obtain ⟨g, hao, hg, hcell⟩ := str_cell hrow (Below.refl _ _) (k := 0) (by simp)
        subst hao
        have hcell2 : w1.cell? ⟨g, 0, none⟩ = some (.string (bs a)) := hcell
        clear hcell hrow
        simp only [List.length_singleton]
        go_wp2_with fail
        refine (unhide HNU _).mono ?_
        rintro e w2 ⟨rfl, hb2⟩
        have hb12 := hb1.trans (hb2.mono hb1.size)
        obtain ⟨hc, hf⟩ := bcell hb12
        have hz : w.heap.size + 1 ≤ w2.heap.size := by have := hb12.size; simp at this; omega
        have HB0 : Hid (Below w.heap.size w w2) := hide (((Below.refl _ _).alloc (Nat.le_refl _) _).trans (hb12.mono (by simp)))
        have hzl : w.heap.size < w2.heap.size := by omega
        clear hb1 hb2 hb12
        rcases hnp with ⟨rfl, hy, rfl⟩ | ⟨rfl, rfl⟩
        · go_wp2
          refine bodyPost_ret (v := .tuple #[.agg #[.int .u8 45, .int .i64 y, .int .i64 0, .string ⟨#[]⟩], .bool true]) (by simp [results, Tryz.results122, go_sem, hc]) rfl ⟨?_, ?_⟩
          · exact stRes_some (st := ⟨45, ⟨y, 0, []⟩⟩) (unhide HST2)
          · exact ((((unhide HB0).setCell (Nat.le_refl _) _).setCell (Nat.le_refl _) _).setCell (Nat.le_refl _) _).setCell (Nat.le_refl _) _
        · go_wp2
          refine bodyPost_ret (v := .tuple #[.agg #[.int .u8 45, .int .i64 (-1), .int .i64 0, .string ⟨#[]⟩], .bool false]) (by simp [results, Tryz.results122, go_sem, hc]) rfl ⟨?_, ?_⟩
          · exact stRes_none (unhide HST2) _ _ _ _
          · exact ((((unhide HB0).setCell (Nat.le_refl _) _).setCell (Nat.le_refl _) _).setCell (Nat.le_refl _) _).setCell (Nat.le_refl _) _
      · have hk4 : ((k.toNat : Int) == 45) = true := by rw [hk3]; rfl
        have hp4 : ((ps.length : Int) == 1) = false := by rw [beq_eq_false_iff_ne]; omega
        have HST2 := hide ((unhide HST).trans (stR_none hk (fun h => absurd h hp)))
        clear hk HST hk3 hp
        go_enter Tryz.func122, Tryz.ntmps122
        go_wp2_with fail
        refine (unhide HP _).mono ?_
        rintro e w1 ⟨ao, cap, rfl, hrow, hb1⟩
        obtain ⟨hc, hf⟩ := bcell hb1
        have hz : w.heap.size + 1 ≤ w1.heap.size := by have := hb1.size; simp at this; omega
        have HB0 : Hid (Below w.heap.size w w1) := hide (((Below.refl _ _).alloc (Nat.le_refl _) _).trans (hb1.mono (by simp)))
        have hzl : w.heap.size < w1.heap.size := by omega
        clear hb1 hrow
        go_wp2
        refine bodyPost_ret (v := .tuple #[.agg #[.int .u8 0, .int .i64 0, .int .i64 0, .string ByteArray.empty], .bool false]) (by simp [results, Tryz.results122, go_sem, hc]; rfl) rfl ⟨stRes_none (unhide HST2) _ _ _ _, ?_⟩
        exact ((((unhide HB0).setCell (Nat.le_refl _) _).setCell (Nat.le_refl _) _).setCell (Nat.le_refl _) _).setCell (Nat.le_refl _) _
    · have hk4 : ((k.toNat : Int) == 45) = false := by
        rw [beq_eq_false_iff_ne]; intro h; exact hk3 (UInt8.toNat_inj.1 (by simpa using (by omega : k.toNat = 45)))
      have HST2 := hide ((unhide HST).trans (stR_none hk (fun _ => hk3)))
      clear hk hk3 HST
      go_enter Tryz.func122, Tryz.ntmps122
      go_wp2_with fail
      refine (unhide HP _).mono ?_
      rintro e w1 ⟨ao, cap, rfl, hrow, hb1⟩
      obtain ⟨hc, hf⟩ := bcell hb1
      have hz : w.heap.size + 1 ≤ w1.heap.size := by have := hb1.size; simp at this; omega
      have HB0 : Hid (Below w.heap.size w w1) := hide (((Below.refl _ _).alloc (Nat.le_refl _) _).trans (hb1.mono (by simp)))
      have hzl : w.heap.size < w1.heap.size := by omega
      clear hb1 hrow
      go_wp2
      refine bodyPost_ret (v := .tuple #[.agg #[.int .u8 0, .int .i64 0, .int .i64 0, .string ByteArray.empty], .bool false]) (by simp [results, Tryz.results122, go_sem, hc]; rfl) rfl ⟨stRes_none (unhide HST2) _ _ _ _, ?_⟩
      exact ((((unhide HB0).setCell (Nat.le_refl _) _).setCell (Nat.le_refl _) _).setCell (Nat.le_refl _) _).setCell (Nat.le_refl _) _
set_option maxHeartbeats 1000000 in
theorem rstep_short (s : ByteArray) (w : World) (h : s.size < 2) :
    Calls Tryz.prog 122 #[.string s] w fun e w' => StRes (sl s) e ∧ Below w.heap.size w w' := by
  have HST := hide (readStep_short (sl s) (by rw [sl_length]; exact h))
  have h2 : (s.size : Int) < 2 := by omega
  go_enter Tryz.func122, Tryz.ntmps122
  go_wp2
  refine bodyPost_ret (v := .tuple #[.agg #[.int .u8 0, .int .i64 0, .int .i64 0, .string ByteArray.empty], .bool false]) (by simp [results, Tryz.results122, go_sem]; rfl) rfl ⟨stRes_none (unhide HST) _ _ _ _, ?_⟩
  exact (Below.refl _ _).alloc (Nat.le_refl _) _
theorem rstep_any (s : ByteArray) (w : World) (hs : s.size ≤ 4000) :
    Calls Tryz.prog 122 #[.string s] w fun e w' => StRes (sl s) e ∧ Below w.heap.size w w' := by
  by_cases h : s.size < 2
  · exact rstep_short s w h
  · obtain ⟨l, rfl⟩ : ∃ l, s = bs l := ⟨sl s, (bs_sl s).symm⟩
    rw [sl_bs]
    rw [bs_size] at h hs
    match l, h, hs with
    | [], h, _ => simp at h
    | [k], h, _ => simp at h
    | k :: a :: r, _, hs => exact rstep_long k (a :: r) w (by simp) hs
end Go.Proofs.YtdcjimlhaklhfabGreatDoor

namespace Go.Proofs.YtdcjimlhaklhfabGreatDoor
open Go.RowKit
theorem Tryz.infoRStep : (Tryz.prog.info? 157).map (fun i => (i.zero, i.size, i.bytes)) = some (some (.agg #[.int .u8 0, .int .i64 0, .int .i64 0, .string ByteArray.empty]), 4, 40) := by kernel_rfl
end Go.Proofs.YtdcjimlhaklhfabGreatDoor

namespace Go.Proofs.YtdcjimlhaklhfabGreatDoor
open Go.RowKit
theorem rs_short {rs : List Str} {k : Nat} {ns : List St} (h : RsInv rs k ns) (hk : k < rs.length) (hn : readStep rs[k] = none) : (readSteps rs).length = k ∧ (readSteps rs).length < rs.length := by
  obtain ⟨h1, h2, _⟩ := rsInv_no h hk hn
  rw [h1, h2]; exact ⟨rfl, hk⟩
theorem rs_full {rs : List Str} {k : Nat} {ns : List St} (h : RsInv rs k ns) (hk : ¬ k < rs.length) (hk' : k ≤ rs.length) : ¬ (readSteps rs).length < rs.length ∧ readSteps rs = ns ∧ ns.length = k := by
  obtain ⟨h1, h2, _⟩ := rsInv_end h hk hk'
  exact ⟨by rw [h1, h2]; exact hk, h1, h2⟩
set_option maxHeartbeats 2000000 in
theorem rsteps_any (s : ByteArray) (w : World) (hs : s.size ≤ 4000) :
    Calls Tryz.prog 87 #[.string s] w fun e w' => (((readSteps (cut (sl s))).length < (cut (sl s)).length ∧ e = .returned (.tuple #[.slice none 0 0, .int .i64 (readSteps (cut (sl s))).length])) ∨ (¬ (readSteps (cut (sl s))).length < (cut (sl s)).length ∧ ∃ ao cap, e = .returned (.tuple #[.slice ao (readSteps (cut (sl s))).length cap, .int .i64 (-1)]) ∧ Row w' ao (readSteps (cut (sl s))).length 4 (stCells (readSteps (cut (sl s)))))) ∧ Below w.heap.size w w' := by
  obtain ⟨i0, hi, hz0, hz1, hz2⟩ := info_parts Tryz.infoRStep
  have HC := hide (fun W => rcut_any s W hs)
  have hrl : (cut (sl s)).length ≤ 4000 := by have := cut_length_le (sl s); rw [sl_length] at this; omega
  have HRM : Hid (∀ r ∈ cut (sl s), r.length ≤ 4000) := hide (fun r hr => by have := cut_mem_len (sl s) r hr; rw [sl_length] at this; omega)
  generalize cut (sl s) = rs at *
  go_enter Tryz.func87, Tryz.ntmps87
  go_wp2_with fail
  refine (unhide HC _).mono ?_
  rintro e w1 ⟨ao, cap, rfl, hrow, hb1⟩
  have HROW := hide hrow
  have HB1 := hide hb1
  clear hrow hb1
  go_wp2
  go_loopw [4, 6] (fun v i wr => ∃ k : Nat, ∃ ss : List St, k ≤ rs.length ∧ i = .int .i64 k ∧ wr.ownsRow w1.heap.size 157 4 v k (stCells ss) ∧ Below w1.heap.size w1 wr ∧ Hid (RsInv rs k ss)) (fun _ i _ => rs.length - (intOf i).toNat)
  case atStart => exact ⟨0, [], Nat.zero_le _, rfl, World.ownsRow_nil _ _ _ _, Below.refl _ _, hide ⟨rfl, rfl⟩⟩
  case round =>
    obtain ⟨k, ss, hk, rfl, hown, hbel, HI⟩ := hrel
    by_cases hlt : k < rs.length
    · obtain ⟨g, hao, hg, hcell⟩ := str_cell (unhide HROW) hbel hlt
      rw [hao]
      have hrl2 : (rs[k]).length ≤ 4000 := unhide HRM _ (List.getElem_mem hlt)
      have HP := hide (fun W => rstep_any (bs rs[k]) W (by rw [bs_size]; exact hrl2))
      rw [sl_bs] at HP
      have hsz := hbel.size
      clear hao
      generalize hr : rs[k] = r at *
      have HR := hide hr; clear hr
      go_wp2_with fail
      refine (unhide HP _).mono ?_
      rintro e w3 ⟨⟨x0, x1, x2, x3, rfl, hx⟩, hb3⟩
      have HOWN := hide (own_below hown hb3)
      have HB3 := hide (hbel.trans (hb3.mono hsz))
      have hz3 : wr.heap.size ≤ w3.heap.size := hb3.size
      have HX := hide hx
      clear hx hb3 HP
      cases hR : readStep r with
      | none =>
        have HS := hide (rs_short (unhide HI) hlt (by rw [unhide HR]; exact hR))
        clear hR
        go_wp2
        go_ret2
        refine ⟨.inl ⟨(unhide HS).2, by rw [(unhide HS).1]; rfl⟩, ?_⟩
        exact (unhide HB1).trans (((unhide HB3).alloc (by omega) _).mono (unhide HB1).size)
      | some st =>
        have HN := hide (rsInv_yes (unhide HI) hlt (n := st) (by rw [unhide HR]; exact hR))
        obtain ⟨rfl, rfl, rfl, rfl⟩ := unhide HX st hR
        clear HX hR
        go_wp2_with (first
          | (at_builtin; (refine wpList_append_own _ rfl _ _ 151 rfl w1.heap.size 157 i0 (.agg #[.int .u8 0, .int .i64 0, .int .i64 0, .string ByteArray.empty]) 4 40 Tryz.underlying151 hi hz0 hz1 hz2 rfl (by decide) _ _ _ rfl (own_below (unhide HOWN) (((Below.refl _ _).alloc (Nat.le_refl _) _).alloc (by simp) _)) ⟨w3.heap.size + 1, 0, none⟩ 1 1 [.int .u8 st.kind.toNat, .int .i64 st.node.id, .int .i64 st.node.parent, .string (bs st.node.name)] rfl rfl (news_four' _ _ _ _ _ _) (by simp [Value.oneCell']) (by unfold maxLen; omega) (by omega) (by have := hbel.size; simp; omega) ?_))
          | go_in)
        intro v' w4 hown' hgrow _
        have hb4 : Below w1.heap.size w1 w4 := ((((unhide HB3).alloc (by omega) _).alloc (by simp; omega) _)).grown hgrow (by simp; omega) (own_ge hown)
        have hown2 : w4.ownsRow w1.heap.size 157 4 v' (k + 1) (stCells (ss ++ [st])) := by rw [stCells_snoc]; exact hown'
        clear hgrow hown hbel hown'
        go_wp2
        go_roundw
        case rel => exact ⟨k + 1, _, by omega, by go_num, hown2, hb4, HN⟩
        case measure => simp [intOf]; omega
    · have HF := hide (rs_full (unhide HI) hlt hk)
      go_wp2
      go_ret2
      obtain ⟨f1, f2, f3⟩ := unhide HF
      obtain ⟨ao', cap', rfl, hr⟩ := row_of_owns hown
      rw [f2]
      rw [← f3] at hr
      refine ⟨.inr ⟨by rw [← f2]; exact f1, ao', cap', by rw [f3]; rfl, hr⟩, (unhide HB1).trans (hbel.mono (unhide HB1).size)⟩
end Go.Proofs.YtdcjimlhaklhfabGreatDoor

namespace Go.Proofs.YtdcjimlhaklhfabGreatDoor
open Go.RowKit
set_option maxHeartbeats 2000000 in
theorem lay_any (ns : List Nd) (x : Nd) (b : Bool) (ao : Option Addr) (cap : Nat) (w : World) (hrow : Row w ao ns.length 3 (ndCells ns)) (hl : ns.length ≤ 4000) :
    Calls Tryz.prog 121 #[.slice ao ns.length cap, .agg #[.int .i64 x.id, .int .i64 x.parent, .string (bs x.name)], .bool b] w fun e w' => (∃ ao' cap', e = .returned (.slice ao' (layR ns x b).length cap') ∧ Row w' ao' (layR ns x b).length 3 (ndCells (layR ns x b))) ∧ Below w.heap.size w w' := by
  obtain ⟨i0, hi, hz0, hz1, hz2⟩ := info_parts Tryz.infoRNode
  obtain ⟨w0, hw0⟩ : ∃ w0, w.alloc (Obj.cells #[.int .i64 x.id, .int .i64 x.parent, .string (bs x.name)] 144) = w0 := ⟨_, rfl⟩
  have hbw : Below w.heap.size w w0 := by rw [← hw0]; exact (Below.refl _ _).alloc (Nat.le_refl _) _
  have HBW := hide hbw
  have HROW := hide (hrow.below hbw)
  have hlt0 : w.heap.size < w0.heap.size := by rw [← hw0]; simp
  have HX : Hid (w0.cell? ⟨w.heap.size, 0, none⟩ = some (.int .i64 x.id) ∧ w0.cell? ⟨w.heap.size, 1, none⟩ = some (.int .i64 x.parent) ∧ w0.cell? ⟨w.heap.size, 2, none⟩ = some (.string (bs x.name))) := by
    apply hide; rw [← hw0]
    exact ⟨news_three _ _ _ _ 0 _ rfl, news_three _ _ _ _ 1 _ rfl, news_three _ _ _ _ 2 _ rfl⟩
  clear hrow hbw
  go_enter Tryz.func121, Tryz.ntmps121
  go_wp2
  try rw [hw0]
  clear hw0
  go_loopw [7, 8] (fun v i wr => ∃ k : Nat, ∃ ns' : List Nd, k ≤ ns.length ∧ i = .int .i64 k ∧ wr.ownsRow w0.heap.size 144 3 v ns'.length (ndCells ns') ∧ Below w0.heap.size w0 wr ∧ Hid (LayInv ns x k ns')) (fun _ i _ => ns.length - (intOf i).toNat)
  case atStart => exact ⟨0, [], Nat.zero_le _, rfl, World.ownsRow_nil _ _ _ _, Below.refl _ _, hide rfl⟩
  case round =>
    obtain ⟨k, ns', hk, rfl, hown, hbel, HI⟩ := hrel
    have hnl := layInv_len (unhide HI)
    obtain ⟨hc, _⟩ := bcell hbel
    have x0 := (hc _ 0 hlt0).trans (unhide HX).1
    have x1 := (hc _ 1 hlt0).trans (unhide HX).2.1
    have x2 := (hc _ 2 hlt0).trans (unhide HX).2.2
    clear hc
    by_cases hlt : k < ns.length
    · obtain ⟨g, hao, hg, c0, c1, c2⟩ := nd_cells (unhide HROW) hbel hlt
      rw [hao]
      have hk0 : (0 : Int) ≤ k := by omega
      have hk1 : (k : Int) < ns.length := by omega
      have hsz := hbel.size
      clear hao
      cases hq : ((ns[k]).id != x.id)
      · have HI2 := hide (layInv_no (unhide HI) hlt hq)
        generalize ns[k] = nd at *
        go_wp2
        go_quiet (fail)
        go_wp2
        go_roundw
        case rel => exact ⟨k + 1, ns', by omega, by go_num, own_below hown (below_drewN (Below.refl _ _) _), below_drewN hbel _, HI2⟩
        case measure => simp [intOf]; omega
      · have HI2 := hide (layInv_yes (unhide HI) hlt hq)
        generalize ns[k] = nd at *
        go_wp2
        go_quiet (fail)
        go_wp2_with (first
          | (at_builtin; (refine wpList_append_own _ rfl _ _ 102 rfl w0.heap.size 144 i0 (.agg #[.int .i64 0, .int .i64 0, .string ByteArray.empty]) 3 32 Tryz.underlying102 hi hz0 hz1 hz2 rfl (by decide) _ _ _ rfl (own_below hown ((below_drewN (Below.refl _ _) _).alloc (by simp) _)) ⟨wr.heap.size, 0, none⟩ 1 1 [.int .i64 nd.id, .int .i64 nd.parent, .string (bs nd.name)] rfl rfl (news_three _ _ _ _) (by simp [Value.oneCell']) (by unfold maxLen; omega) (by omega) (by simp; omega) ?_))
          | go_in)
        intro v' w4 hown' hgrow _
        have hb4 : Below w0.heap.size w0 w4 := ((below_drewN hbel _).alloc (by simp; omega) _).grown hgrow (by simp; omega) (own_ge hown)
        have hown2 : w4.ownsRow w0.heap.size 144 3 v' (ns' ++ [nd]).length (ndCells (ns' ++ [nd])) := by rw [ndCells_snoc, List.length_append]; exact hown'
        clear hgrow hown hbel hown'
        go_wp2
        go_roundw
        case rel => exact ⟨k + 1, _, by omega, by go_num, hown2, hb4, HI2⟩
        case measure => simp [intOf]; omega
    · have HF := hide (layInv_end (unhide HI) hlt)
      have hsz := hbel.size
      cases b
      · go_wp2
        go_ret
        rw [(unhide HF).1]
        obtain ⟨ao', cap', rfl, hr⟩ := row_of_owns hown
        exact ⟨⟨ao', cap', rfl, hr⟩, (unhide HBW).trans (hbel.mono (unhide HBW).size)⟩
      · go_wp2_with (first
          | (at_builtin; (refine wpList_append_own _ rfl _ _ 102 rfl w0.heap.size 144 i0 (.agg #[.int .i64 0, .int .i64 0, .string ByteArray.empty]) 3 32 Tryz.underlying102 hi hz0 hz1 hz2 rfl (by decide) _ _ _ rfl (own_below hown ((Below.refl _ _).alloc (by simp) _)) ⟨wr.heap.size, 0, none⟩ 1 1 [.int .i64 x.id, .int .i64 x.parent, .string (bs x.name)] rfl rfl (news_three _ _ _ _) (by simp [Value.oneCell']) (by unfold maxLen; omega) (by omega) (by simp; omega) ?_))
          | go_in)
        intro v' w4 hown' hgrow _
        have hb4 : Below w0.heap.size w0 w4 := (hbel.alloc (by omega) _).grown hgrow (by simp; omega) (own_ge hown)
        have hown2 : w4.ownsRow w0.heap.size 144 3 v' (ns' ++ [x]).length (ndCells (ns' ++ [x])) := by rw [ndCells_snoc, List.length_append]; exact hown'
        clear hgrow hown hbel hown'
        go_wp2
        go_ret
        rw [(unhide HF).2]
        obtain ⟨ao', cap', rfl, hr⟩ := row_of_owns hown2
        exact ⟨⟨ao', cap', rfl, hr⟩, (unhide HBW).trans (hb4.mono (unhide HBW).size)⟩
end Go.Proofs.YtdcjimlhaklhfabGreatDoor
