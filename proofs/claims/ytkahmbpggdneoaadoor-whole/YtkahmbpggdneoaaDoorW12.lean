import Derived.Test.YtkahmbpggdneoaaDoorW11
namespace Go.Proofs.YtkahmbpggdneoaaDoor
open Go.RowKit
theorem grown_refl (w : World) (r : Option Nat) : w.grownBy w r := ⟨rfl, rfl, rfl, Nat.le_refl _, fun _ _ _ => rfl⟩
theorem grown_trans {a b c : World} {r : Option Nat} (h : a.grownBy b r) (k : b.grownBy c r) : a.grownBy c r :=
  ⟨k.os.trans h.os, k.tape.trans h.tape, k.output.trans h.output, Nat.le_trans h.size k.size, fun i hi hne => (k.block i (Nat.lt_of_lt_of_le hi h.size) hne).trans (h.block i hi hne)⟩
theorem grown_of_below {w w' : World} (h : Below w.heap.size w w') (r : Option Nat) : w.grownBy w' r := ⟨h.os, h.tape, h.output, h.size, fun k hk _ => h.block k hk⟩
theorem row_grown {w w' : World} {ao : Option Addr} {n size : Nat} {xs : List Value} {b : Nat} (h : Row w ao n size xs) (hg : w.grownBy w' (some b)) (hne : ∀ g, ao = some ⟨g, 0, none⟩ → g ≠ b) : Row w' ao n size xs := by
  refine ⟨h.1, fun hn => ?_⟩
  obtain ⟨g, h1, h2, h3⟩ := h.2 hn
  refine ⟨g, h1, by have := hg.size; omega, fun j u hu => ?_⟩
  rw [World.cell?_of_block (a := ⟨g, j, none⟩) (hg.block g h2 (fun e => hne g h1 (by cases e; rfl)))]
  exact h3 j u hu
/-- Create. -/
theorem createE_1 {t : Tr} {n : Nd} (h : hasT t n.id = true) : createE t n = 8 := by unfold createE; rw [h]; rfl
theorem createE_2 {t : Tr} {n : Nd} (h : hasT t n.id = false) (h2 : isParentT t n.parent = false) : createE t n = 4 := by unfold createE; rw [h, h2]; rfl
theorem createE_3 {t : Tr} {n : Nd} (h : hasT t n.id = false) (h2 : isParentT t n.parent = true) (h3 : (atT t n.parent n.name != 0) = true) : createE t n = 6 := by unfold createE; rw [h, h2, h3]; rfl
theorem createE_4 {t : Tr} {n : Nd} (h : hasT t n.id = false) (h2 : isParentT t n.parent = true) (h3 : (atT t n.parent n.name != 0) = false) : createE t n = 0 := by unfold createE; rw [h, h2, h3]; rfl
set_option maxHeartbeats 1000000 in
theorem create_any {x : Ext} (t : Tr) (b : Nat) (n : Nd) (w : World) (ht : TrOk t) (hT : TreeAt x w b t) (hn : 1 ≤ n.id ∧ n.id ≤ 99 ∧ 0 ≤ n.parent ∧ n.parent ≤ 99) :
    Calls Tryd.prog 61 #[.pointer (some ⟨b, 0, none⟩), .agg #[.int .i64 n.id, .int .i64 n.parent, .string (bs n.name)]] w fun e w' => e = .returned (.int .i64 (createE t n)) ∧ TreeAt x w' b (if createE t n = 0 then trPut t n else t) ∧ w.grownBy w' (some b) := by
  have hb1 := (Below.refl w.heap.size w).alloc (Nat.le_refl _) (.cells #[.int .i64 n.id, .int .i64 n.parent, .string (bs n.name)] 56)
  have hT1 := hT.below hb1
  have HHAS := hide (has_any t b n.id _ ht (by omega) hn.2.1 hT1)
  have HPAR := hide (isParent_any t b n.parent _ ht hn.2.2.1 hn.2.2.2 hT1)
  have HAT := hide (at_any t b n.parent n.name _ hT1)
  have HPUT := hide (put_any t b n _ hn.1 hn.2.1 hT1)
  have HG := hide (grown_of_below hb1 (some b))
  have HT1 := hide hT1
  clear hb1 hT1 hT ht
  cases h1 : hasT t n.id
  · cases h2 : isParentT t n.parent
    · rw [createE_2 h1 h2, if_neg (by omega)]
      rw [h1] at HHAS
      rw [h2] at HPAR
      go_enter Tryd.func61, Tryd.ntmps61
      go_wp2_with fail
      refine (unhide HHAS).mono ?_
      rintro e w1 ⟨rfl, rfl⟩
      go_wp2_with fail
      refine (unhide HPAR).mono ?_
      rintro e w1 ⟨rfl, rfl⟩
      go_wp2
      go_ret
      exact ⟨rfl, unhide HT1, unhide HG⟩
    · cases h3 : (atT t n.parent n.name != 0)
      · rw [createE_4 h1 h2 h3, if_pos rfl]
        rw [h1] at HHAS
        rw [h2] at HPAR
        generalize atT t n.parent n.name = q at *
        go_enter Tryd.func61, Tryd.ntmps61
        go_wp2_with fail
        refine (unhide HHAS).mono ?_
        rintro e w1 ⟨rfl, rfl⟩
        go_wp2_with fail
        refine (unhide HPAR).mono ?_
        rintro e w1 ⟨rfl, rfl⟩
        go_wp2_with fail
        refine (unhide HAT).mono ?_
        rintro e w1 ⟨rfl, rfl⟩
        go_wp2_with fail
        refine (unhide HPUT).mono ?_
        rintro e w1 ⟨rfl, hT2, hg2⟩
        go_wp2
        go_ret
        exact ⟨rfl, hT2, grown_trans (unhide HG) hg2⟩
      · rw [createE_3 h1 h2 h3, if_neg (by omega)]
        rw [h1] at HHAS
        rw [h2] at HPAR
        generalize atT t n.parent n.name = q at *
        go_enter Tryd.func61, Tryd.ntmps61
        go_wp2_with fail
        refine (unhide HHAS).mono ?_
        rintro e w1 ⟨rfl, rfl⟩
        go_wp2_with fail
        refine (unhide HPAR).mono ?_
        rintro e w1 ⟨rfl, rfl⟩
        go_wp2_with fail
        refine (unhide HAT).mono ?_
        rintro e w1 ⟨rfl, rfl⟩
        go_wp2
        go_ret
        exact ⟨rfl, unhide HT1, unhide HG⟩
  · rw [createE_1 h1, if_neg (by omega)]
    rw [h1] at HHAS
    go_enter Tryd.func61, Tryd.ntmps61
    go_wp2_with fail
    refine (unhide HHAS).mono ?_
    rintro e w1 ⟨rfl, rfl⟩
    go_wp2
    go_ret
    exact ⟨rfl, unhide HT1, unhide HG⟩
theorem moveE_1 {t : Tr} {n : Nd} (h : hasT t n.id = false) : moveE t n = 9 := by unfold moveE; rw [h]; rfl
theorem moveE_2 {t : Tr} {n : Nd} (h : hasT t n.id = true) (h2 : isParentT t n.parent = false) : moveE t n = 4 := by unfold moveE; rw [h, h2]; rfl
theorem moveE_3 {t : Tr} {n : Nd} (h : hasT t n.id = true) (h2 : isParentT t n.parent = true) (h3 : meetsT t n.parent n.id = true) : moveE t n = 5 := by unfold moveE; rw [h, h2, h3]; rfl
theorem moveE_4 {t : Tr} {n : Nd} (h : hasT t n.id = true) (h2 : isParentT t n.parent = true) (h3 : meetsT t n.parent n.id = false) (h4 : (atT t n.parent n.name != 0) = true) (h5 : (atT t n.parent n.name != n.id) = true) : moveE t n = 6 := by unfold moveE; rw [h, h2, h3, h4, h5]; rfl
theorem moveE_5 {t : Tr} {n : Nd} (h : hasT t n.id = true) (h2 : isParentT t n.parent = true) (h3 : meetsT t n.parent n.id = false) (h4 : (atT t n.parent n.name != 0) = true) (h5 : (atT t n.parent n.name != n.id) = false) : moveE t n = 0 := by unfold moveE; rw [h, h2, h3, h4, h5]; rfl
theorem moveE_6 {t : Tr} {n : Nd} (h : hasT t n.id = true) (h2 : isParentT t n.parent = true) (h3 : meetsT t n.parent n.id = false) (h4 : (atT t n.parent n.name != 0) = false) : moveE t n = 0 := by unfold moveE; rw [h, h2, h3, h4]; rfl
set_option maxHeartbeats 2000000 in
theorem move_any {x : Ext} (t : Tr) (b : Nat) (n : Nd) (w : World) (ht : TrOk t) (hT : TreeAt x w b t) (hn : 1 ≤ n.id ∧ n.id ≤ 99 ∧ 0 ≤ n.parent ∧ n.parent ≤ 99) :
    Calls Tryd.prog 62 #[.pointer (some ⟨b, 0, none⟩), .agg #[.int .i64 n.id, .int .i64 n.parent, .string (bs n.name)]] w fun e w' => e = .returned (.int .i64 (moveE t n)) ∧ TreeAt x w' b (if moveE t n = 0 then trPut t n else t) ∧ w.grownBy w' (some b) := by
  have hb1 := (Below.refl w.heap.size w).alloc (Nat.le_refl _) (.cells #[.int .i64 n.id, .int .i64 n.parent, .string (bs n.name)] 56)
  have hT1 := hT.below hb1
  have HHAS := hide (has_any t b n.id _ ht (by omega) hn.2.1 hT1)
  have HPAR := hide (isParent_any t b n.parent _ ht hn.2.2.1 hn.2.2.2 hT1)
  have HME := hide (meets_any t b n.parent n.id _ ht hn.2.2.1 hn.2.2.2 hT1)
  have HAT := hide (at_any t b n.parent n.name _ hT1)
  have HPUT := hide (put_any t b n _ hn.1 hn.2.1 hT1)
  have HG := hide (grown_of_below hb1 (some b))
  have HT1 := hide hT1
  clear hb1 hT1 hT ht
  cases h1 : hasT t n.id
  · rw [moveE_1 h1, if_neg (by omega)]
    rw [h1] at HHAS
    go_enter Tryd.func62, Tryd.ntmps62
    go_wp2_with fail
    refine (unhide HHAS).mono ?_
    rintro e w1 ⟨rfl, rfl⟩
    go_wp2
    go_ret
    exact ⟨rfl, unhide HT1, unhide HG⟩
  · cases h2 : isParentT t n.parent
    · rw [moveE_2 h1 h2, if_neg (by omega)]
      rw [h1] at HHAS
      rw [h2] at HPAR
      go_enter Tryd.func62, Tryd.ntmps62
      go_wp2_with fail
      refine (unhide HHAS).mono ?_
      rintro e w1 ⟨rfl, rfl⟩
      go_wp2_with fail
      refine (unhide HPAR).mono ?_
      rintro e w1 ⟨rfl, rfl⟩
      go_wp2
      go_ret
      exact ⟨rfl, unhide HT1, unhide HG⟩
    · cases h3 : meetsT t n.parent n.id
      · cases h4 : (atT t n.parent n.name != 0)
        · rw [moveE_6 h1 h2 h3 h4, if_pos rfl]
          rw [h1] at HHAS
          rw [h2] at HPAR
          rw [h3] at HME
          generalize atT t n.parent n.name = q at *
          go_enter Tryd.func62, Tryd.ntmps62
          go_wp2_with fail
          refine (unhide HHAS).mono ?_
          rintro e w1 ⟨rfl, rfl⟩
          go_wp2_with fail
          refine (unhide HPAR).mono ?_
          rintro e w1 ⟨rfl, rfl⟩
          go_wp2_with fail
          refine (unhide HME).mono ?_
          rintro e w1 ⟨rfl, rfl⟩
          go_wp2_with fail
          refine (unhide HAT).mono ?_
          rintro e w1 ⟨rfl, rfl⟩
          go_wp2_with fail
          refine (unhide HPUT).mono ?_
          rintro e w1 ⟨rfl, hT2, hg2⟩
          go_wp2
          go_ret
          exact ⟨rfl, hT2, grown_trans (unhide HG) hg2⟩
        · cases h5 : (atT t n.parent n.name != n.id)
          · rw [moveE_5 h1 h2 h3 h4 h5, if_pos rfl]
            rw [h1] at HHAS
            rw [h2] at HPAR
            rw [h3] at HME
            generalize atT t n.parent n.name = q at *
            go_enter Tryd.func62, Tryd.ntmps62
            go_wp2_with fail
            refine (unhide HHAS).mono ?_
            rintro e w1 ⟨rfl, rfl⟩
            go_wp2_with fail
            refine (unhide HPAR).mono ?_
            rintro e w1 ⟨rfl, rfl⟩
            go_wp2_with fail
            refine (unhide HME).mono ?_
            rintro e w1 ⟨rfl, rfl⟩
            go_wp2_with fail
            refine (unhide HAT).mono ?_
            rintro e w1 ⟨rfl, rfl⟩
            go_wp2_with fail
            refine (unhide HPUT).mono ?_
            rintro e w1 ⟨rfl, hT2, hg2⟩
            go_wp2
            go_ret
            exact ⟨rfl, hT2, grown_trans (unhide HG) hg2⟩
          · rw [moveE_4 h1 h2 h3 h4 h5, if_neg (by omega)]
            rw [h1] at HHAS
            rw [h2] at HPAR
            rw [h3] at HME
            generalize atT t n.parent n.name = q at *
            go_enter Tryd.func62, Tryd.ntmps62
            go_wp2_with fail
            refine (unhide HHAS).mono ?_
            rintro e w1 ⟨rfl, rfl⟩
            go_wp2_with fail
            refine (unhide HPAR).mono ?_
            rintro e w1 ⟨rfl, rfl⟩
            go_wp2_with fail
            refine (unhide HME).mono ?_
            rintro e w1 ⟨rfl, rfl⟩
            go_wp2_with fail
            refine (unhide HAT).mono ?_
            rintro e w1 ⟨rfl, rfl⟩
            go_wp2
            go_ret
            exact ⟨rfl, unhide HT1, unhide HG⟩
      · rw [moveE_3 h1 h2 h3, if_neg (by omega)]
        rw [h1] at HHAS
        rw [h2] at HPAR
        rw [h3] at HME
        go_enter Tryd.func62, Tryd.ntmps62
        go_wp2_with fail
        refine (unhide HHAS).mono ?_
        rintro e w1 ⟨rfl, rfl⟩
        go_wp2_with fail
        refine (unhide HPAR).mono ?_
        rintro e w1 ⟨rfl, rfl⟩
        go_wp2_with fail
        refine (unhide HME).mono ?_
        rintro e w1 ⟨rfl, rfl⟩
        go_wp2
        go_ret
        exact ⟨rfl, unhide HT1, unhide HG⟩
theorem deleteE_1 {t : Tr} {id : Int} (h : hasT t id = false) : deleteE t id = 9 := by unfold deleteE; rw [h]; rfl
theorem deleteE_2 {t : Tr} {id : Int} (h : hasT t id = true) (h2 : kidsT t id = true) : deleteE t id = 10 := by unfold deleteE; rw [h, h2]; rfl
theorem deleteE_3 {t : Tr} {id : Int} (h : hasT t id = true) (h2 : kidsT t id = false) : deleteE t id = 0 := by unfold deleteE; rw [h, h2]; rfl
set_option maxHeartbeats 1000000 in
theorem delete_nat {x : Ext} (t : Tr) (b m : Nat) (w : World) (ht : TrOk t) (hT : TreeAt x w b t) (hm : m ≤ 99) :
    Calls Tryd.prog 63 #[.pointer (some ⟨b, 0, none⟩), .int .i64 m] w fun e w' => e = .returned (.int .i64 (deleteE t m)) ∧ TreeAt x w' b (if deleteE t m = 0 then trRemove t m else t) ∧ w.grownBy w' (some b) := by
  have HHAS := hide (has_any t b m w ht (by omega) (by omega) hT)
  have HKID := hide (kid_any t b m w hT)
  have hkk := kids_kid t m
  generalize kidT t m = kd at *
  have HT1 := hide hT
  have HG := hide (grown_refl w (some b))
  cases h1 : hasT t m
  · rw [deleteE_1 h1, if_neg (by omega)]
    rw [h1] at HHAS
    go_enter Tryd.func63, Tryd.ntmps63
    go_wp2_with fail
    refine (unhide HHAS).mono ?_
    rintro e w1 ⟨rfl, rfl⟩
    go_wp2
    go_ret
    exact ⟨rfl, unhide HT1, unhide HG⟩
  · have HREM := hide (remove_nat t b m w ht hm hT (by simpa [hasT] using h1))
    cases h2 : kidsT t m
    · rw [deleteE_3 h1 h2, if_pos rfl]
      rw [h1] at HHAS
      rw [h2] at hkk
      have hkk2 := hkk.symm
      clear hkk
      go_enter Tryd.func63, Tryd.ntmps63
      go_wp2_with fail
      refine (unhide HHAS).mono ?_
      rintro e w1 ⟨rfl, rfl⟩
      go_wp2_with fail
      refine (unhide HKID).mono ?_
      rintro e w1 ⟨rfl, rfl⟩
      go_wp2_with fail
      refine (unhide HREM).mono ?_
      rintro e w1 ⟨rfl, hT2, hg2⟩
      go_wp2
      go_ret
      exact ⟨rfl, hT2, hg2⟩
    · rw [deleteE_2 h1 h2, if_neg (by omega)]
      rw [h1] at HHAS
      rw [h2] at hkk
      have hkk2 := hkk.symm
      clear hkk
      go_enter Tryd.func63, Tryd.ntmps63
      go_wp2_with fail
      refine (unhide HHAS).mono ?_
      rintro e w1 ⟨rfl, rfl⟩
      go_wp2_with fail
      refine (unhide HKID).mono ?_
      rintro e w1 ⟨rfl, rfl⟩
      go_wp2
      go_ret
      exact ⟨rfl, unhide HT1, unhide HG⟩
theorem delete_any {x : Ext} (t : Tr) (b : Nat) (id : Int) (w : World) (ht : TrOk t) (hT : TreeAt x w b t) (h0 : 0 ≤ id) (h1 : id ≤ 99) :
    Calls Tryd.prog 63 #[.pointer (some ⟨b, 0, none⟩), .int .i64 id] w fun e w' => e = .returned (.int .i64 (deleteE t id)) ∧ TreeAt x w' b (if deleteE t id = 0 then trRemove t id else t) ∧ w.grownBy w' (some b) := by
  obtain ⟨m, rfl⟩ := Int.eq_ofNat_of_zero_le h0
  exact delete_nat t b m w ht hT (by omega)
end Go.Proofs.YtkahmbpggdneoaaDoor
