import Derived.Test.YtkahmbpggdneoaaGreatDoorS3
import Derived.Test.YtkahmbpggdneoaaGreatDoorM13
import Derived.Test.YtkahmbpggdneoaaGreatDoorSPure2
import Derived.Test.YtkahmbpggdneoaaGreatDoorM9
import Derived.Deep.RegionHeld3
namespace Go.Proofs.YtkahmbpggdneoaaGreatDoor
open Go.RowKit
def pkIs (l : List St) (id : Int) (i : Nat) : Bool := (stAt l i).kind == 61 && (stAt l i).node.id == id
abbrev PkS (W0 : World) (b5 b7 : Nat) (id : Int) (nm : Str) (W : World) : Prop :=
  W.cell? ⟨b5, 0, none⟩ = some (.int .u8 61) ∧ W.cell? ⟨b7, 0, none⟩ = some (.int .i64 id) ∧ W.cell? ⟨b7, 1, none⟩ = some (.int .i64 0) ∧ W.cell? ⟨b7, 2, none⟩ = some (.string (bs nm)) ∧ Below W0.heap.size W0 W
theorem PkS.call {W0 : World} {b5 b7 : Nat} {id : Int} {nm : Str} {W w1 : World} (h5 : b5 < W0.heap.size) (h7 : b7 < W0.heap.size) (hb : Below W.heap.size W w1) (h : PkS W0 b5 b7 id nm W) : PkS W0 b5 b7 id nm w1 := by
  obtain ⟨q0, q1, q2, q3, q4⟩ := h
  have hz := q4.size
  exact ⟨by rw [hb.cell (p := ⟨b5, 0, none⟩) (by show b5 < _; omega)]; exact q0, by rw [hb.cell (p := ⟨b7, 0, none⟩) (by show b7 < _; omega)]; exact q1, by rw [hb.cell (p := ⟨b7, 1, none⟩) (by show b7 < _; omega)]; exact q2, by rw [hb.cell (p := ⟨b7, 2, none⟩) (by show b7 < _; omega)]; exact q3, q4.trans (hb.mono q4.size)⟩
set_option maxHeartbeats 4000000 in
set_option maxRecDepth 100000 in
theorem parks_yes (ns : List Nd) (left : List St) (id : Int) (ao bo : Option Addr) (ca cb : Nat) (w : World) (ha : Row w ao ns.length 3 (ndCells ns)) (hb : Row w bo left.length 4 (stCells left)) (hla : ns.length ≤ 4000) (hlb : left.length ≤ 8000) (hs : ∀ s ∈ left, StOk s)
    (h1 : 1 ≤ id) (h2 : id ≤ 99) (m : Nd) (hm : lookR ns id = some m) (hmn : ndEq m (parkN id) = false) (hin : ∃ j, j < left.length ∧ pkIs left id j = true) (hst : stuckR ns left = true) :
    Calls Tryz.prog 93 #[.slice ao ns.length ca, .slice bo left.length cb, .agg #[.int .u8 61, .int .i64 id, .int .i64 0, .string (bs (116 :: 126 :: digs id))]] w fun e w' => e = .returned (.bool true) ∧ Below w.heap.size w w' := by
  obtain ⟨W0, hW0⟩ : ∃ W0, (w.alloc (Obj.cells #[.int .u8 61, .int .i64 id, .int .i64 0, .string (bs (116 :: 126 :: digs id))] 82)).alloc (Obj.cells #[.int .i64 id, .int .i64 0, .string (bs (116 :: 126 :: digs id))] 64) = W0 := ⟨_, rfl⟩
  have hbw : Below w.heap.size w W0 := by rw [← hW0]; exact ((Below.refl _ _).alloc (Nat.le_refl _) _).alloc (by simp) _
  have hlt5 : w.heap.size < W0.heap.size := by rw [← hW0]; simp; omega
  have hlt7 : w.heap.size + 1 < W0.heap.size := by rw [← hW0]; simp
  have hP0 : PkS W0 w.heap.size (w.heap.size + 1) id (116 :: 126 :: digs id) W0.drew := by
    refine ⟨?_, ?_, ?_, ?_, (Below.refl _ _).drew⟩
    · show W0.cell? _ = _
      rw [← hW0, ((Below.refl _ (w.alloc _)).alloc (Nat.le_refl _) _).cell (p := ⟨w.heap.size, 0, none⟩) (by simp)]; exact news_four _ _ _ _ _ 0 _ rfl
    · show W0.cell? _ = _
      rw [← hW0]; exact news_three' _ _ _ _ _ 0 _ rfl
    · show W0.cell? _ = _
      rw [← hW0]; exact news_three' _ _ _ _ _ 1 _ rfl
    · show W0.cell? _ = _
      rw [← hW0]; exact news_three' _ _ _ _ _ 2 _ rfl
  have HP0 := hide hP0
  have HBW := hide hbw
  have hf : findN ns id < ns.length := by
    rcases Nat.lt_or_ge (findN ns id) ns.length with hh | hh
    · exact hh
    · rw [(lookR_none (by omega)).1] at hm; cases hm
  have q2 := (lookR_some hf).2
  have hgm : ns[findN ns id] = m := by have := (lookR_some hf).1; rw [hm] at this; cases this; rfl
  have HF := hide (fun W (h : Row W ao ns.length 3 (ndCells ns)) => find_any ns id ao ca W h hla)
  rw [q2] at HF
  have HST := hide (fun W (x1 : Row W ao ns.length 3 (ndCells ns)) (x2 : Row W bo left.length 4 (stCells left)) => stuck_any ns left ao bo ca cb W x1 x2 hla hlb hs)
  rw [hst] at HST
  have HD := hide (fun W => digits_digs id W (by omega) h2)
  have l1 := digs_len id
  have a1 := add_t (digs id) (by omega)
  have hne := node_eq_run m (parkN id)
  rw [hmn] at hne
  have hgd := Tryz.nodeGuard
  have hnm : ((bs (116 :: 126 :: digs id)).toList == (bs (116 :: 126 :: digs id)).toList) = true := by simp
  have HA := hide (Row.below ha hbw)
  have HB := hide (Row.below hb hbw)
  have HIN := hide hin
  unfold parkN at hne
  clear ha hb hs hm hmn hin hst hbw hP0
  generalize 116 :: 126 :: digs id = nm at *
  generalize digs id = dg at *
  go_enter Tryz.func93, Tryz.ntmps93
  go_wp2
  try rw [hW0]
  clear hW0
  generalize w.heap.size + 1 = b7 at *
  generalize hb5e : w.heap.size = b5 at *
  go_region_held3 (fun W => W.cell? ⟨b5, 0, none⟩ = some (.int .u8 61) ∧ W.cell? ⟨b7, 0, none⟩ = some (.int .i64 id) ∧ W.cell? ⟨b7, 1, none⟩ = some (.int .i64 0) ∧ W.cell? ⟨b7, 2, none⟩ = some (.string (bs nm)) ∧ Below W0.heap.size W0 W) (first | exact unhide HP0 | assumption) ((go_at_call 27; refine (unhide HD _).mono ?_; rintro e w1 ⟨rfl, hb1⟩; have hs1 := PkS.call hlt5 hlt7 hb1 (by first | assumption | exact unhide HP0)))
  obtain ⟨q0, q1, q2', q3, q4⟩ := hs1
  have HA1 := hide (Row.below (unhide HA) q4)
  have HB1 := hide (Row.below (unhide HB) q4)
  have HQ4 := hide q4
  obtain ⟨g, hao, hg, d0, d1, d2⟩ := nd_cells (unhide HA1) (Below.refl _ _) hf
  simp only [hgm] at d0 d1 d2
  rw [hao] at HF HA1 HST ⊢
  clear hb1 q4 hao hgm q2
  have hfn0 : (0 : Int) ≤ findN ns id := by omega
  have hfn1 : (findN ns id : Int) < ns.length := by omega
  generalize findN ns id = fn at *
  go_wp2_with fail
  refine (unhide HF _ (unhide HA1)).mono ?_
  rintro e w2 ⟨rfl, rfl⟩
  go_wp2
  go_quiet (fail)
  go_wp2
  go_loopw [9] (fun i wr => ∃ k nr : Nat, k ≤ left.length ∧ i = .int .i64 k ∧ wr = w2.drewN nr ∧ Hid (NoIn (pkIs left id) 0 k)) (fun i _ => left.length - (intOf i).toNat)
  case atStart => exact ⟨0, _, Nat.zero_le _, rfl, rfl, hide (fun j h1 h2 => by omega)⟩
  case round =>
    obtain ⟨k, nr, hk, rfl, rfl, HN⟩ := hrel
    by_cases hlt : k < left.length
    · obtain ⟨g2, hbo, hg2, c0, c1, _, _⟩ := st_cells (unhide HB1) hlt
      have HU : Hid (pkIs left id k = ((left[k]).kind == 61 && (left[k]).node.id == id)) := by apply hide; unfold pkIs; rw [stAt_get _ _ hlt]
      have hkk : (((left[k]).kind.toNat : Int) == 61) = ((left[k]).kind == 61) := by
        rw [Bool.eq_iff_iff, beq_iff_eq, beq_iff_eq]
        constructor
        · intro h; exact UInt8.toNat_inj.1 (by show (left[k]).kind.toNat = 61; omega)
        · intro h; rw [h]; rfl
      rw [hbo] at HST ⊢
      have hk0 : (0 : Int) ≤ k := by omega
      have hk1 : (k : Int) < left.length := by omega
      have HB2 := HB1
      rw [hbo] at HB2
      clear hbo
      generalize left[k] = st at *
      cases hq : (st.kind == 61)
      · have HN2 := hide (noIn_succ (unhide HN) (by rw [unhide HU, hq]; rfl))
        rw [hq] at hkk
        go_wp2
        go_quiet (fail)
        go_wp2
        go_roundw
        case rel => exact ⟨k + 1, _, by omega, by go_num, rfl, HN2⟩
        case measure => simp [intOf]; omega
      · rw [hq] at hkk
        cases hq2 : (st.node.id == id)
        · have HN2 := hide (noIn_succ (unhide HN) (by rw [unhide HU, hq, hq2]; rfl))
          go_wp2
          go_quiet (fail)
          go_wp2
          go_roundw
          case rel => exact ⟨k + 1, _, by omega, by go_num, rfl, HN2⟩
          case measure => simp [intOf]; omega
        · go_wp2
          go_quiet (fail)
          rename_i nq
          go_wp2_with fail
          refine (unhide HST _ (row_drewN (unhide HA1) _) (row_drewN (unhide HB2) _)).mono ?_
          rintro e w5 ⟨rfl, hb5⟩
          have HB5 := hide (((unhide HBW).trans ((unhide HQ4).mono (by omega))).trans ((below_drewN (Below.refl w2.heap.size w2) (nr + nq)).mono (by have := (unhide HQ4).size; omega)))
          have HB6 := hide ((unhide HB5).trans (hb5.mono (by have := (unhide HQ4).size; simp; omega)))
          clear hb5
          go_wp2
          go_ret
          exact ⟨rfl, by first | exact unhide HB6 | (rw [hb5e]; exact unhide HB6)⟩
    · exfalso
      obtain ⟨j, hj, hjp⟩ := unhide HIN
      have := unhide HN j (by omega) (by omega)
      rw [hjp] at this; cases this
end Go.Proofs.YtkahmbpggdneoaaGreatDoor
