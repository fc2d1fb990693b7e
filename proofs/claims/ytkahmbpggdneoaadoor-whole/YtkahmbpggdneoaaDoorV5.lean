import Derived.Test.YtkahmbpggdneoaaDoorV4
namespace Go.Proofs.YtkahmbpggdneoaaDoor
open Go.RowKit
set_option maxHeartbeats 2000000 in
set_option maxRecDepth 100000 in
theorem firstAway_any (a g : Tr) (b : Nat) (v : Value) (w : World) (ha : TrOk a) (hg : TrOk g) (hT : TreeAt (planX g v) w b a) :
    Calls Tryd.prog 88 #[.pointer (some ⟨b, 0, none⟩)] w fun e w' => e = .returned (.int .i64 (firstAway a g)) ∧ Below w.heap.size w w' := by
  have hlt := hT.lt
  have HH := hide (fun W (m : Int) (q0 : 0 ≤ m) (q1 : m ≤ 99) (h : Below w.heap.size w W) => home_any a g b m v W ha hg q0 q1 (hT.below h))
  clear hT ha hg
  go_enter Tryd.func88, Tryd.ntmps88
  go_wp2
  go_loopw [3] (fun i wr => ∃ k : Nat, 1 ≤ k ∧ k ≤ 100 ∧ i = .int .i64 k ∧ Below w.heap.size w wr ∧ Hid (NoIn (awayIs a g) 1 k)) (fun i _ => 101 - (intOf i).toNat)
  case atStart => exact ⟨1, by omega, by omega, rfl, Below.refl _ _, hide (fun j h1 h2 => by omega)⟩
  case round =>
    obtain ⟨k, hk1, hk, rfl, hbel, HN⟩ := hrel
    have hsz := hbel.size
    by_cases hlt2 : k ≤ 99
    · have HH1 := hide (unhide HH wr k (by omega) (by omega) hbel)
      cases hq : (homeS a g k).isSome
      · have HN2 := hide (noIn_succ (unhide HN) (show awayIs a g k = false from hq))
        rw [hq] at HH1
        clear hq
        generalize homeV a g k = hv at *
        go_wp2_with fail
        refine (unhide HH1).mono ?_
        rintro e w1 ⟨rfl, hb1⟩
        have hb2 := (hbel.trans (hb1.mono hsz)).alloc (by have := hb1.size; omega) (.cells #[.int .u8 hv.kind.toNat, .int .i64 hv.node.id, .int .i64 hv.node.parent, .string (bs hv.node.name)] 83)
        clear hbel hb1
        go_wp2
        go_roundw
        case rel => exact ⟨k + 1, by omega, by omega, by go_num, hb2, HN2⟩
        case measure => simp [intOf]; omega
      · have HS : Hid (firstAway a g = k) := by
          apply hide
          have e : scan (awayIs a g) 1 100 = k := scan_hit hk1 (by omega) hq (unhide HN)
          unfold firstAway; rw [e, if_pos (by omega)]
        rw [hq] at HH1
        clear hq
        generalize homeV a g k = hv at *
        go_wp2_with fail
        refine (unhide HH1).mono ?_
        rintro e w1 ⟨rfl, hb1⟩
        have HB2 := hide ((hbel.trans (hb1.mono hsz)).alloc (by have := hb1.size; omega) (.cells #[.int .u8 hv.kind.toNat, .int .i64 hv.node.id, .int .i64 hv.node.parent, .string (bs hv.node.name)] 83))
        clear hbel hb1
        go_wp2
        go_ret
        exact ⟨ret_int (unhide HS).symm, unhide HB2⟩
    · have HS : Hid (firstAway a g = 0) := by
        apply hide
        have e : scan (awayIs a g) 1 100 = 100 := scan_none (fun j h1 h2 => unhide HN j h1 (by omega))
        unfold firstAway; rw [e, if_neg (by omega)]
      go_wp2
      go_ret
      exact ⟨ret_int (unhide HS).symm, hbel⟩
/-! The knot. -/
theorem fromAway_bd {a g : Tr} (ha : TrOk a) : ∀ (f : Nat) (p : Int), 0 ≤ p → p ≤ 99 → 0 ≤ fromAwayF a g f p ∧ fromAwayF a g f p ≤ 99 := by
  intro f
  induction f with
  | zero => intro p _ _; simp [fromAwayF]
  | succ f ih =>
    intro p h0 h1
    rw [fromAwayF]
    split
    · exact ⟨h0, h1⟩
    · have := getT_parent ha p; exact ih _ this.1 this.2
theorem blocker_bd {a g : Tr} (ha : TrOk a) (hg : TrOk g) {id : Int} (h0 : 0 ≤ id) : 0 ≤ blocker a g id ∧ blocker a g id ≤ 99 := by
  have hat : ∀ p s, 0 ≤ atT a p s ∧ atT a p s ≤ 99 := by
    intro p s; unfold atT; split <;> omega
  have hk : 0 ≤ kidT a id ∧ kidT a id ≤ 99 := by unfold kidT; split <;> omega
  unfold blocker
  cases hq : homeS a g id with
  | none => simp
  | some s =>
    simp only
    split
    · exact hk
    · rename_i hk45
      have hn : 0 ≤ s.node.parent ∧ s.node.parent ≤ 99 := by
        rcases home_cases hq with ⟨e, _⟩ | ⟨n, e, hgn, _⟩ | ⟨n, _, e, hgn, _⟩
        · rw [e] at hk45; exact absurd rfl hk45
        · have := (trOk_id hg h0 hgn).2.2.2; rw [e]; exact ⟨this.2.2.1, this.2.2.2.1⟩
        · have := (trOk_id hg h0 hgn).2.2.2; rw [e]; exact ⟨this.2.2.1, this.2.2.2.1⟩
      unfold inWay
      split
      · exact hn
      · split
        · exact fromAway_bd ha 99 _ hn.1 hn.2
        · exact hat _ _
theorem firstAway_bd (a g : Tr) : 0 ≤ firstAway a g ∧ firstAway a g ≤ 99 := by unfold firstAway; split <;> omega
theorem seek_hit' {a g : Tr} {f : Nat} {m : Int} (h : isMove a g m = true) : seekF a g (f + 1) m = m := by rw [seekF, if_pos h]
theorem seek_go {a g : Tr} {f : Nat} {m : Int} (h : isMove a g m = false) : seekF a g (f + 1) m = seekF a g f (blocker a g m) := by rw [seekF, if_neg (by rw [h]; simp)]
theorem isMove_kind (a g : Tr) (m : Int) : isMove a g m = (((homeV a g m).kind.toNat : Int) == 61) := by
  unfold isMove homeV
  cases homeS a g m with
  | none => rfl
  | some s =>
    show (s.kind == 61) = ((s.kind.toNat : Int) == 61)
    rw [Bool.eq_iff_iff, beq_iff_eq, beq_iff_eq]
    constructor
    · intro h; rw [h]; rfl
    · intro h; exact UInt8.toNat_inj.1 (by show s.kind.toNat = 61; omega)
set_option maxHeartbeats 2000000 in
set_option maxRecDepth 100000 in
theorem knot_any (a g : Tr) (b : Nat) (v : Value) (w : World) (ha : TrOk a) (hg : TrOk g) (hT : TreeAt (planX g v) w b a) :
    Calls Tryd.prog 72 #[.pointer (some ⟨b, 0, none⟩)] w fun e w' => e = .returned (.int .i64 (knotT a g)) ∧ Below w.heap.size w w' := by
  have hlt := hT.lt
  have HH := hide (fun W (m : Int) (q0 : 0 ≤ m) (q1 : m ≤ 99) (h : Below w.heap.size w W) => home_any a g b m v W ha hg q0 q1 (hT.below h))
  have HBL := hide (fun W (m : Int) (q0 : 0 ≤ m) (q1 : m ≤ 99) (h : Below w.heap.size w W) => blocker_any a g b m v W ha hg q0 q1 (hT.below h))
  have HFA := hide (firstAway_any a g b v w ha hg hT)
  have HBB := hide (fun (m : Int) (q0 : 0 ≤ m) => blocker_bd (a := a) (g := g) ha hg q0)
  have hfb := firstAway_bd a g
  have HK : Hid (knotT a g = seekF a g 99 (iter (blocker a g) 99 (firstAway a g))) := hide rfl
  clear hT ha hg
  generalize knotT a g = F at *
  generalize hfa : firstAway a g = fa at *
  clear hfa
  go_enter Tryd.func72, Tryd.ntmps72
  go_wp2_with fail
  refine (unhide HFA).mono ?_
  rintro e w0 ⟨rfl, hb0⟩
  go_wp2_with fail
  go_loopw [3, 4] (fun d i wr => ∃ k : Nat, ∃ m : Int, k ≤ 99 ∧ i = .int .i64 k ∧ d = .int .i64 m ∧ 0 ≤ m ∧ m ≤ 99 ∧ Below w.heap.size w wr ∧ Hid (F = seekF a g 99 (iter (blocker a g) (99 - k) m))) (fun _ i _ => 100 - (intOf i).toNat)
  case atStart => exact ⟨0, fa, by omega, rfl, rfl, hfb.1, hfb.2, hb0, HK⟩
  case round =>
    obtain ⟨k, m, hk, rfl, rfl, hm0, hm1, hbel, HI⟩ := hrel
    have hsz := hbel.size
    by_cases hkk : k < 99
    · have HI2 : Hid (F = seekF a g 99 (iter (blocker a g) (98 - k) (blocker a g m))) := by
        apply hide; rw [unhide HI, show 99 - k = (98 - k) + 1 by omega]; rfl
      have hbb := unhide HBB m hm0
      have HB1 := hide (unhide HBL wr m hm0 hm1 hbel)
      generalize blocker a g m = y at *
      clear HI
      go_wp2_with fail
      refine (unhide HB1).mono ?_
      rintro e w1 ⟨rfl, hb1⟩
      have hb2 := hbel.trans (hb1.mono hsz)
      clear hbel hb1
      go_wp2
      go_roundw
      case rel => exact ⟨k + 1, y, by omega, by go_num, rfl, hbb.1, hbb.2, hb2, by apply hide; rw [show 99 - (k + 1) = 98 - k by omega]; exact unhide HI2⟩
      case measure => simp [intOf]; omega
    · have HI2 : Hid (F = seekF a g 99 m) := by
        apply hide; rw [unhide HI, show 99 - k = 0 by omega]; rfl
      clear HI
      go_wp2_with fail
      go_loopw [3, 5] (fun d i wr => ∃ k : Nat, ∃ m : Int, k ≤ 99 ∧ i = .int .i64 k ∧ d = .int .i64 m ∧ 0 ≤ m ∧ m ≤ 99 ∧ Below w.heap.size w wr ∧ Hid (F = seekF a g (99 - k) m)) (fun _ i _ => 100 - (intOf i).toNat)
      case atStart => exact ⟨0, m, by omega, rfl, rfl, hm0, hm1, hbel, HI2⟩
      case round =>
        obtain ⟨k, m, hk, rfl, rfl, hm0, hm1, hbel, HI⟩ := hrel
        have hsz := hbel.size
        by_cases hkk : k < 99
        · have HI2 : Hid (F = seekF a g ((98 - k) + 1) m) := by
            apply hide; rw [unhide HI, show 99 - k = (98 - k) + 1 by omega]
          have HH1 := hide (unhide HH wr m hm0 hm1 hbel)
          have hmk := isMove_kind a g m
          cases hq : isMove a g m
          · have HN := hide ((unhide HI2).trans (seek_go hq))
            rw [hq] at hmk
            have hmk2 := hmk.symm
            have hbb := unhide HBB m hm0
            have HB1 := hide (fun W h => unhide HBL W m hm0 hm1 h)
            clear hq hmk HI HI2
            generalize blocker a g m = y at *
            generalize homeV a g m = hv at *
            go_wp2_with fail
            refine (unhide HH1).mono ?_
            rintro e w1 ⟨rfl, hb1⟩
            have hb2 := (hbel.trans (hb1.mono hsz)).alloc (by have := hb1.size; omega) (.cells #[.int .u8 hv.kind.toNat, .int .i64 hv.node.id, .int .i64 hv.node.parent, .string (bs hv.node.name)] 83)
            clear hbel hb1
            go_wp2_with fail
            refine (unhide HB1 _ hb2).mono ?_
            rintro e w2 ⟨rfl, hb3⟩
            have hb4 := hb2.trans (hb3.mono hb2.size)
            clear hb2 hb3
            go_wp2
            go_roundw
            case rel => exact ⟨k + 1, y, by omega, by go_num, rfl, hbb.1, hbb.2, hb4, by apply hide; rw [show 99 - (k + 1) = 98 - k by omega]; exact unhide HN⟩
            case measure => simp [intOf]; omega
          · have HN := hide ((unhide HI2).trans (seek_hit' hq))
            rw [hq] at hmk
            have hmk2 := hmk.symm
            clear hq hmk HI HI2
            generalize homeV a g m = hv at *
            go_wp2_with fail
            refine (unhide HH1).mono ?_
            rintro e w1 ⟨rfl, hb1⟩
            have HB2 := hide ((hbel.trans (hb1.mono hsz)).alloc (by have := hb1.size; omega) (.cells #[.int .u8 hv.kind.toNat, .int .i64 hv.node.id, .int .i64 hv.node.parent, .string (bs hv.node.name)] 83))
            clear hbel hb1
            go_wp2
            go_ret
            exact ⟨ret_int (unhide HN).symm, unhide HB2⟩
        · have HN : Hid (F = 0) := by apply hide; rw [unhide HI, show 99 - k = 0 by omega]; rfl
          go_wp2
          go_ret
          exact ⟨ret_int (unhide HN).symm, hbel⟩
end Go.Proofs.YtkahmbpggdneoaaDoor
