import Derived.Test.YtkahmbpggdneoaaDoorC8
namespace Go.Proofs.YtkahmbpggdneoaaDoor
open Go.RowKit
theorem quiet_add2 {P : Program} {f : FuncId} {args : Array Value} {w : World} {a n : Nat} {v : Value}
    (h : Calls P f args (w.drewN (a + n)) fun e w' => e = .returned v ∧ w' = w.drewN (a + n)) : Calls P f args (w.drewN (a + n)) fun e w'' => e = .returned v ∧ ∃ m, w'' = w.drewN (a + m) :=
  h.mono fun _ _ ⟨he, hm⟩ => ⟨he, n, hm⟩
theorem inWay_1 {a g : Tr} {n : Nd} (h : isParentT a n.parent = false) : inWay a g n = n.parent := by unfold inWay; rw [h]; rfl
theorem inWay_2 {a g : Tr} {n : Nd} (h : isParentT a n.parent = true) (h2 : meetsT a n.parent n.id = true) : inWay a g n = fromAwayF a g 99 n.parent := by unfold inWay; rw [h, h2]; rfl
theorem inWay_3 {a g : Tr} {n : Nd} (h : isParentT a n.parent = true) (h2 : meetsT a n.parent n.id = false) : inWay a g n = atT a n.parent n.name := by unfold inWay; rw [h, h2]; rfl
set_option maxHeartbeats 2000000 in
set_option maxRecDepth 100000 in
theorem inWay_any (a g : Tr) (b : Nat) (n : Nd) (v : Value) (w : World) (ha : TrOk a) (hg : TrOk g) (h0 : 0 ≤ n.parent) (h1 : n.parent ≤ 99) (hT : TreeAt (planX g v) w b a) :
    Calls Tryd.prog 94 #[.pointer (some ⟨b, 0, none⟩), .agg #[.int .i64 n.id, .int .i64 n.parent, .string (bs n.name)]] w fun e w' => e = .returned (.int .i64 (inWay a g n)) ∧ Below w.heap.size w w' := by
  have hb1 := (Below.refl w.heap.size w).alloc (Nat.le_refl _) (.cells #[.int .i64 n.id, .int .i64 n.parent, .string (bs n.name)] 56)
  have HT1 := hide (hT.below hb1)
  have HP := hide (fun W (h : TreeAt (planX g v) W b a) => isParent_any a b n.parent W ha h0 h1 h)
  have HM := hide (fun W (h : TreeAt (planX g v) W b a) => meets_any a b n.parent n.id W ha h0 h1 h)
  have HA := hide (fun W (h : TreeAt (planX g v) W b a) => at_any a b n.parent n.name W h)
  have HF := hide (fun W (h : TreeAt (planX g v) W b a) => fromAway_any a g b n.parent v W ha hg h0 h1 h)
  have HB := hide hb1
  have hlt := hT.lt
  clear hb1 hT ha hg
  cases hp : isParentT a n.parent
  · rw [inWay_1 hp]
    rw [hp] at HP
    go_enter Tryd.func94, Tryd.ntmps94
    go_wp2_with fail
    go_quiet ((go_at_call 75; exact Calls.quiet_of_same (unhide HP _ (unhide HT1))))
    go_wp2
    go_ret
    exact ⟨rfl, below_drewN (unhide HB) _⟩
  · rw [hp] at HP
    cases hm : meetsT a n.parent n.id
    · rw [inWay_3 hp hm]
      rw [hm] at HM
      go_enter Tryd.func94, Tryd.ntmps94
      go_wp2_with fail
      go_quiet ((go_at_call 75; exact Calls.quiet_of_same (unhide HP _ (unhide HT1))))
      go_wp2_with fail
      go_quiet ((go_at_call 76; exact quiet_add2 (unhide HM _ (unhide HT1))))
      go_wp2_with fail
      go_quiet ((go_at_call 78; exact quiet_add2 (unhide HA _ (unhide HT1))))
      go_wp2
      go_ret
      exact ⟨rfl, below_drewN (below_drewN (below_drewN (unhide HB) _) _) _⟩
    · rw [inWay_2 hp hm]
      rw [hm] at HM
      go_enter Tryd.func94, Tryd.ntmps94
      go_wp2_with fail
      go_quiet ((go_at_call 75; exact Calls.quiet_of_same (unhide HP _ (unhide HT1))))
      go_wp2_with fail
      go_quiet ((go_at_call 76; exact quiet_add2 (unhide HM _ (unhide HT1))))
      go_wp2_with fail
      refine (unhide HF _ (by exact unhide HT1)).mono ?_
      rintro e w2 ⟨rfl, hb2⟩
      have HB2 := hide ((below_drewN (unhide HB) _).trans (hb2.mono (by simp)))
      clear hb2
      go_wp2
      go_ret
      exact ⟨rfl, unhide HB2⟩
theorem blocker_0 {a g : Tr} {id : Int} (h : homeS a g id = none) : blocker a g id = 0 ∧ homeV a g id = stZ := by unfold blocker homeV; rw [h]; exact ⟨rfl, rfl⟩
theorem blocker_1 {a g : Tr} {id : Int} {s : St} (h : homeS a g id = some s) (hk : s.kind = 45) : blocker a g id = kidT a id ∧ homeV a g id = s := by unfold blocker homeV; rw [h]; exact ⟨if_pos hk, rfl⟩
theorem blocker_2 {a g : Tr} {id : Int} {s : St} (h : homeS a g id = some s) (hk : ¬ s.kind = 45) : blocker a g id = inWay a g s.node ∧ homeV a g id = s := by unfold blocker homeV; rw [h]; exact ⟨if_neg hk, rfl⟩
set_option maxHeartbeats 2000000 in
set_option maxRecDepth 100000 in
theorem blocker_any (a g : Tr) (b : Nat) (id : Int) (v : Value) (w : World) (ha : TrOk a) (hg : TrOk g) (h0 : 0 ≤ id) (h1 : id ≤ 99) (hT : TreeAt (planX g v) w b a) :
    Calls Tryd.prog 89 #[.pointer (some ⟨b, 0, none⟩), .int .i64 id] w fun e w' => e = .returned (.int .i64 (blocker a g id)) ∧ Below w.heap.size w w' := by
  have HH := hide (home_any a g b id v w ha hg h0 h1 hT)
  have hlt := hT.lt
  cases hq : homeS a g id with
  | none =>
    obtain ⟨e1, e2⟩ := blocker_0 hq
    rw [e1]
    rw [e2, hq] at HH
    clear e1 e2 hq hT ha hg
    go_enter Tryd.func89, Tryd.ntmps89
    go_wp2_with fail
    refine (unhide HH).mono ?_
    rintro e w1 ⟨rfl, hb1⟩
    have HB := hide (hb1.alloc hb1.size (.cells #[.int .u8 stZ.kind.toNat, .int .i64 stZ.node.id, .int .i64 stZ.node.parent, .string (bs stZ.node.name)] 83))
    have hkz : stZ.kind.toNat = 0 := rfl
    clear hb1
    go_wp2
    go_ret
    exact ⟨rfl, unhide HB⟩
  | some s =>
    have hT' := hT
    rcases home_cases hq with ⟨e, hgn, m, hm⟩ | ⟨n, e, hgn, hn⟩ | ⟨n, m, e, hgn, hm, _⟩
    · obtain ⟨e1, e2⟩ := blocker_1 hq (by rw [e])
      rw [e1]
      rw [e2, hq, e] at HH
      have HK := hide (fun W (h : TreeAt (planX g v) W b a) => kid_any a b id W h)
      have HT := hide hT
      clear e1 e2 hq hT ha hg e hgn hm hT'
      go_enter Tryd.func89, Tryd.ntmps89
      go_wp2_with fail
      refine (unhide HH).mono ?_
      rintro e w1 ⟨rfl, hb1⟩
      have HB := hide (hb1.alloc hb1.size (.cells #[.int .u8 45, .int .i64 id, .int .i64 0, .string (bs [])] 83))
      have HT1 := hide ((unhide HT).below (unhide HB))
      clear hb1
      go_wp2_with fail
      refine (unhide HK _ (by exact unhide HT1)).mono ?_
      rintro e w2 ⟨rfl, rfl⟩
      go_wp2
      go_ret
      exact ⟨rfl, unhide HB⟩
    · obtain ⟨e1, e2⟩ := blocker_2 hq (by rw [e]; show ¬ ((43 : UInt8) = 45); decide)
      rw [e1]
      rw [e2, hq] at HH
      subst e
      have hb := trOk_id hg h0 hgn
      have HI := hide (fun W (h : TreeAt (planX g v) W b a) => inWay_any a g b n v W ha hg hb.2.2.2.2.2.1 hb.2.2.2.2.2.2.1 h)
      have HT := hide hT
      clear e1 e2 hq hT ha hg hgn hn hT' hb
      go_enter Tryd.func89, Tryd.ntmps89
      go_wp2_with fail
      refine (unhide HH).mono ?_
      rintro e w1 ⟨rfl, hb1⟩
      have HB := hide (hb1.alloc hb1.size (.cells #[.int .u8 43, .int .i64 n.id, .int .i64 n.parent, .string (bs n.name)] 83))
      have HT1 := hide ((unhide HT).below (unhide HB))
      clear hb1
      go_wp2_with fail
      refine (unhide HI _ (by exact unhide HT1)).mono ?_
      rintro e w2 ⟨rfl, hb2⟩
      have HB2 := hide ((unhide HB).trans (hb2.mono (by have := (unhide HB).size; exact this)))
      clear hb2
      go_wp2
      go_ret
      exact ⟨rfl, unhide HB2⟩
    · obtain ⟨e1, e2⟩ := blocker_2 hq (by rw [e]; show ¬ ((61 : UInt8) = 45); decide)
      rw [e1]
      rw [e2, hq] at HH
      subst e
      have hb := trOk_id hg h0 hgn
      have HI := hide (fun W (h : TreeAt (planX g v) W b a) => inWay_any a g b n v W ha hg hb.2.2.2.2.2.1 hb.2.2.2.2.2.2.1 h)
      have HT := hide hT
      clear e1 e2 hq hT ha hg hgn hm hT' hb
      go_enter Tryd.func89, Tryd.ntmps89
      go_wp2_with fail
      refine (unhide HH).mono ?_
      rintro e w1 ⟨rfl, hb1⟩
      have HB := hide (hb1.alloc hb1.size (.cells #[.int .u8 61, .int .i64 n.id, .int .i64 n.parent, .string (bs n.name)] 83))
      have HT1 := hide ((unhide HT).below (unhide HB))
      clear hb1
      go_wp2_with fail
      refine (unhide HI _ (by exact unhide HT1)).mono ?_
      rintro e w2 ⟨rfl, hb2⟩
      have HB2 := hide ((unhide HB).trans (hb2.mono (by have := (unhide HB).size; exact this)))
      clear hb2
      go_wp2
      go_ret
      exact ⟨rfl, unhide HB2⟩
end Go.Proofs.YtkahmbpggdneoaaDoor

namespace Go.Proofs.YtkahmbpggdneoaaDoor
open Go.RowKit
set_option maxHeartbeats 2000000 in
set_option maxRecDepth 100000 in
theorem firstAway_any (a g : Tr) (b : Nat) (v : Value) (w : World) (ha : TrOk a) (hg : TrOk g) (hT : TreeAt (planX g v) w b a) :
    Calls Tryd.prog 88 #[.pointer (some ⟨b, 0, none⟩)] w fun e w' => e = .returned (.int .i64 (firstAway a g)) ∧ Below w.heap.size w w' := by
  have hlt := hT.lt
  have HH := hide (fun W (m : Int) (q0 : 0 ≤ m) (q1 : m ≤ 99) (h : Below w.heap.size w W) => home_any a g b m v W ha hg q0 q1 (hT.below h))
  clear hT ha hg
  go_enter Tryd.func88, Tryd.ntmps88
  go_wp2
  go_loopw [3] (fun i wr => ∃ k : Nat, 1 ≤ k ∧ k ≤ 100 ∧ i = .int .i64 k ∧ Below w.heap.size w wr ∧ Hid (NoIn (awayIs a g) 1 k)) (fun i _ => 101 - (intOf i).toNat)
  case atStart => exact ⟨1, by omega, by omega, rfl, Below.refl _ _, hide (fun j h1 h2 => by omega)⟩
  case round =>
    obtain ⟨k, hk1, hk, rfl, hbel, HN⟩ := hrel
    have hsz := hbel.size
    by_cases hlt2 : k ≤ 99
    · have HH1 := hide (unhide HH wr k (by omega) (by omega) hbel)
      cases hq : (homeS a g k).isSome
      · have HN2 := hide (noIn_succ (unhide HN) (show awayIs a g k = false from hq))
        rw [hq] at HH1
        clear hq
        generalize homeV a g k = hv at *
        go_wp2_with fail
        refine (unhide HH1).mono ?_
        rintro e w1 ⟨rfl, hb1⟩
        have hb2 := (hbel.trans (hb1.mono hsz)).alloc (by have := hb1.size; omega) (.cells #[.int .u8 hv.kind.toNat, .int .i64 hv.node.id, .int .i64 hv.node.parent, .string (bs hv.node.name)] 83)
        clear hbel hb1
        go_wp2
        go_roundw
        case rel => exact ⟨k + 1, by omega, by omega, by go_num, hb2, HN2⟩
        case measure => simp [intOf]; omega
      · have HS : Hid (firstAway a g = k) := by
          apply hide
          have e : scan (awayIs a g) 1 100 = k := scan_hit hk1 (by omega) hq (unhide HN)
          unfold firstAway; rw [e, if_pos (by omega)]
        rw [hq] at HH1
        clear hq
        generalize homeV a g k = hv at *
        go_wp2_with fail
        refine (unhide HH1).mono ?_
        rintro e w1 ⟨rfl, hb1⟩
        have HB2 := hide ((hbel.trans (hb1.mono hsz)).alloc (by have := hb1.size; omega) (.cells #[.int .u8 hv.kind.toNat, .int .i64 hv.node.id, .int .i64 hv.node.parent, .string (bs hv.node.name)] 83))
        clear hbel hb1
        go_wp2
        go_ret
        exact ⟨ret_int (unhide HS).symm, unhide HB2⟩
    · have HS : Hid (firstAway a g = 0) := by
        apply hide
        have e : scan (awayIs a g) 1 100 = 100 := scan_none (fun j h1 h2 => unhide HN j h1 (by omega))
        unfold firstAway; rw [e, if_neg (by omega)]
      go_wp2
      go_ret
      exact ⟨ret_int (unhide HS).symm, hbel⟩
/-! The knot. -/
theorem fromAway_bd {a g : Tr} (ha : TrOk a) : ∀ (f : Nat) (p : Int), 0 ≤ p → p ≤ 99 → 0 ≤ fromAwayF a g f p ∧ fromAwayF a g f p ≤ 99 := by
  intro f
  induction f with
  | zero => intro p _ _; simp [fromAwayF]
  | succ f ih =>
    intro p h0 h1
    rw [fromAwayF]
    split
    · exact ⟨h0, h1⟩
    · have := getT_parent ha p; exact ih _ this.1 this.2
theorem blocker_bd {a g : Tr} (ha : TrOk a) (hg : TrOk g) {id : Int} (h0 : 0 ≤ id) : 0 ≤ blocker a g id ∧ blocker a g id ≤ 99 := by
  have hat : ∀ p s, 0 ≤ atT a p s ∧ atT a p s ≤ 99 := by
    intro p s; unfold atT; split <;> omega
  have hk : 0 ≤ kidT a id ∧ kidT a id ≤ 99 := by unfold kidT; split <;> omega
  unfold blocker
  cases hq : homeS a g id with
  | none => simp
  | some s =>
    simp only
    split
    · exact hk
    · rename_i hk45
      have hn : 0 ≤ s.node.parent ∧ s.node.parent ≤ 99 := by
        rcases home_cases hq with ⟨e, _⟩ | ⟨n, e, hgn, _⟩ | ⟨n, _, e, hgn, _⟩
        · rw [e] at hk45; exact absurd rfl hk45
        · have := (trOk_id hg h0 hgn).2.2.2; rw [e]; exact ⟨this.2.2.1, this.2.2.2.1⟩
        · have := (trOk_id hg h0 hgn).2.2.2; rw [e]; exact ⟨this.2.2.1, this.2.2.2.1⟩
      unfold inWay
      split
      · exact hn
      · split
        · exact fromAway_bd ha 99 _ hn.1 hn.2
        · exact hat _ _
theorem firstAway_bd (a g : Tr) : 0 ≤ firstAway a g ∧ firstAway a g ≤ 99 := by unfold firstAway; split <;> omega
theorem seek_hit' {a g : Tr} {f : Nat} {m : Int} (h : isMove a g m = true) : seekF a g (f + 1) m = m := by rw [seekF, if_pos h]
theorem seek_go {a g : Tr} {f : Nat} {m : Int} (h : isMove a g m = false) : seekF a g (f + 1) m = seekF a g f (blocker a g m) := by rw [seekF, if_neg (by rw [h]; simp)]
theorem isMove_kind (a g : Tr) (m : Int) : isMove a g m = (((homeV a g m).kind.toNat : Int) == 61) := by
  unfold isMove homeV
  cases homeS a g m with
  | none => rfl
  | some s =>
    show (s.kind == 61) = ((s.kind.toNat : Int) == 61)
    rw [Bool.eq_iff_iff, beq_iff_eq, beq_iff_eq]
    constructor
    · intro h; rw [h]; rfl
    · intro h; exact UInt8.toNat_inj.1 (by show s.kind.toNat = 61; omega)
set_option maxHeartbeats 2000000 in
set_option maxRecDepth 100000 in
theorem knot_any (a g : Tr) (b : Nat) (v : Value) (w : World) (ha : TrOk a) (hg : TrOk g) (hT : TreeAt (planX g v) w b a) :
    Calls Tryd.prog 72 #[.pointer (some ⟨b, 0, none⟩)] w fun e w' => e = .returned (.int .i64 (knotT a g)) ∧ Below w.heap.size w w' := by
  have hlt := hT.lt
  have HH := hide (fun W (m : Int) (q0 : 0 ≤ m) (q1 : m ≤ 99) (h : Below w.heap.size w W) => home_any a g b m v W ha hg q0 q1 (hT.below h))
  have HBL := hide (fun W (m : Int) (q0 : 0 ≤ m) (q1 : m ≤ 99) (h : Below w.heap.size w W) => blocker_any a g b m v W ha hg q0 q1 (hT.below h))
  have HFA := hide (firstAway_any a g b v w ha hg hT)
  have HBB := hide (fun (m : Int) (q0 : 0 ≤ m) => blocker_bd (a := a) (g := g) ha hg q0)
  have hfb := firstAway_bd a g
  have HK : Hid (knotT a g = seekF a g 99 (iter (blocker a g) 99 (firstAway a g))) := hide rfl
  clear hT ha hg
  generalize knotT a g = F at *
  generalize hfa : firstAway a g = fa at *
  clear hfa
  go_enter Tryd.func72, Tryd.ntmps72
  go_wp2_with fail
  refine (unhide HFA).mono ?_
  rintro e w0 ⟨rfl, hb0⟩
  go_wp2_with fail
  go_loopw [3, 4] (fun d i wr => ∃ k : Nat, ∃ m : Int, k ≤ 99 ∧ i = .int .i64 k ∧ d = .int .i64 m ∧ 0 ≤ m ∧ m ≤ 99 ∧ Below w.heap.size w wr ∧ Hid (F = seekF a g 99 (iter (blocker a g) (99 - k) m))) (fun _ i _ => 100 - (intOf i).toNat)
  case atStart => exact ⟨0, fa, by omega, rfl, rfl, hfb.1, hfb.2, hb0, HK⟩
  case round =>
    obtain ⟨k, m, hk, rfl, rfl, hm0, hm1, hbel, HI⟩ := hrel
    have hsz := hbel.size
    by_cases hkk : k < 99
    · have HI2 : Hid (F = seekF a g 99 (iter (blocker a g) (98 - k) (blocker a g m))) := by
        apply hide; rw [unhide HI, show 99 - k = (98 - k) + 1 by omega]; rfl
      have hbb := unhide HBB m hm0
      have HB1 := hide (unhide HBL wr m hm0 hm1 hbel)
      generalize blocker a g m = y at *
      clear HI
      go_wp2_with fail
      refine (unhide HB1).mono ?_
      rintro e w1 ⟨rfl, hb1⟩
      have hb2 := hbel.trans (hb1.mono hsz)
      clear hbel hb1
      go_wp2
      go_roundw
      case rel => exact ⟨k + 1, y, by omega, by go_num, rfl, hbb.1, hbb.2, hb2, by apply hide; rw [show 99 - (k + 1) = 98 - k by omega]; exact unhide HI2⟩
      case measure => simp [intOf]; omega
    · have HI2 : Hid (F = seekF a g 99 m) := by
        apply hide; rw [unhide HI, show 99 - k = 0 by omega]; rfl
      clear HI
      go_wp2_with fail
      go_loopw [3, 5] (fun d i wr => ∃ k : Nat, ∃ m : Int, k ≤ 99 ∧ i = .int .i64 k ∧ d = .int .i64 m ∧ 0 ≤ m ∧ m ≤ 99 ∧ Below w.heap.size w wr ∧ Hid (F = seekF a g (99 - k) m)) (fun _ i _ => 100 - (intOf i).toNat)
      case atStart => exact ⟨0, m, by omega, rfl, rfl, hm0, hm1, hbel, HI2⟩
      case round =>
        obtain ⟨k, m, hk, rfl, rfl, hm0, hm1, hbel, HI⟩ := hrel
        have hsz := hbel.size
        by_cases hkk : k < 99
        · have HI2 : Hid (F = seekF a g ((98 - k) + 1) m) := by
            apply hide; rw [unhide HI, show 99 - k = (98 - k) + 1 by omega]
          have HH1 := hide (unhide HH wr m hm0 hm1 hbel)
          have hmk := isMove_kind a g m
          cases hq : isMove a g m
          · have HN := hide ((unhide HI2).trans (seek_go hq))
            rw [hq] at hmk
            have hmk2 := hmk.symm
            have hbb := unhide HBB m hm0
            have HB1 := hide (fun W h => unhide HBL W m hm0 hm1 h)
            clear hq hmk HI HI2
            generalize blocker a g m = y at *
            generalize homeV a g m = hv at *
            go_wp2_with fail
            refine (unhide HH1).mono ?_
            rintro e w1 ⟨rfl, hb1⟩
            have hb2 := (hbel.trans (hb1.mono hsz)).alloc (by have := hb1.size; omega) (.cells #[.int .u8 hv.kind.toNat, .int .i64 hv.node.id, .int .i64 hv.node.parent, .string (bs hv.node.name)] 83)
            clear hbel hb1
            go_wp2_with fail
            refine (unhide HB1 _ hb2).mono ?_
            rintro e w2 ⟨rfl, hb3⟩
            have hb4 := hb2.trans (hb3.mono hb2.size)
            clear hb2 hb3
            go_wp2
            go_roundw
            case rel => exact ⟨k + 1, y, by omega, by go_num, rfl, hbb.1, hbb.2, hb4, by apply hide; rw [show 99 - (k + 1) = 98 - k by omega]; exact unhide HN⟩
            case measure => simp [intOf]; omega
          · have HN := hide ((unhide HI2).trans (seek_hit' hq))
            rw [hq] at hmk
            have hmk2 := hmk.symm
            clear hq hmk HI HI2
            generalize homeV a g m = hv at *
            go_wp2_with fail
            refine (unhide HH1).mono ?_
            rintro e w1 ⟨rfl, hb1⟩
            have HB2 := hide ((hbel.trans (hb1.mono hsz)).alloc (by have := hb1.size; omega) (.cells #[.int .u8 hv.kind.toNat, .int .i64 hv.node.id, .int .i64 hv.node.parent, .string (bs hv.node.name)] 83))
            clear hbel hb1
            go_wp2
            go_ret
            exact ⟨ret_int (unhide HN).symm, unhide HB2⟩
        · have HN : Hid (F = 0) := by apply hide; rw [unhide HI, show 99 - k = 0 by omega]; rfl
          go_wp2
          go_ret
          exact ⟨ret_int (unhide HN).symm, hbel⟩
end Go.Proofs.YtkahmbpggdneoaaDoor
