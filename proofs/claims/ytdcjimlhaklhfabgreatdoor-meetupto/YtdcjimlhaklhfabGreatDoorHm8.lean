import Derived.Test.YtdcjimlhaklhfabGreatDoorHm7
import Derived.BigQuiet
import Derived.Deep.RegionLaw
import Derived.Deep.RegionWith
import Derived.Great.BuildSlice
namespace Go.Proofs.YtdcjimlhaklhfabGreatDoor
open Go.RowKit
/-- What is laid into a slot, by another name. -/
theorem put_as {K : Act → World → Prop} {a : Act} {d : Option Nat} {v v' : Value} {w : World} (h : v = v') (k : K (a.put d v') w) : K (a.put d v) w := h ▸ k
theorem home_any (a g : Tr) (b : Nat) (id : Int) (v : Value) (w : World) (ha : TrOk a) (hg : TrOk g) (h0 : 0 ≤ id) (h1 : id ≤ 99) (hT : TreeAt (planX g v) w b a) :
    Calls Tryz.prog 147 #[.pointer (some ⟨b, 0, none⟩), .int .i64 id] w fun e w' => e = .returned (.tuple #[.agg #[.int .u8 (homeV a g id).kind.toNat, .int .i64 (homeV a g id).node.id, .int .i64 (homeV a g id).node.parent, .string (bs (homeV a g id).node.name)], .bool (homeS a g id).isSome]) ∧ Below w.heap.size w w' := by
  obtain ⟨m, rfl⟩ := Int.eq_ofNat_of_zero_le h0
  exact home_nat a g b m v w ha hg (by omega) hT
theorem get_any (t : Tr) (b o : Nat) (id : Int) (w : World) (ht : TrOk t) (h0 : 0 ≤ id) (h1 : id ≤ 99) (hT : CellsAt w b o t) (hlt : b < w.heap.size) :
    Calls Tryz.prog 98 #[.pointer (some ⟨b, o, none⟩), .int .i64 id] w fun e w' => e = .returned (.agg #[.int .i64 (getT t id).id, .int .i64 (getT t id).parent, .string (bs (getT t id).name)]) ∧ Below w.heap.size w w' := by
  obtain ⟨m, rfl⟩ := Int.eq_ofNat_of_zero_le h0
  exact get_nat t b o m w ht (by omega) hT hlt
theorem getT_parent {t : Tr} (ht : TrOk t) (id : Int) : 0 ≤ (getT t id).parent ∧ (getT t id).parent ≤ 99 := by
  unfold getT
  cases h : t id.toNat with
  | none => simp [nd0]
  | some n => have := ht.2 _ n h; exact ⟨this.2.2.2.1, this.2.2.2.2.1⟩
theorem fromAway_hit {a g : Tr} {f : Nat} {m : Int} (h : (homeS a g m).isSome = true) : fromAwayF a g (f + 1) m = m := by rw [fromAwayF, if_pos h]
theorem fromAway_go {a g : Tr} {f : Nat} {m : Int} (h : (homeS a g m).isSome = false) : fromAwayF a g (f + 1) m = fromAwayF a g f (getT a m).parent := by rw [fromAwayF, if_neg (by rw [h]; simp)]
set_option maxHeartbeats 2000000 in
set_option maxRecDepth 100000 in
theorem fromAway_any (a g : Tr) (b : Nat) (id : Int) (v : Value) (w : World) (ha : TrOk a) (hg : TrOk g) (h0 : 0 ≤ id) (h1 : id ≤ 99) (hT : TreeAt (planX g v) w b a) :
    Calls Tryz.prog 172 #[.pointer (some ⟨b, 0, none⟩), .int .i64 id] w fun e w' => e = .returned (.int .i64 (fromAwayF a g 99 id)) ∧ Below w.heap.size w w' := by
  have HT := hide hT
  have hlt := hT.lt
  generalize hF : fromAwayF a g 99 id = F
  have HF : Hid (F = fromAwayF a g 99 id) := hide hF.symm
  have HH := hide (fun W (m : Int) (q0 : 0 ≤ m) (q1 : m ≤ 99) (h : Below w.heap.size w W) => home_any a g b m v W ha hg q0 q1 (hT.below h))
  have HG := hide (fun W (m : Int) (q0 : 0 ≤ m) (q1 : m ≤ 99) (h : Below w.heap.size w W) => get_any a b 0 m W ha q0 q1 (plan_now (hT.below h)) (by have := h.size; omega))
  have HP := hide (fun m => getT_parent ha m)
  clear hT ha hg hF
  go_enter Tryz.func172, Tryz.ntmps172
  go_wp2
  go_loopw [1, 5] (fun d i wr => ∃ k : Nat, ∃ m : Int, k ≤ 99 ∧ i = .int .i64 k ∧ d = .int .i64 m ∧ 0 ≤ m ∧ m ≤ 99 ∧ Below w.heap.size w wr ∧ Hid (F = fromAwayF a g (99 - k) m)) (fun _ i _ => 100 - (intOf i).toNat)
  case atStart => exact ⟨0, id, by omega, rfl, rfl, h0, h1, Below.refl _ _, HF⟩
  case round =>
    obtain ⟨k, m, hk, rfl, rfl, hm0, hm1, hbel, HI⟩ := hrel
    have hsz := hbel.size
    by_cases hkk : k < 99
    · have hf : 99 - k = (98 - k) + 1 := by omega
      have HI2 : Hid (F = fromAwayF a g ((98 - k) + 1) m) := by apply hide; rw [← hf]; exact unhide HI
      clear hf HI
      have HH1 := hide (unhide HH wr m hm0 hm1 hbel)
      cases hq : (homeS a g m).isSome
      · have HN := hide ((unhide HI2).trans (fromAway_go hq))
        rw [hq] at HH1
        have hp := unhide HP m
        clear hq
        generalize homeV a g m = hv at *
        go_wp2_with fail
        refine (unhide HH1).mono ?_
        rintro e w1 ⟨rfl, hb1⟩
        have hz1 := hb1.size
        have hb2 := (hbel.trans (hb1.mono hsz)).alloc (by omega) (.cells #[.int .u8 hv.kind.toNat, .int .i64 hv.node.id, .int .i64 hv.node.parent, .string (bs hv.node.name)] 169)
        go_wp2_with fail
        refine (unhide HG _ m hm0 hm1 hb2).mono ?_
        rintro e w2 ⟨rfl, hb3⟩
        have hb4 := hb2.trans (hb3.mono hb2.size)
        generalize (getT a m).parent = p at *
        clear hbel hb1 hb2 hb3
        go_wp2
        refine put_as (v' := .int .i64 p) rfl ?_
        go_wp2
        go_roundw
        case rel => exact ⟨k + 1, p, by omega, by go_num, rfl, hp.1, hp.2, hb4, by apply hide; rw [show 99 - (k + 1) = 98 - k by omega]; exact unhide HN⟩
        case measure => simp [intOf]; omega
      · have HN := hide ((unhide HI2).trans (fromAway_hit hq))
        rw [hq] at HH1
        clear hq
        generalize homeV a g m = hv at *
        go_wp2_with fail
        refine (unhide HH1).mono ?_
        rintro e w1 ⟨rfl, hb1⟩
        have hz1 := hb1.size
        have HB := hide ((hbel.trans (hb1.mono hsz)).alloc (by omega) (.cells #[.int .u8 hv.kind.toNat, .int .i64 hv.node.id, .int .i64 hv.node.parent, .string (bs hv.node.name)] 169))
        clear hbel hb1
        go_wp2
        go_ret
        exact ⟨ret_int (unhide HN).symm, unhide HB⟩
    · have HN : Hid (F = 0) := by apply hide; rw [unhide HI, show 99 - k = 0 by omega]; rfl
      go_wp2
      go_ret
      exact ⟨ret_int (unhide HN).symm, hbel⟩
end Go.Proofs.YtdcjimlhaklhfabGreatDoor

namespace Go.Proofs.YtdcjimlhaklhfabGreatDoor
open Go.RowKit
theorem quiet_add2 {P : Program} {f : FuncId} {args : Array Value} {w : World} {a n : Nat} {v : Value}
    (h : Calls P f args (w.drewN (a + n)) fun e w' => e = .returned v ∧ w' = w.drewN (a + n)) : Calls P f args (w.drewN (a + n)) fun e w'' => e = .returned v ∧ ∃ m, w'' = w.drewN (a + m) :=
  h.mono fun _ _ ⟨he, hm⟩ => ⟨he, n, hm⟩
theorem inWay_1 {a g : Tr} {n : Nd} (h : isParentT a n.parent = false) : inWay a g n = n.parent := by unfold inWay; rw [h]; rfl
theorem inWay_2 {a g : Tr} {n : Nd} (h : isParentT a n.parent = true) (h2 : meetsT a n.parent n.id = true) : inWay a g n = fromAwayF a g 99 n.parent := by unfold inWay; rw [h, h2]; rfl
theorem inWay_3 {a g : Tr} {n : Nd} (h : isParentT a n.parent = true) (h2 : meetsT a n.parent n.id = false) : inWay a g n = atT a n.parent n.name := by unfold inWay; rw [h, h2]; rfl
set_option maxHeartbeats 2000000 in
set_option maxRecDepth 100000 in
theorem inWay_any (a g : Tr) (b : Nat) (n : Nd) (v : Value) (w : World) (ha : TrOk a) (hg : TrOk g) (h0 : 0 ≤ n.parent) (h1 : n.parent ≤ 99) (hT : TreeAt (planX g v) w b a) :
    Calls Tryz.prog 169 #[.pointer (some ⟨b, 0, none⟩), .agg #[.int .i64 n.id, .int .i64 n.parent, .string (bs n.name)]] w fun e w' => e = .returned (.int .i64 (inWay a g n)) ∧ Below w.heap.size w w' := by
  have hb1 := (Below.refl w.heap.size w).alloc (Nat.le_refl _) (.cells #[.int .i64 n.id, .int .i64 n.parent, .string (bs n.name)] 75)
  have HT1 := hide (hT.below hb1)
  have HP := hide (fun W (h : TreeAt (planX g v) W b a) => isParent_any a b n.parent W ha h0 h1 h)
  have HM := hide (fun W (h : TreeAt (planX g v) W b a) => meets_any a b n.parent n.id W ha h0 h1 h)
  have HA := hide (fun W (h : TreeAt (planX g v) W b a) => at_any a b n.parent n.name W h)
  have HF := hide (fun W (h : TreeAt (planX g v) W b a) => fromAway_any a g b n.parent v W ha hg h0 h1 h)
  have HB := hide hb1
  have hlt := hT.lt
  clear hb1 hT ha hg
  cases hp : isParentT a n.parent
  · rw [inWay_1 hp]
    rw [hp] at HP
    go_enter Tryz.func169, Tryz.ntmps169
    go_wp2_with fail
    go_quiet ((go_at_call 132; exact Calls.quiet_of_same (unhide HP _ (unhide HT1))))
    go_wp2
    go_ret
    exact ⟨rfl, below_drewN (unhide HB) _⟩
  · rw [hp] at HP
    cases hm : meetsT a n.parent n.id
    · rw [inWay_3 hp hm]
      rw [hm] at HM
      go_enter Tryz.func169, Tryz.ntmps169
      go_wp2_with fail
      go_quiet ((go_at_call 132; exact Calls.quiet_of_same (unhide HP _ (unhide HT1))))
      go_wp2_with fail
      go_quiet ((go_at_call 61; exact quiet_add2 (unhide HM _ (unhide HT1))))
      go_wp2_with fail
      go_quiet ((go_at_call 99; exact quiet_add2 (unhide HA _ (unhide HT1))))
      go_wp2
      go_ret
      exact ⟨rfl, below_drewN (below_drewN (below_drewN (unhide HB) _) _) _⟩
    · rw [inWay_2 hp hm]
      rw [hm] at HM
      go_enter Tryz.func169, Tryz.ntmps169
      go_wp2_with fail
      go_quiet ((go_at_call 132; exact Calls.quiet_of_same (unhide HP _ (unhide HT1))))
      go_wp2_with fail
      go_quiet ((go_at_call 61; exact quiet_add2 (unhide HM _ (unhide HT1))))
      go_wp2_with fail
      refine (unhide HF _ (by exact unhide HT1)).mono ?_
      rintro e w2 ⟨rfl, hb2⟩
      have HB2 := hide ((below_drewN (unhide HB) _).trans (hb2.mono (by simp)))
      clear hb2
      go_wp2
      go_ret
      exact ⟨rfl, unhide HB2⟩
theorem blocker_0 {a g : Tr} {id : Int} (h : homeS a g id = none) : blocker a g id = 0 ∧ homeV a g id = stZ := by unfold blocker homeV; rw [h]; exact ⟨rfl, rfl⟩
theorem blocker_1 {a g : Tr} {id : Int} {s : St} (h : homeS a g id = some s) (hk : s.kind = 45) : blocker a g id = kidT a id ∧ homeV a g id = s := by unfold blocker homeV; rw [h]; exact ⟨if_pos hk, rfl⟩
theorem blocker_2 {a g : Tr} {id : Int} {s : St} (h : homeS a g id = some s) (hk : ¬ s.kind = 45) : blocker a g id = inWay a g s.node ∧ homeV a g id = s := by unfold blocker homeV; rw [h]; exact ⟨if_neg hk, rfl⟩
set_option maxHeartbeats 2000000 in
set_option maxRecDepth 100000 in
theorem blocker_any (a g : Tr) (b : Nat) (id : Int) (v : Value) (w : World) (ha : TrOk a) (hg : TrOk g) (h0 : 0 ≤ id) (h1 : id ≤ 99) (hT : TreeAt (planX g v) w b a) :
    Calls Tryz.prog 162 #[.pointer (some ⟨b, 0, none⟩), .int .i64 id] w fun e w' => e = .returned (.int .i64 (blocker a g id)) ∧ Below w.heap.size w w' := by
  have HH := hide (home_any a g b id v w ha hg h0 h1 hT)
  have hlt := hT.lt
  cases hq : homeS a g id with
  | none =>
    obtain ⟨e1, e2⟩ := blocker_0 hq
    rw [e1]
    rw [e2, hq] at HH
    clear e1 e2 hq hT ha hg
    go_enter Tryz.func162, Tryz.ntmps162
    go_wp2_with fail
    refine (unhide HH).mono ?_
    rintro e w1 ⟨rfl, hb1⟩
    have HB := hide (hb1.alloc hb1.size (.cells #[.int .u8 stZ.kind.toNat, .int .i64 stZ.node.id, .int .i64 stZ.node.parent, .string (bs stZ.node.name)] 169))
    have hkz : stZ.kind.toNat = 0 := rfl
    clear hb1
    go_wp2
    go_ret
    exact ⟨rfl, unhide HB⟩
  | some s =>
    have hT' := hT
    rcases home_cases hq with ⟨e, hgn, m, hm⟩ | ⟨n, e, hgn, hn⟩ | ⟨n, m, e, hgn, hm, _⟩
    · obtain ⟨e1, e2⟩ := blocker_1 hq (by rw [e])
      rw [e1]
      rw [e2, hq, e] at HH
      have HK := hide (fun W (h : TreeAt (planX g v) W b a) => kid_any a b id W h)
      have HT := hide hT
      clear e1 e2 hq hT ha hg e hgn hm hT'
      go_enter Tryz.func162, Tryz.ntmps162
      go_wp2_with fail
      refine (unhide HH).mono ?_
      rintro e w1 ⟨rfl, hb1⟩
      have HB := hide (hb1.alloc hb1.size (.cells #[.int .u8 45, .int .i64 id, .int .i64 0, .string (bs [])] 169))
      have HT1 := hide ((unhide HT).below (unhide HB))
      clear hb1
      go_wp2_with fail
      refine (unhide HK _ (by exact unhide HT1)).mono ?_
      rintro e w2 ⟨rfl, rfl⟩
      go_wp2
      go_ret
      exact ⟨rfl, unhide HB⟩
    · obtain ⟨e1, e2⟩ := blocker_2 hq (by rw [e]; show ¬ ((43 : UInt8) = 45); decide)
      rw [e1]
      rw [e2, hq] at HH
      subst e
      have hb := trOk_id hg h0 hgn
      have HI := hide (fun W (h : TreeAt (planX g v) W b a) => inWay_any a g b n v W ha hg hb.2.2.2.2.2.1 hb.2.2.2.2.2.2.1 h)
      have HT := hide hT
      clear e1 e2 hq hT ha hg hgn hn hT' hb
      go_enter Tryz.func162, Tryz.ntmps162
      go_wp2_with fail
      refine (unhide HH).mono ?_
      rintro e w1 ⟨rfl, hb1⟩
      have HB := hide (hb1.alloc hb1.size (.cells #[.int .u8 43, .int .i64 n.id, .int .i64 n.parent, .string (bs n.name)] 169))
      have HT1 := hide ((unhide HT).below (unhide HB))
      clear hb1
      go_wp2_with fail
      refine (unhide HI _ (by exact unhide HT1)).mono ?_
      rintro e w2 ⟨rfl, hb2⟩
      have HB2 := hide ((unhide HB).trans (hb2.mono (by have := (unhide HB).size; exact this)))
      clear hb2
      go_wp2
      go_ret
      exact ⟨rfl, unhide HB2⟩
    · obtain ⟨e1, e2⟩ := blocker_2 hq (by rw [e]; show ¬ ((61 : UInt8) = 45); decide)
      rw [e1]
      rw [e2, hq] at HH
      subst e
      have hb := trOk_id hg h0 hgn
      have HI := hide (fun W (h : TreeAt (planX g v) W b a) => inWay_any a g b n v W ha hg hb.2.2.2.2.2.1 hb.2.2.2.2.2.2.1 h)
      have HT := hide hT
      clear e1 e2 hq hT ha hg hgn hm hT' hb
      go_enter Tryz.func162, Tryz.ntmps162
      go_wp2_with fail
      refine (unhide HH).mono ?_
      rintro e w1 ⟨rfl, hb1⟩
      have HB := hide (hb1.alloc hb1.size (.cells #[.int .u8 61, .int .i64 n.id, .int .i64 n.parent, .string (bs n.name)] 169))
      have HT1 := hide ((unhide HT).below (unhide HB))
      clear hb1
      go_wp2_with fail
      refine (unhide HI _ (by exact unhide HT1)).mono ?_
      rintro e w2 ⟨rfl, hb2⟩
      have HB2 := hide ((unhide HB).trans (hb2.mono (by have := (unhide HB).size; exact this)))
      clear hb2
      go_wp2
      go_ret
      exact ⟨rfl, unhide HB2⟩
end Go.Proofs.YtdcjimlhaklhfabGreatDoor

namespace Go.Proofs.YtdcjimlhaklhfabGreatDoor
open Go.RowKit
set_option maxHeartbeats 2000000 in
set_option maxRecDepth 100000 in
theorem firstAway_any (a g : Tr) (b : Nat) (v : Value) (w : World) (ha : TrOk a) (hg : TrOk g) (hT : TreeAt (planX g v) w b a) :
    Calls Tryz.prog 161 #[.pointer (some ⟨b, 0, none⟩)] w fun e w' => e = .returned (.int .i64 (firstAway a g)) ∧ Below w.heap.size w w' := by
  have hlt := hT.lt
  have HH := hide (fun W (m : Int) (q0 : 0 ≤ m) (q1 : m ≤ 99) (h : Below w.heap.size w W) => home_any a g b m v W ha hg q0 q1 (hT.below h))
  clear hT ha hg
  go_enter Tryz.func161, Tryz.ntmps161
  go_wp2
  go_loopw [3] (fun i wr => ∃ k : Nat, 1 ≤ k ∧ k ≤ 100 ∧ i = .int .i64 k ∧ Below w.heap.size w wr ∧ Hid (NoIn (awayIs a g) 1 k)) (fun i _ => 101 - (intOf i).toNat)
  case atStart => exact ⟨1, by omega, by omega, rfl, Below.refl _ _, hide (fun j h1 h2 => by omega)⟩
  case round =>
    obtain ⟨k, hk1, hk, rfl, hbel, HN⟩ := hrel
    have hsz := hbel.size
    by_cases hlt2 : k ≤ 99
    · have HH1 := hide (unhide HH wr k (by omega) (by omega) hbel)
      cases hq : (homeS a g k).isSome
      · have HN2 := hide (noIn_succ (unhide HN) (show awayIs a g k = false from hq))
        rw [hq] at HH1
        clear hq
        generalize homeV a g k = hv at *
        go_wp2_with fail
        refine (unhide HH1).mono ?_
        rintro e w1 ⟨rfl, hb1⟩
        have hb2 := (hbel.trans (hb1.mono hsz)).alloc (by have := hb1.size; omega) (.cells #[.int .u8 hv.kind.toNat, .int .i64 hv.node.id, .int .i64 hv.node.parent, .string (bs hv.node.name)] 169)
        clear hbel hb1
        go_wp2
        go_roundw
        case rel => exact ⟨k + 1, by omega, by omega, by go_num, hb2, HN2⟩
        case measure => simp [intOf]; omega
      · have HS : Hid (firstAway a g = k) := by
          apply hide
          have e : scan (awayIs a g) 1 100 = k := scan_hit hk1 (by omega) hq (unhide HN)
          unfold firstAway; rw [e, if_pos (by omega)]
        rw [hq] at HH1
        clear hq
        generalize homeV a g k = hv at *
        go_wp2_with fail
        refine (unhide HH1).mono ?_
        rintro e w1 ⟨rfl, hb1⟩
        have HB2 := hide ((hbel.trans (hb1.mono hsz)).alloc (by have := hb1.size; omega) (.cells #[.int .u8 hv.kind.toNat, .int .i64 hv.node.id, .int .i64 hv.node.parent, .string (bs hv.node.name)] 169))
        clear hbel hb1
        go_wp2
        go_ret
        exact ⟨ret_int (unhide HS).symm, unhide HB2⟩
    · have HS : Hid (firstAway a g = 0) := by
        apply hide
        have e : scan (awayIs a g) 1 100 = 100 := scan_none (fun j h1 h2 => unhide HN j h1 (by omega))
        unfold firstAway; rw [e, if_neg (by omega)]
      go_wp2
      go_ret
      exact ⟨ret_int (unhide HS).symm, hbel⟩
/-! The knot. -/
theorem fromAway_bd {a g : Tr} (ha : TrOk a) : ∀ (f : Nat) (p : Int), 0 ≤ p → p ≤ 99 → 0 ≤ fromAwayF a g f p ∧ fromAwayF a g f p ≤ 99 := by
  intro f
  induction f with
  | zero => intro p _ _; simp [fromAwayF]
  | succ f ih =>
    intro p h0 h1
    rw [fromAwayF]
    split
    · exact ⟨h0, h1⟩
    · have := getT_parent ha p; exact ih _ this.1 this.2
theorem blocker_bd {a g : Tr} (ha : TrOk a) (hg : TrOk g) {id : Int} (h0 : 0 ≤ id) : 0 ≤ blocker a g id ∧ blocker a g id ≤ 99 := by
  have hat : ∀ p s, 0 ≤ atT a p s ∧ atT a p s ≤ 99 := by
    intro p s; unfold atT; split <;> omega
  have hk : 0 ≤ kidT a id ∧ kidT a id ≤ 99 := by unfold kidT; split <;> omega
  unfold blocker
  cases hq : homeS a g id with
  | none => simp
  | some s =>
    simp only
    split
    · exact hk
    · rename_i hk45
      have hn : 0 ≤ s.node.parent ∧ s.node.parent ≤ 99 := by
        rcases home_cases hq with ⟨e, _⟩ | ⟨n, e, hgn, _⟩ | ⟨n, _, e, hgn, _⟩
        · rw [e] at hk45; exact absurd rfl hk45
        · have := (trOk_id hg h0 hgn).2.2.2; rw [e]; exact ⟨this.2.2.1, this.2.2.2.1⟩
        · have := (trOk_id hg h0 hgn).2.2.2; rw [e]; exact ⟨this.2.2.1, this.2.2.2.1⟩
      unfold inWay
      split
      · exact hn
      · split
        · exact fromAway_bd ha 99 _ hn.1 hn.2
        · exact hat _ _
theorem firstAway_bd (a g : Tr) : 0 ≤ firstAway a g ∧ firstAway a g ≤ 99 := by unfold firstAway; split <;> omega
theorem seek_hit' {a g : Tr} {f : Nat} {m : Int} (h : isMove a g m = true) : seekF a g (f + 1) m = m := by rw [seekF, if_pos h]
theorem seek_go {a g : Tr} {f : Nat} {m : Int} (h : isMove a g m = false) : seekF a g (f + 1) m = seekF a g f (blocker a g m) := by rw [seekF, if_neg (by rw [h]; simp)]
theorem isMove_kind (a g : Tr) (m : Int) : isMove a g m = (((homeV a g m).kind.toNat : Int) == 61) := by
  unfold isMove homeV
  cases homeS a g m with
  | none => rfl
  | some s =>
    show (s.kind == 61) = ((s.kind.toNat : Int) == 61)
    rw [Bool.eq_iff_iff, beq_iff_eq, beq_iff_eq]
    constructor
    · intro h; rw [h]; rfl
    · intro h; exact UInt8.toNat_inj.1 (by show s.kind.toNat = 61; omega)
set_option maxHeartbeats 2000000 in
set_option maxRecDepth 100000 in
theorem knot_any (a g : Tr) (b : Nat) (v : Value) (w : World) (ha : TrOk a) (hg : TrOk g) (hT : TreeAt (planX g v) w b a) :
    Calls Tryz.prog 149 #[.pointer (some ⟨b, 0, none⟩)] w fun e w' => e = .returned (.int .i64 (knotT a g)) ∧ Below w.heap.size w w' := by
  have hlt := hT.lt
  have HH := hide (fun W (m : Int) (q0 : 0 ≤ m) (q1 : m ≤ 99) (h : Below w.heap.size w W) => home_any a g b m v W ha hg q0 q1 (hT.below h))
  have HBL := hide (fun W (m : Int) (q0 : 0 ≤ m) (q1 : m ≤ 99) (h : Below w.heap.size w W) => blocker_any a g b m v W ha hg q0 q1 (hT.below h))
  have HFA := hide (firstAway_any a g b v w ha hg hT)
  have HBB := hide (fun (m : Int) (q0 : 0 ≤ m) => blocker_bd (a := a) (g := g) ha hg q0)
  have hfb := firstAway_bd a g
  have HK : Hid (knotT a g = seekF a g 99 (iter (blocker a g) 99 (firstAway a g))) := hide rfl
  clear hT ha hg
  generalize knotT a g = F at *
  generalize hfa : firstAway a g = fa at *
  clear hfa
  go_enter Tryz.func149, Tryz.ntmps149
  go_wp2_with fail
  refine (unhide HFA).mono ?_
  rintro e w0 ⟨rfl, hb0⟩
  go_wp2_with fail
  go_loopw [3, 4] (fun d i wr => ∃ k : Nat, ∃ m : Int, k ≤ 99 ∧ i = .int .i64 k ∧ d = .int .i64 m ∧ 0 ≤ m ∧ m ≤ 99 ∧ Below w.heap.size w wr ∧ Hid (F = seekF a g 99 (iter (blocker a g) (99 - k) m))) (fun _ i _ => 100 - (intOf i).toNat)
  case atStart => exact ⟨0, fa, by omega, rfl, rfl, hfb.1, hfb.2, hb0, HK⟩
  case round =>
    obtain ⟨k, m, hk, rfl, rfl, hm0, hm1, hbel, HI⟩ := hrel
    have hsz := hbel.size
    by_cases hkk : k < 99
    · have HI2 : Hid (F = seekF a g 99 (iter (blocker a g) (98 - k) (blocker a g m))) := by
        apply hide; rw [unhide HI, show 99 - k = (98 - k) + 1 by omega]; rfl
      have hbb := unhide HBB m hm0
      have HB1 := hide (unhide HBL wr m hm0 hm1 hbel)
      generalize blocker a g m = y at *
      clear HI
      go_wp2_with fail
      refine (unhide HB1).mono ?_
      rintro e w1 ⟨rfl, hb1⟩
      have hb2 := hbel.trans (hb1.mono hsz)
      clear hbel hb1
      go_wp2
      go_roundw
      case rel => exact ⟨k + 1, y, by omega, by go_num, rfl, hbb.1, hbb.2, hb2, by apply hide; rw [show 99 - (k + 1) = 98 - k by omega]; exact unhide HI2⟩
      case measure => simp [intOf]; omega
    · have HI2 : Hid (F = seekF a g 99 m) := by
        apply hide; rw [unhide HI, show 99 - k = 0 by omega]; rfl
      clear HI
      go_wp2_with fail
      go_loopw [3, 5] (fun d i wr => ∃ k : Nat, ∃ m : Int, k ≤ 99 ∧ i = .int .i64 k ∧ d = .int .i64 m ∧ 0 ≤ m ∧ m ≤ 99 ∧ Below w.heap.size w wr ∧ Hid (F = seekF a g (99 - k) m)) (fun _ i _ => 100 - (intOf i).toNat)
      case atStart => exact ⟨0, m, by omega, rfl, rfl, hm0, hm1, hbel, HI2⟩
      case round =>
        obtain ⟨k, m, hk, rfl, rfl, hm0, hm1, hbel, HI⟩ := hrel
        have hsz := hbel.size
        by_cases hkk : k < 99
        · have HI2 : Hid (F = seekF a g ((98 - k) + 1) m) := by
            apply hide; rw [unhide HI, show 99 - k = (98 - k) + 1 by omega]
          have HH1 := hide (unhide HH wr m hm0 hm1 hbel)
          have hmk := isMove_kind a g m
          cases hq : isMove a g m
          · have HN := hide ((unhide HI2).trans (seek_go hq))
            rw [hq] at hmk
            have hmk2 := hmk.symm
            have hbb := unhide HBB m hm0
            have HB1 := hide (fun W h => unhide HBL W m hm0 hm1 h)
            clear hq hmk HI HI2
            generalize blocker a g m = y at *
            generalize homeV a g m = hv at *
            go_wp2_with fail
            refine (unhide HH1).mono ?_
            rintro e w1 ⟨rfl, hb1⟩
            have hb2 := (hbel.trans (hb1.mono hsz)).alloc (by have := hb1.size; omega) (.cells #[.int .u8 hv.kind.toNat, .int .i64 hv.node.id, .int .i64 hv.node.parent, .string (bs hv.node.name)] 169)
            clear hbel hb1
            go_wp2_with fail
            refine (unhide HB1 _ hb2).mono ?_
            rintro e w2 ⟨rfl, hb3⟩
            have hb4 := hb2.trans (hb3.mono hb2.size)
            clear hb2 hb3
            go_wp2
            go_roundw
            case rel => exact ⟨k + 1, y, by omega, by go_num, rfl, hbb.1, hbb.2, hb4, by apply hide; rw [show 99 - (k + 1) = 98 - k by omega]; exact unhide HN⟩
            case measure => simp [intOf]; omega
          · have HN := hide ((unhide HI2).trans (seek_hit' hq))
            rw [hq] at hmk
            have hmk2 := hmk.symm
            clear hq hmk HI HI2
            generalize homeV a g m = hv at *
            go_wp2_with fail
            refine (unhide HH1).mono ?_
            rintro e w1 ⟨rfl, hb1⟩
            have HB2 := hide ((hbel.trans (hb1.mono hsz)).alloc (by have := hb1.size; omega) (.cells #[.int .u8 hv.kind.toNat, .int .i64 hv.node.id, .int .i64 hv.node.parent, .string (bs hv.node.name)] 169))
            clear hbel hb1
            go_wp2
            go_ret
            exact ⟨ret_int (unhide HN).symm, unhide HB2⟩
        · have HN : Hid (F = 0) := by apply hide; rw [unhide HI, show 99 - k = 0 by omega]; rfl
          go_wp2
          go_ret
          exact ⟨ret_int (unhide HN).symm, hbel⟩
end Go.Proofs.YtdcjimlhaklhfabGreatDoor

namespace Go.Proofs.YtdcjimlhaklhfabGreatDoor
open Go.RowKit
theorem step_append_own {P : Program} {ops : Array Oper} {o : Oper} {a : Act} {w : World} {K : Act → World → Prop} {Q : Exit → Act → World → Prop} {E : Prop}
    (hg : o.guard = none) (s x : Operand) (t : TypeId) (hop : o.op = Op.call { callee := Callee.builtin Builtin.append, args := #[s, x], argTypes := #[t, t] })
    (e : TypeId) (i : TypeInfo) (z : Value) (size bytes : Nat) (h1 : P.underlying t = some (.slice e)) (h2 : P.info? e = some i) (h3 : i.zero = some z) (h4 : i.size = size) (h5 : i.bytes = bytes) (h6 : z.cells.size = size) (h7 : 0 < size)
    (base : Nat) (v : Value) (n : Nat) (xs : List Value) (hs : a.eval s = v) (hown : w.ownsRow base e size v n xs)
    (ad : Addr) (m c : Nat) (news : List Value) (hx : a.eval x = .slice (some ad) m c) (hn : news.length = m * size) (hc : ∀ j u, news[j]? = some u → w.cell? (ad.add j) = some u) (h1c : ∀ u ∈ news, u.oneCell' = true)
    (b1 : n + m ≤ maxLen) (b2 : (n + m) * bytes ≤ 140737488355328) (hbase : base ≤ w.heap.size)
    (hK : ∀ v' w', w'.ownsRow base e size v' (n + m) (xs ++ news) → w.grownBy w' v.ownBlock → K (a.put o.dst v') w') :
    if Region.wanted o (yielded ops a.tmps) = true then Oper.wp P o a w K Q else E := by
  have hw : Region.wanted o (yielded ops a.tmps) = true := by simp [Region.wanted, hg]
  rw [if_pos hw]
  obtain ⟨v', w', hrun, r1, r2, _⟩ := run_append_own (P := P) w base t o.type e i z size bytes h1 h2 h3 h4 h5 h6 h7 v n xs hown ad m c news hn hc h1c b1 b2 hbase
  unfold Oper.wp
  simp [execOp, hop, resolve, invoke, builtin, hs, hx, hrun, Result.andThen]
  exact hK v' w' r1 r2
theorem own_grown {w w' : World} {base : Nat} {e : TypeId} {size : Nat} {v : Value} {n : Nat} {xs : List Value} {c : Nat} (h : w.ownsRow base e size v n xs) (hg : w.grownBy w' (some c)) (hc : c < base) : w'.ownsRow base e size v n xs := by
  obtain ⟨h1, h2⟩ := h
  refine ⟨h1, ?_⟩
  rcases h2 with h2 | ⟨g, cap, cur, hv, hgb, hh, r⟩
  · exact Or.inl h2
  · exact Or.inr ⟨g, cap, cur, hv, hgb, by rw [hg.block g (lt_of_block hh) (fun e => by cases e; omega)]; exact hh, r⟩
theorem cell_grown {w w' : World} {c b : Nat} (hg : w.grownBy w' (some c)) (hb : b < w.heap.size) (hne : b ≠ c) (o : Nat) : w'.cell? ⟨b, o, none⟩ = w.cell? ⟨b, o, none⟩ :=
  World.cell?_of_block (a := ⟨b, o, none⟩) (hg.block b hb (fun e => hne (by cases e; rfl)))
theorem own_form {w : World} {base : Nat} {e : TypeId} {size : Nat} {v : Value} {n : Nat} {xs : List Value} (h : w.ownsRow base e size v (n + 1) xs) : ∃ g cap, v = .slice (some ⟨g, 0, none⟩) (n + 1) cap ∧ base ≤ g := by
  rcases h.2 with ⟨_, h2⟩ | ⟨g, cap, _, hv, hg, _⟩
  · omega
  · exact ⟨g, cap, hv, hg⟩
theorem own_block {w : World} {base : Nat} {e : TypeId} {size : Nat} {v : Value} {n : Nat} {xs : List Value} (h : w.ownsRow base e size v n xs) {c : Nat} (hc : c < base) : some c ≠ v.ownBlock := by
  rcases h.2 with ⟨rfl, _⟩ | ⟨g, cap, _, rfl, hg, _⟩
  · intro e; cases e
  · intro e; simp [Value.ownBlock] at e; omega
theorem own_set {w : World} {base : Nat} {e : TypeId} {size : Nat} {v : Value} {n : Nat} {xs : List Value} (h : w.ownsRow base e size v n xs) {c : Nat} (hc : c < base) (o : Nat) (u : Value) : (w.setCell ⟨c, o, none⟩ u).ownsRow base e size v n xs := by
  obtain ⟨h1, h2⟩ := h
  refine ⟨h1, ?_⟩
  rcases h2 with h2 | ⟨g, cap, cur, hv, hgb, hh, r⟩
  · exact Or.inl h2
  · exact Or.inr ⟨g, cap, cur, hv, hgb, by rw [heap_setCell_other _ _ _ _ (show g ≠ c by omega)]; exact hh, r⟩
theorem plan_set {w : World} {b : Nat} {a g : Tr} {v v' : Value} (h : TreeAt (planX g v) w b a) : TreeAt (planX g v') (w.setCell ⟨b, 800, none⟩ v') b a := by
  unfold TreeAt
  rw [heap_setCell_same w b 800 _ _ v' h]
  have e : (treeCells a ++ (treeCells g ++ [v])).set 800 v' = treeCells a ++ (treeCells g ++ [v']) := by
    rw [List.set_append_right _ _ (by rw [treeCells_length]; omega), treeCells_length, List.set_append_right _ _ (by rw [treeCells_length]; omega), treeCells_length]
    simp
  simp only [planX, List.setIfInBounds_toArray, e]
theorem plan_grown {x : Ext} {w2 w4 : World} {b : Nat} {a : Tr} {o : Obj} {r : Option Nat} (h : TreeAt x w2 b a) (hg : (World.drew (w2.alloc o)).grownBy w4 r) (hr : some b ≠ r) : TreeAt x w4 b a := by
  have hlt := h.lt
  have h1 : TreeAt x (World.drew (w2.alloc o)) b a := h.below (below_drewN ((Below.refl w2.heap.size w2).alloc (Nat.le_refl _) o) 1)
  unfold TreeAt
  rw [hg.block b h1.lt hr]; exact h1
def PlanAt (w : World) (b : Nat) (g : Tr) (p : Pl) : Prop := ∃ v, TreeAt (planX g v) w b p.now ∧ w.ownsRow (b + 1) 169 4 v p.done.length (stCells p.done)
def tryP (p : Pl) (s : St) : Pl := if stepE p.now s = 0 then ⟨stepT p.now s, p.done ++ [s]⟩ else p
theorem tryP_yes {p : Pl} {s : St} (h : stepE p.now s = 0) : tryP p s = ⟨stepT p.now s, p.done ++ [s]⟩ := by unfold tryP; rw [if_pos h]
theorem tryP_no {p : Pl} {s : St} (h : ¬ stepE p.now s = 0) : tryP p s = p ∧ stepT p.now s = p.now := by unfold tryP stepT; rw [if_neg h, if_neg h]; exact ⟨rfl, rfl⟩
set_option maxHeartbeats 2000000 in
set_option maxRecDepth 100000 in
theorem attempt_any (g : Tr) (p : Pl) (b : Nat) (s : St) (w : World) (ha : TrOk p.now) (hs : StOk s) (hP : PlanAt w b g p) (hl : p.done.length ≤ 30000) :
    Calls Tryz.prog 148 #[.pointer (some ⟨b, 0, none⟩), .agg #[.int .u8 s.kind.toNat, .int .i64 s.node.id, .int .i64 s.node.parent, .string (bs s.node.name)]] w fun e w' => e = .returned (.bool (stepE p.now s == 0)) ∧ PlanAt w' b g (tryP p s) ∧ Below b w w' := by
  obtain ⟨v, hT, hown⟩ := hP
  obtain ⟨i0, hi, hz0, hz1, hz2⟩ := info_parts Tryz.infoStep
  have hlt := hT.lt
  have HDO := hide (fun W (h : TreeAt (planX g v) W b p.now) => do_any p.now b s W ha h hs)
  have hb1 := (Below.refl w.heap.size w).alloc (Nat.le_refl _) (.cells #[.int .u8 s.kind.toNat, .int .i64 s.node.id, .int .i64 s.node.parent, .string (bs s.node.name)] 169)
  have HT1 := hide (hT.below hb1)
  have HOWN := hide (own_below hown hb1)
  clear ha hs
  by_cases hE : stepE p.now s = 0
  · rw [tryP_yes hE]
    rw [hE] at HDO ⊢
    clear hT hown hb1
    go_enter Tryz.func148, Tryz.ntmps148
    go_wp2_with fail
    go_region_with (go_at_call 102; refine (unhide HDO _ (by exact unhide HT1)).mono ?_; rintro e w2 ⟨rfl, hT2, hg2⟩)
    have hlw : w.heap.size + 1 ≤ w2.heap.size := by have := hg2.size; simpa using this
    have HB2 : Hid (Below b w w2) := hide (((below_drewN ((Below.refl b w).alloc (by omega) (.cells #[.int .u8 s.kind.toNat, .int .i64 s.node.id, .int .i64 s.node.parent, .string (bs s.node.name)] 169)) 1)).grown hg2 (by simp; omega) (fun k hk => by cases hk; omega))
    have HOWN2 := hide (own_grown (show World.ownsRow (World.drew (w.alloc _)) _ _ _ _ _ _ from unhide HOWN) hg2 (by omega))
    have hcs : ∀ o, w2.cell? ⟨w.heap.size, o, none⟩ = (w.alloc _).cell? ⟨w.heap.size, o, none⟩ := fun o => cell_grown hg2 (by simp) (by omega) o
    have hdone := plan_done hT2
    have hfz : ∀ o, w2.frozen? ⟨b, o, none⟩ = false := hT2.free
    have HT2 := hide hT2
    clear hT2 hg2
    go_wp2_with fail
    have HOWN3 : Hid (World.ownsRow (World.drew (w2.alloc (.cells #[.int .u8 s.kind.toNat, .int .i64 s.node.id, .int .i64 s.node.parent, .string (bs s.node.name)] 169))) (b + 1) 169 4 v p.done.length (stCells p.done)) := hide (own_below (unhide HOWN2) (below_drewN ((Below.refl w2.heap.size w2).alloc (Nat.le_refl _) _) 1))
    have HNEW : Hid (∀ j x, [Value.int .u8 s.kind.toNat, .int .i64 s.node.id, .int .i64 s.node.parent, .string (bs s.node.name)][j]? = some x → (World.drew (w2.alloc (.cells #[.int .u8 s.kind.toNat, .int .i64 s.node.id, .int .i64 s.node.parent, .string (bs s.node.name)] 169))).cell? ((⟨w2.heap.size, 0, none⟩ : Addr).add j) = some x) := hide (fun j x hx => World.news_of_block (w := w2.alloc (.cells #[.int .u8 s.kind.toNat, .int .i64 s.node.id, .int .i64 s.node.parent, .string (bs s.node.name)] 169)) (cs := #[.int .u8 s.kind.toNat, .int .i64 s.node.id, .int .i64 s.node.parent, .string (bs s.node.name)]) (heap_alloc_new w2 _) j x hx)
    have hbs : b + 1 ≤ w2.heap.size + 1 := by omega
    have hbw : b < w2.heap.size := by omega
    have hbn : ¬ b = w2.heap.size := by omega
    go_region_law (refine step_append_own rfl (.tmp 17) (.tmp 19) 122 rfl 169 i0 (.agg #[.int .u8 0, .int .i64 0, .int .i64 0, .string ByteArray.empty]) 4 40 Tryz.underlying122 hi hz0 hz1 hz2 rfl (by decide) (b + 1) v p.done.length (stCells p.done) (by simp [Act.eval]) (unhide HOWN3) ⟨w2.heap.size, 0, none⟩ 1 1 [.int .u8 s.kind.toNat, .int .i64 s.node.id, .int .i64 s.node.parent, .string (bs s.node.name)] (by simp [Act.eval]) rfl (unhide HNEW) (by simp [Value.oneCell']) (by unfold maxLen; omega) (by omega) (by simp; omega) ?_; intro v' w4 hown4 hgrow; obtain ⟨g4, cap4, rfl, hg4⟩ := own_form hown4; have hT4 : TreeAt (planX g v) w4 b (stepT p.now s) := plan_grown (unhide HT2) hgrow (own_block (unhide HOWN3) (by omega)); have hd4 := plan_done hT4; have hf4 := hT4.free 800; have HT4 := hide hT4; have HOWN4 := hide hown4; have HG4 := hide hgrow; clear hT4 hown4 hgrow)
    all_goals
      go_wp2
      go_ret
      refine ⟨rfl, ⟨_, plan_set (unhide HT4), ?_⟩, ?_⟩
      · have := own_set (unhide HOWN4) (show b < b + 1 by omega) 800 (.slice (some ⟨g4, 0, none⟩) (p.done.length + 1) cap4)
        show World.ownsRow _ _ _ _ _ (p.done ++ [s]).length (stCells (p.done ++ [s]))
        rw [stCells_snoc, List.length_append]; exact this
      · refine Below.setCell ((below_drewN ((unhide HB2).alloc (by omega) _) 1).grown (unhide HG4) (by simp; omega) (fun k hk => by have := own_ge (unhide HOWN3) k hk; omega)) (Nat.le_refl _) _
  · obtain ⟨e1, e2⟩ := tryP_no hE
    rw [e1]
    rw [e2] at HDO
    have hE2 : (stepE p.now s == 0) = false := by simpa using hE
    have hE3 : (stepE p.now s != 0) = true := by simpa using hE
    clear hT hown hb1 e1 e2
    generalize stepE p.now s = E at *
    rw [hE2]
    go_enter Tryz.func148, Tryz.ntmps148
    go_wp2_with fail
    go_region_with (go_at_call 102; refine (unhide HDO _ (by exact unhide HT1)).mono ?_; rintro e w2 ⟨rfl, hT2, hg2⟩)
    have HB2 : Hid (Below b w w2) := hide (((below_drewN ((Below.refl b w).alloc (by omega) (.cells #[.int .u8 s.kind.toNat, .int .i64 s.node.id, .int .i64 s.node.parent, .string (bs s.node.name)] 169)) 1)).grown hg2 (by simp; omega) (fun k hk => by cases hk; omega))
    have HOWN2 := hide (own_grown (show World.ownsRow (World.drew (w.alloc _)) _ _ _ _ _ _ from unhide HOWN) hg2 (by omega))
    have HT2 := hide hT2
    clear hT2 hg2
    go_wp2
    go_ret
    exact ⟨rfl, ⟨v, unhide HT2, unhide HOWN2⟩, unhide HB2⟩
end Go.Proofs.YtdcjimlhaklhfabGreatDoor

namespace Go.Proofs.YtdcjimlhaklhfabGreatDoor
open Go.RowKit
theorem PlanAt.below {w w' : World} {b : Nat} {g : Tr} {p : Pl} (h : PlanAt w b g p) (hb : Below w.heap.size w w') : PlanAt w' b g p := by
  obtain ⟨v, h1, h2⟩ := h
  exact ⟨v, h1.below hb, own_below h2 hb⟩
theorem PlanAt.lt {w : World} {b : Nat} {g : Tr} {p : Pl} (h : PlanAt w b g p) : b < w.heap.size := by
  obtain ⟨v, h1, _⟩ := h; exact h1.lt
theorem homeP_any (g : Tr) (p : Pl) (b : Nat) (id : Int) (w : World) (ha : TrOk p.now) (hg : TrOk g) (h0 : 0 ≤ id) (h1 : id ≤ 99) (hP : PlanAt w b g p) :
    Calls Tryz.prog 147 #[.pointer (some ⟨b, 0, none⟩), .int .i64 id] w fun e w' => e = .returned (.tuple #[.agg #[.int .u8 (homeV p.now g id).kind.toNat, .int .i64 (homeV p.now g id).node.id, .int .i64 (homeV p.now g id).node.parent, .string (bs (homeV p.now g id).node.name)], .bool (homeS p.now g id).isSome]) ∧ Below w.heap.size w w' := by
  obtain ⟨v, hT, _⟩ := hP
  exact home_any p.now g b id v w ha hg h0 h1 hT
theorem goOne_none {g : Tr} {p : Pl} {m : Bool} {i : Nat} (h : homeS p.now g i = none) : goOne g (p, m) i = (p, m) := by unfold goOne; rw [h]
theorem goOne_some {g : Tr} {p : Pl} {m : Bool} {i : Nat} {s : St} (h : homeS p.now g i = some s) : goOne g (p, m) i = (tryP p s, m || (stepE p.now s == 0)) := by
  unfold goOne; rw [h]
  by_cases he : stepE p.now s = 0
  · rw [tryP_yes he]; simp [he]
  · rw [(tryP_no he).1]; simp [he]
theorem tryP_len (p : Pl) (s : St) : (tryP p s).done.length ≤ p.done.length + 1 := by unfold tryP; split <;> simp
theorem tryP_ok {p : Pl} {s : St} (h : TrOk p.now) (hs : StOk s) : TrOk (tryP p s).now := by
  unfold tryP; split
  · exact stepT_ok h hs
  · exact h
def GoInv (g : Tr) (F : Pl × Bool) (k : Nat) (q : Pl) (m : Bool) : Prop := F = (List.range' k (100 - k)).foldl (goOne g) (q, m)
theorem goInv_next {g : Tr} {F : Pl × Bool} {k : Nat} {q : Pl} {m : Bool} (h : GoInv g F k q m) (hk : k ≤ 99) {q' : Pl} {m' : Bool} (e : goOne g (q, m) k = (q', m')) : GoInv g F (k + 1) q' m' := by
  unfold GoInv at *
  rw [h, show 100 - k = (100 - (k + 1)) + 1 by omega, List.range'_succ, List.foldl_cons, e]
theorem goInv_end {g : Tr} {F : Pl × Bool} {q : Pl} {m : Bool} {k : Nat} (h : GoInv g F k q m) (hk : ¬ k ≤ 99) : F = (q, m) := by
  unfold GoInv at h; rw [h, show 100 - k = 0 by omega]; rfl
set_option maxHeartbeats 2000000 in
set_option maxRecDepth 100000 in
theorem goHome_any (g : Tr) (p : Pl) (b : Nat) (w : World) (ha : TrOk p.now) (hg : TrOk g) (hP : PlanAt w b g p) (hl : p.done.length ≤ 20000) :
    Calls Tryz.prog 133 #[.pointer (some ⟨b, 0, none⟩)] w fun e w' => e = .returned (.bool (goHomeT g p).2) ∧ PlanAt w' b g (goHomeT g p).1 ∧ Below b w w' := by
  have hlt := hP.lt
  have HF : Hid (GoInv g (goHomeT g p) 1 p false) := hide (by unfold GoInv goHomeT; rfl)
  generalize goHomeT g p = F at *
  have HG := hide hg
  have HP := hide hP
  have HO := hide ha
  clear hg hP ha
  go_enter Tryz.func133, Tryz.ntmps133
  go_wp2
  go_loopw [3, 4] (fun mv i wr => ∃ k : Nat, ∃ q : Pl, ∃ m : Bool, 1 ≤ k ∧ k ≤ 100 ∧ i = .int .i64 k ∧ mv = .bool m ∧ Hid (TrOk q.now) ∧ Hid (PlanAt wr b g q) ∧ q.done.length ≤ p.done.length + (k - 1) ∧ Below b w wr ∧ Hid (GoInv g F k q m)) (fun _ i _ => 101 - (intOf i).toNat)
  case atStart => exact ⟨1, p, false, by omega, by omega, rfl, rfl, HO, HP, by omega, Below.refl _ _, HF⟩
  case round =>
    obtain ⟨k, q, m, hk1, hk, rfl, rfl, HOK, HPL, hql, hbel, HI⟩ := hrel
    have hltr := (unhide HPL).lt
    by_cases hkk : k ≤ 99
    · have HH := hide (homeP_any g q b k wr (unhide HOK) (unhide HG) (by omega) (by omega) (unhide HPL))
      cases hq : homeS q.now g k with
      | none =>
        have HI2 := hide (goInv_next (unhide HI) hkk (goOne_none hq))
        have e2 : homeV q.now g k = stZ := by unfold homeV; rw [hq]; rfl
        rw [hq, e2] at HH
        clear hq e2 HI
        go_wp2_with fail
        refine (unhide HH).mono ?_
        rintro e w1 ⟨rfl, hb1⟩
        have hb2 := hb1.alloc hb1.size (.cells #[.int .u8 stZ.kind.toNat, .int .i64 stZ.node.id, .int .i64 stZ.node.parent, .string (bs stZ.node.name)] 169)
        have HPL2 := hide ((unhide HPL).below hb2)
        have hb3 := hbel.trans (hb2.mono (by omega))
        clear hb1 hb2 hbel HPL
        go_wp2
        go_roundw
        case rel => exact ⟨k + 1, q, m, by omega, by omega, by go_num, rfl, HOK, HPL2, by omega, hb3, HI2⟩
        case measure => simp [intOf]; omega
      | some s =>
        have hsok := (home_ok (unhide HG) (show (1 : Int) ≤ k by omega) (by omega) hq).1
        have HI2 := hide (goInv_next (unhide HI) hkk (goOne_some hq))
        have e2 : homeV q.now g k = s := by unfold homeV; rw [hq]; rfl
        rw [hq, e2] at HH
        have HAT := hide (fun W (h : PlanAt W b g q) => attempt_any g q b s W (unhide HOK) hsok h (by omega))
        have HOK2 := hide (tryP_ok (unhide HOK) hsok)
        have hql2 := tryP_len q s
        clear hq e2 HI hsok
        cases hE : (stepE q.now s == 0)
        · rw [hE] at HAT HI2
          rw [Bool.or_false] at HI2
          go_wp2_with fail
          refine (unhide HH).mono ?_
          rintro e w1 ⟨rfl, hb1⟩
          have hb2 := hb1.alloc hb1.size (.cells #[.int .u8 s.kind.toNat, .int .i64 s.node.id, .int .i64 s.node.parent, .string (bs s.node.name)] 169)
          have HPL2 := hide ((unhide HPL).below hb2)
          have hb3 := hbel.trans (hb2.mono (by omega))
          clear hb1 hb2 hbel HPL
          go_wp2_with fail
          refine (unhide HAT _ (by exact unhide HPL2)).mono ?_
          rintro e w3 ⟨rfl, hP3, hb4⟩
          have HP3 := hide hP3
          have hb5 := hb3.trans hb4
          clear hP3 hb3 hb4
          generalize tryP q s = q2 at *
          go_wp2
          go_roundw
          case rel => exact ⟨k + 1, q2, m, by omega, by omega, by go_num, rfl, HOK2, HP3, by omega, hb5, HI2⟩
          case measure => simp [intOf]; omega
        · rw [hE] at HAT HI2
          rw [Bool.or_true] at HI2
          go_wp2_with fail
          refine (unhide HH).mono ?_
          rintro e w1 ⟨rfl, hb1⟩
          have hb2 := hb1.alloc hb1.size (.cells #[.int .u8 s.kind.toNat, .int .i64 s.node.id, .int .i64 s.node.parent, .string (bs s.node.name)] 169)
          have HPL2 := hide ((unhide HPL).below hb2)
          have hb3 := hbel.trans (hb2.mono (by omega))
          clear hb1 hb2 hbel HPL
          go_wp2_with fail
          refine (unhide HAT _ (by exact unhide HPL2)).mono ?_
          rintro e w3 ⟨rfl, hP3, hb4⟩
          have HP3 := hide hP3
          have hb5 := hb3.trans hb4
          clear hP3 hb3 hb4
          generalize tryP q s = q2 at *
          go_wp2
          go_roundw
          case rel => exact ⟨k + 1, q2, true, by omega, by omega, by go_num, rfl, HOK2, HP3, by omega, hb5, HI2⟩
          case measure => simp [intOf]; omega
    · have hE := goInv_end (unhide HI) hkk
      have HE := hide hE
      clear hE
      go_wp2
      go_ret
      rw [unhide HE]
      exact ⟨rfl, unhide HPL, hbel⟩
theorem seek_bd {a g : Tr} (ha : TrOk a) (hg : TrOk g) : ∀ (f : Nat) (m : Int), 0 ≤ m → m ≤ 99 → 0 ≤ seekF a g f m ∧ seekF a g f m ≤ 99 := by
  intro f
  induction f with
  | zero => intro m _ _; simp [seekF]
  | succ f ih =>
    intro m h0 h1
    rw [seekF]
    split
    · exact ⟨h0, h1⟩
    · have := blocker_bd ha hg (id := m) h0; exact ih _ this.1 this.2
theorem iter_bd {a g : Tr} (ha : TrOk a) (hg : TrOk g) : ∀ (f : Nat) (m : Int), 0 ≤ m → m ≤ 99 → 0 ≤ iter (blocker a g) f m ∧ iter (blocker a g) f m ≤ 99 := by
  intro f
  induction f with
  | zero => intro m h0 h1; exact ⟨h0, h1⟩
  | succ f ih =>
    intro m h0 h1
    rw [iter]
    have := blocker_bd ha hg (id := m) h0; exact ih _ this.1 this.2
theorem knot_bd {a g : Tr} (ha : TrOk a) (hg : TrOk g) : 0 ≤ knotT a g ∧ knotT a g ≤ 99 := by
  have h1 := firstAway_bd a g
  have h2 := iter_bd ha hg 99 _ h1.1 h1.2
  exact seek_bd ha hg 99 _ h2.1 h2.2
theorem parkT_no {g : Tr} {p : Pl} (h : knotT p.now g = 0) : parkT g p = (p, false) := by unfold parkT; rw [if_pos h]
theorem parkT_yes {g : Tr} {p : Pl} (h : ¬ knotT p.now g = 0) : parkT g p = (tryP p (parkS (knotT p.now g)), stepE p.now (parkS (knotT p.now g)) == 0) := by
  unfold parkT; rw [if_neg h]
  by_cases he : stepE p.now (parkS (knotT p.now g)) = 0
  · rw [if_pos he, tryP_yes he, he]; rfl
  · rw [if_neg he, (tryP_no he).1]; simp [he]
theorem add_t (a : Str) (ha : a.length ≤ 1000000) (W : World) : (Op.stringOp .add ⟨#[116, 126]⟩ (bs a)).run Tryz.prog W = .ok (.string (bs (116 :: 126 :: a))) W := add_bs [116, 126] a (by simp) ha W
set_option maxHeartbeats 2000000 in
set_option maxRecDepth 100000 in
theorem park_any (g : Tr) (p : Pl) (b : Nat) (w : World) (ha : TrOk p.now) (hg : TrOk g) (hP : PlanAt w b g p) (hl : p.done.length ≤ 30000) :
    Calls Tryz.prog 134 #[.pointer (some ⟨b, 0, none⟩)] w fun e w' => e = .returned (.bool (parkT g p).2) ∧ PlanAt w' b g (parkT g p).1 ∧ Below b w w' := by
  have hlt := hP.lt
  have HK : Hid (Calls Tryz.prog 149 #[.pointer (some ⟨b, 0, none⟩)] w fun e w' => e = .returned (.int .i64 (knotT p.now g)) ∧ Below w.heap.size w w') := by
    obtain ⟨v, hT, _⟩ := hP; exact hide (knot_any p.now g b v w ha hg hT)
  have hkb := knot_bd ha hg
  have HP := hide hP
  by_cases h0 : knotT p.now g = 0
  · rw [parkT_no h0]
    rw [h0] at HK
    clear hP ha hg
    go_enter Tryz.func134, Tryz.ntmps134
    go_wp2_with fail
    refine (unhide HK).mono ?_
    rintro e w1 ⟨rfl, hb1⟩
    have HP1 := hide ((unhide HP).below hb1)
    have HB := hide (hb1.mono (show b ≤ w.heap.size by omega))
    clear hb1
    go_wp2
    go_ret
    exact ⟨rfl, unhide HP1, unhide HB⟩
  · rw [parkT_yes h0]
    have hz : (knotT p.now g == 0) = false := by simpa using h0
    have HAT := hide (fun W (h : PlanAt W b g p) => attempt_any g p b (parkS (knotT p.now g)) W ha (park_ok (by omega) hkb.2) h hl)
    have HIT := hide (fun W => itoa_any (knotT p.now g) W hkb.1 hkb.2)
    have l1 := digs_len (knotT p.now g)
    have a1 := add_t (digs (knotT p.now g)) (by omega)
    generalize hEE : (stepE p.now (parkS (knotT p.now g)) == 0) = E at *
    clear hEE
    generalize tryP p (parkS (knotT p.now g)) = q at *
    unfold parkS parkN at HAT
    generalize knotT p.now g = id at *
    clear hP ha hg
    go_enter Tryz.func134, Tryz.ntmps134
    go_wp2_with fail
    refine (unhide HK).mono ?_
    rintro e w1 ⟨rfl, hb1⟩
    go_wp2_with fail
    refine (unhide HIT _).mono ?_
    rintro e w2 ⟨rfl, rfl⟩
    have hb2 := hb1.alloc hb1.size (.cells #[.int .i64 id, .int .i64 0, .string (bs (116 :: 126 :: digs id))] 75)
    have HP1 := hide ((unhide HP).below hb2)
    have hb3 := hb2.mono (show b ≤ w.heap.size by omega)
    clear hb1 hb2
    go_wp2_with fail
    refine (unhide HAT _ (by exact unhide HP1)).mono ?_
    rintro e w3 ⟨rfl, hP3, hb4⟩
    have HP3 := hide hP3
    have HB5 := hide (hb3.trans hb4)
    clear hP3 hb3 hb4
    go_wp2
    go_ret
    exact ⟨rfl, unhide HP3, unhide HB5⟩
end Go.Proofs.YtdcjimlhaklhfabGreatDoor

namespace Go.Proofs.YtdcjimlhaklhfabGreatDoor
open Go.RowKit
/-! A plan is made. -/
def planCells (a g : Tr) (v : Value) : List Value := treeCells a ++ (treeCells g ++ [v])
theorem planCells_length (a g : Tr) (v : Value) : (planCells a g v).length = 801 := by simp [planCells, treeCells_length]
theorem fold_set (off : Nat) : ∀ (vs : List Value) (k : Nat) (cs : Array Value), off + k + vs.length ≤ cs.size →
    ((vs.zipIdx k).foldl (fun cs (x : Value × Nat) => cs.setIfInBounds (off + x.2) x.1) cs) = (cs.toList.take (off + k) ++ vs ++ cs.toList.drop (off + k + vs.length)).toArray := by
  intro vs
  induction vs with
  | nil => intro k cs h; simp
  | cons v vs ih =>
    intro k cs h
    simp only [List.length_cons] at h
    rw [List.zipIdx_cons, List.foldl_cons, ih (k + 1) _ (by simp; omega)]
    apply Array.ext'
    simp only [Array.toList_setIfInBounds]
    have h1 : off + k < cs.toList.length := by rw [Array.length_toList]; omega
    have e1 : (cs.toList.set (off + k) v).take (off + (k + 1)) = cs.toList.take (off + k) ++ [v] := by
      rw [show off + (k + 1) = off + k + 1 by omega, List.take_succ_eq_append_getElem (by simpa using h1)]
      rw [List.take_set, List.set_eq_of_length_le (by simp; omega)]
      simp
    have e2 : (cs.toList.set (off + k) v).drop (off + (k + 1) + vs.length) = cs.toList.drop (off + k + (v :: vs).length) := by
      rw [List.drop_set_of_lt (by omega)]; congr 1; simp only [List.length_cons]; omega
    rw [e1, e2]; simp
theorem fill_one (place : Nat → Option (Nat × Nat)) (cells : Array Value) (i off size : Nat) (vs : List Value) (rest : List (Nat × Value)) (hp : place i = some (off, size)) (hs : vs.length = size) (hb : off + size ≤ cells.size) :
    Instr.fill place cells ((i, .agg vs.toArray) :: rest) = Instr.fill place (cells.toList.take off ++ vs ++ cells.toList.drop (off + size)).toArray rest := by
  rw [Instr.fill, hp]
  have hc : (Value.agg vs.toArray).cells = vs.toArray := rfl
  simp only [hc, List.size_toArray, hs, ne_eq, not_true_eq_false, decide_false, Bool.false_or, decide_eq_true_eq]
  rw [if_neg (by omega)]
  congr 1
  rw [← Array.foldl_toList, Array.toList_zipIdx]
  have := fold_set off vs 0 cells (by omega)
  rw [Nat.add_zero, hs] at this
  exact this
theorem Tryz.planZero : ((Tryz.prog.info? 198).bind (·.zero)).map (fun z => (z.cells.size, z.cells.toList.drop 800)) = some (801, [.slice none 0 0]) := by kernel_rfl
theorem Tryz.planPlaces : (match Tryz.prog.underlying 198 with
  | some (.struct fields) => fields.toList.mapM (fun f => (Tryz.prog.info? f.type).map fun i => (f.offset, i.size))
  | _ => none) = some [(0, 400), (400, 400), (800, 1)] := by kernel_rfl
theorem plan_built (a g : Tr) : Tryz.prog.built 198 [(0, .agg (treeCells a).toArray), (1, .agg (treeCells g).toArray)] = some (planCells a g (.slice none 0 0)).toArray := by
  have h1 := Tryz.planZero
  have h2 := Tryz.planPlaces
  unfold Program.built
  cases hit : Tryz.prog.info? 198 with
  | none => rw [hit] at h1; cases h1
  | some it =>
    rw [hit] at h1
    cases hz : it.zero with
    | none => simp [hz] at h1
    | some z =>
      simp only [Option.bind_some, hz, Option.map_some, Option.some.injEq, Prod.mk.injEq] at h1
      cases hu : Tryz.prog.underlying 198 with
      | none => rw [hu] at h2; cases h2
      | some d =>
        rw [hu] at h2
        cases d with
        | struct fields =>
          simp only at h2
          simp only [hz, h2]
          unfold planCells
          have hz1 : z.cells.toList.length = 801 := by rw [Array.length_toList]; exact h1.1
          have hla := treeCells_length a
          have hlg := treeCells_length g
          generalize treeCells a = la at *
          generalize treeCells g = lg at *
          generalize z.cells = zc at *
          rw [fill_one _ _ 0 0 400 la _ rfl hla (by omega)]
          rw [fill_one _ _ 1 400 400 lg _ rfl hlg (by simp only [List.size_toArray, List.length_append, List.length_take, List.length_drop]; omega)]
          rw [Instr.fill]
          refine congrArg some (congrArg List.toArray ?_)
          simp only [List.take_zero, List.nil_append, Nat.zero_add]
          rw [List.take_append_of_le_length (by omega), List.take_of_length_le (by omega), List.drop_append, List.drop_eq_nil_of_le (by omega), List.nil_append, List.drop_drop, hla]
          rw [show 400 + (400 + 400 - 400) = 800 from rfl, h1.2]
          simp
        | _ => simp at h2
theorem Tryz.planZeroSize : Tryz.zeroCells198.size = 801 := by kernel_rfl
theorem planSize0 : (Tryz.prog.info? 198).map (·.size) = some 801 := by kernel_rfl
theorem planSize (a g : Tr) (v : Value) : (Tryz.prog.info? 198).map (·.size) = some (planCells a g v).toArray.size := by rw [List.size_toArray, planCells_length]; exact planSize0
theorem tree_one (t : Tr) : ∀ v ∈ treeCells t, v.oneCell' = true := by
  have := treeOne t
  rw [Array.all_eq_true_iff_forall_mem] at this
  intro v hv; exact this v (by simpa using hv)
theorem planOne (a g : Tr) : (planCells a g (.slice none 0 0)).toArray.all (·.oneCell') = true := by
  refine all_oneCell_toArray (fun v hv => ?_)
  unfold planCells at hv
  rcases List.mem_append.1 hv with hv | hv
  · exact tree_one a v hv
  · rcases List.mem_append.1 hv with hv | hv
    · exact tree_one g v hv
    · rw [List.mem_singleton.1 hv]; rfl
theorem there_new {w : World} {b : Nat} {cs : Array Value} {ty : TypeId} (h : w.heap[b]? = some (.cells cs ty (0, 0))) {n : Nat} (hn : n = cs.size) : w.there b 0 n := by
  subst hn
  intro j hj
  refine ⟨?_, ?_⟩
  · rw [Nat.zero_add, cell_of_row w b j _ _ (0, 0) h, Array.getElem?_eq_getElem hj]; rfl
  · simp [World.frozen?, h]
theorem range_new {w : World} {b : Nat} {cs : List Value} {ty : TypeId} (h : w.heap[b]? = some (.cells cs.toArray ty (0, 0))) : w.rangeAt b 0 cs := by
  intro j v hv
  rw [Nat.zero_add, cell_of_row w b j _ _ (0, 0) h]; simpa using hv
theorem plan_new {w : World} {b : Nat} {cs : Array Value} (a g : Tr) (v : Value) (h : w.heap[b]? = some (.cells cs 198 (0, 0))) (hs : cs.size = 801) : TreeAt (planX g v) (w.setCells b 0 (planCells a g v)) b a := by
  have := heap_setCells_row b 198 (planCells a g v) 0 w cs.toList (by simpa using h) (by rw [planCells_length, Array.length_toList]; omega)
  unfold TreeAt
  rw [this]
  have hd : cs.toList.drop (0 + (planCells a g v).length) = [] := by rw [List.drop_eq_nil_of_le (by rw [planCells_length, Array.length_toList]; omega)]
  rw [hd]
  simp [planX, planCells]
theorem goFold_len (g : Tr) (hg : TrOk g) : ∀ (l : List Nat) (p : Pl × Bool), (∀ i ∈ l, 1 ≤ i ∧ i ≤ 99) → TrOk p.1.now → (l.foldl (goOne g) p).1.done.length ≤ p.1.done.length + l.length ∧ TrOk (l.foldl (goOne g) p).1.now := by
  intro l
  induction l with
  | nil => intro p _ h; exact ⟨by simp, h⟩
  | cons i l ih =>
    intro p hl h
    rw [List.foldl_cons]
    have hi := hl i (by simp)
    obtain ⟨q, m⟩ := p
    cases hs : homeS q.now g i with
    | none =>
      rw [goOne_none hs]
      have := ih (q, m) (fun j hj => hl j (by simp [hj])) h
      exact ⟨by simp only [List.length_cons] at *; omega, this.2⟩
    | some s =>
      rw [goOne_some hs]
      have hk := (home_ok hg (show (1 : Int) ≤ i by omega) (by omega) hs).1
      have := ih (tryP q s, m || (stepE q.now s == 0)) (fun j hj => hl j (by simp [hj])) (tryP_ok h hk)
      have h2 := tryP_len q s
      exact ⟨by simp only [List.length_cons] at *; omega, this.2⟩
theorem goHomeT_len {g : Tr} (hg : TrOk g) {p : Pl} (h : TrOk p.now) : (goHomeT g p).1.done.length ≤ p.done.length + 99 ∧ TrOk (goHomeT g p).1.now := by
  have := goFold_len g hg (List.range' 1 99) (p, false) (fun i hi => by rw [List.mem_range'_1] at hi; omega) h
  have hE : goHomeT g p = (List.range' 1 99).foldl (goOne g) (p, false) := by unfold goHomeT; rfl
  rw [← hE, List.length_range'] at this
  exact this
theorem parkT_len {g : Tr} (hg : TrOk g) {p : Pl} (h : TrOk p.now) : (parkT g p).1.done.length ≤ p.done.length + 1 ∧ TrOk (parkT g p).1.now := by
  by_cases h0 : knotT p.now g = 0
  · rw [parkT_no h0]; exact ⟨by simp, h⟩
  · rw [parkT_yes h0]
    have hb := knot_bd h hg
    exact ⟨tryP_len _ _, tryP_ok h (park_ok (by omega) hb.2)⟩
theorem makeF_1 {g : Tr} {f : Nat} {p : Pl} (h : (goHomeT g p).2 = true) : makeF g (f + 1) p = makeF g f (goHomeT g p).1 := by rw [makeF, if_pos h]
theorem makeF_2 {g : Tr} {f : Nat} {p : Pl} (h : (goHomeT g p).2 = false) (h2 : (parkT g (goHomeT g p).1).2 = true) : makeF g (f + 1) p = makeF g f (parkT g (goHomeT g p).1).1 := by rw [makeF, if_neg (by rw [h]; simp), if_pos h2]
theorem makeF_3 {g : Tr} {f : Nat} {p : Pl} (h : (goHomeT g p).2 = false) (h2 : (parkT g (goHomeT g p).1).2 = false) : makeF g (f + 1) p = (parkT g (goHomeT g p).1).1.done := by rw [makeF, if_neg (by rw [h]; simp), if_neg (by rw [h2]; simp)]
theorem plan_row {w : World} {b : Nat} {g : Tr} {p : Pl} (h : PlanAt w b g p) : ∃ ao cap, w.cell? ⟨b, 800, none⟩ = some (.slice ao p.done.length cap) ∧ w.ownsRow (b + 1) 169 4 (.slice ao p.done.length cap) p.done.length (stCells p.done) := by
  obtain ⟨v, hT, hown⟩ := h
  obtain ⟨ao, cap, rfl, hr⟩ := row_of_owns hown
  exact ⟨ao, cap, plan_done hT, hown⟩
theorem own_low {w : World} {base base' : Nat} {e : TypeId} {size : Nat} {v : Value} {n : Nat} {xs : List Value} (h : w.ownsRow base e size v n xs) (hb : base' ≤ base) : w.ownsRow base' e size v n xs := by
  refine ⟨h.1, ?_⟩
  rcases h.2 with hn | ⟨g, cap, cur, hv, hg, rest⟩
  · exact .inl hn
  · exact .inr ⟨g, cap, cur, hv, by omega, rest⟩
set_option maxHeartbeats 4000000 in
set_option maxRecDepth 100000 in
theorem make_own (a g : Tr) (w : World) (ha : TrOk a) (hg : TrOk g) :
    Calls Tryz.prog 109 #[.agg (treeCells a).toArray, .agg (treeCells g).toArray] w fun e w' => (∃ ao cap, e = .returned (.slice ao (makeT a g).length cap) ∧ w'.ownsRow w.heap.size 169 4 (.slice ao (makeT a g).length cap) (makeT a g).length (stCells (makeT a g))) ∧ Below w.heap.size w w' := by
  have HR1 : Hid (((w.alloc (.cells (treeCells a).toArray 78)).alloc (.cells (treeCells g).toArray 78)).rangeAt w.heap.size 0 (treeCells a)) := hide (range_new (by rw [Below.heap_alloc _ _ _ (by simp)]; exact heap_alloc_new w _))
  have HR2 : Hid (((w.alloc (.cells (treeCells a).toArray 78)).alloc (.cells (treeCells g).toArray 78)).rangeAt (w.heap.size + 1) 0 (treeCells g)) := hide (range_new (by simpa using heap_alloc_new (w.alloc (.cells (treeCells a).toArray 78)) (.cells (treeCells g).toArray 78)))
  have hblk : (((w.alloc (.cells (treeCells a).toArray 78)).alloc (.cells (treeCells g).toArray 78)).alloc (.cells Tryz.zeroCells198 198)).heap[w.heap.size + 1 + 1]? = some (.cells Tryz.zeroCells198 198 (0, 0)) := by
    simpa using heap_alloc_new ((w.alloc (.cells (treeCells a).toArray 78)).alloc (.cells (treeCells g).toArray 78)) (.cells Tryz.zeroCells198 198)
  have HTH := hide (there_new hblk (n := (planCells a g (.slice none 0 0)).toArray.size) (by rw [List.size_toArray, planCells_length, Tryz.planZeroSize]))
  have HPN := hide (plan_new a g (.slice none 0 0) hblk Tryz.planZeroSize)
  have HBW := hide ((((Below.refl w.heap.size w).alloc (Nat.le_refl _) (.cells (treeCells a).toArray 78)).alloc (by simp) (.cells (treeCells g).toArray 78)).alloc (by simp; omega) (.cells Tryz.zeroCells198 198))
  have HO := hide ha
  have HG := hide hg
  have HM : Hid (makeT a g = makeF g 199 ⟨a, []⟩) := hide rfl
  generalize makeT a g = M at *
  clear hblk ha hg
  go_enter Tryz.func109, Tryz.ntmps109
  go_wp2_with (first
    | (refine wpList_load_mid (by rfl) 78 (.tmp 2) (by rfl) w.heap.size 0 (by rfl) (treeCells a) _ (unhide HR1) Tryz.underlying78 (by rfl) (treeSize a) ?_)
    | (refine wpList_load_mid (by rfl) 78 (.tmp 3) (by rfl) (w.heap.size + 1) 0 (by rfl) (treeCells g) _ (unhide HR2) Tryz.underlying78 (by rfl) (treeSize g) ?_)
    | (refine wpList_buildTo (by rfl) 198 #[(0, .tmp 8), (1, .tmp 9)] (by rfl) (some 10) (by rfl) (planCells a g (.slice none 0 0)).toArray ?hf ?_; (case hf => (simp [Act.eval, Act.put]; exact plan_built a g)))
    | (refine wpList_store_mid (by rfl) 198 (.tmp 5) (.tmp 10) (by rfl) (w.heap.size + 1 + 1) 0 (planCells a g (.slice none 0 0)).toArray (by rfl) (by rfl) (unhide HTH) (planSize a g _) (planOne a g) ?_))
  have HP0 : Hid (PlanAt _ (w.heap.size + 1 + 1) g ⟨a, []⟩) := hide ⟨.slice none 0 0, unhide HPN, World.ownsRow_nil _ _ _ _⟩
  have hB0 := below_setCells (unhide HBW) (g := w.heap.size + 1 + 1) (by omega) (by simp; omega) 0 (planCells a g (.slice none 0 0))
  have HB0 := hide hB0
  clear hB0
  clear HR1 HR2 HTH HPN HBW
  generalize Value.agg (treeCells a).toArray = va
  generalize Value.agg (treeCells g).toArray = vg
  generalize Value.agg (planCells a g (Value.slice none 0 0)).toArray = vp
  go_loopw [6] (fun i wr => ∃ k : Nat, ∃ p : Pl, k ≤ 199 ∧ i = .int .i64 k ∧ Hid (PlanAt wr (w.heap.size + 1 + 1) g p) ∧ Hid (TrOk p.now) ∧ p.done.length ≤ 100 * k ∧ Below w.heap.size w wr ∧ Hid (M = makeF g (199 - k) p)) (fun i _ => 200 - (intOf i).toNat)
  case atStart => exact ⟨0, ⟨a, []⟩, by omega, rfl, HP0, HO, by simp, unhide HB0, HM⟩
  case round =>
    obtain ⟨k, p, hk, rfl, HPL, HOK, hlen, hbel, HI⟩ := hrel
    have hltr := (unhide HPL).lt
    by_cases hkk : k ≤ 198
    · have HI2 : Hid (M = makeF g ((198 - k) + 1) p) := by apply hide; rw [unhide HI, show 199 - k = (198 - k) + 1 by omega]
      have HGO := hide (goHome_any g p (w.heap.size + 1 + 1) wr (unhide HOK) (unhide HG) (unhide HPL) (by omega))
      have hl1 := goHomeT_len (unhide HG) (unhide HOK)
      have HOK1 := hide hl1.2
      have hl2 := hl1.1
      clear hl1 HI
      cases hq : (goHomeT g p).2
      · cases hq2 : (parkT g (goHomeT g p).1).2
        · have HE := hide ((unhide HI2).trans (makeF_3 hq hq2))
          have HPA := hide (fun W (h : PlanAt W (w.heap.size + 1 + 1) g (goHomeT g p).1) => park_any g (goHomeT g p).1 (w.heap.size + 1 + 1) W (unhide HOK1) (unhide HG) h (by omega))
          rw [hq] at HGO
          rw [hq2] at HPA
          clear hq hq2 HI2
          generalize goHomeT g p = q1 at *
          generalize (parkT g q1.1).1 = q2 at *
          go_wp2_with fail
          refine (unhide HGO).mono ?_
          rintro e w1 ⟨rfl, hP1, hb1⟩
          have HP1 := hide hP1
          have hb2 := hbel.trans (hb1.mono (by omega))
          clear hP1 hb1 hbel
          go_wp2_with fail
          refine (unhide HPA _ (unhide HP1)).mono ?_
          rintro e w2 ⟨rfl, hP2, hb3⟩
          obtain ⟨ao, cap, hc, hr⟩ := plan_row hP2
          have HR := hide hr
          have HB4 := hide (hb2.trans (hb3.mono (by omega)))
          clear hP2 hb2 hb3 hr
          go_wp2
          go_ret
          rw [unhide HE]
          exact ⟨⟨ao, cap, rfl, own_low (unhide HR) (by omega)⟩, unhide HB4⟩
        · have HE := hide ((unhide HI2).trans (makeF_2 hq hq2))
          have HPA := hide (fun W (h : PlanAt W (w.heap.size + 1 + 1) g (goHomeT g p).1) => park_any g (goHomeT g p).1 (w.heap.size + 1 + 1) W (unhide HOK1) (unhide HG) h (by omega))
          have hl3 := parkT_len (unhide HG) (unhide HOK1)
          have HOK2 := hide hl3.2
          have hl4 := hl3.1
          rw [hq] at HGO
          rw [hq2] at HPA
          clear hq hq2 HI2 hl3
          generalize goHomeT g p = q1 at *
          generalize (parkT g q1.1).1 = q2 at *
          go_wp2_with fail
          refine (unhide HGO).mono ?_
          rintro e w1 ⟨rfl, hP1, hb1⟩
          have HP1 := hide hP1
          have hb2 := hbel.trans (hb1.mono (by omega))
          clear hP1 hb1 hbel
          go_wp2_with fail
          refine (unhide HPA _ (unhide HP1)).mono ?_
          rintro e w2 ⟨rfl, hP2, hb3⟩
          have HP2 := hide hP2
          have hb4 := hb2.trans (hb3.mono (by omega))
          clear hP2 hb2 hb3
          go_wp2
          go_roundw
          case rel => exact ⟨k + 1, q2, by omega, by go_num, HP2, HOK2, by omega, hb4, by apply hide; rw [show 199 - (k + 1) = 198 - k by omega]; exact unhide HE⟩
          case measure => simp [intOf]; omega
      · have HE := hide ((unhide HI2).trans (makeF_1 hq))
        rw [hq] at HGO
        clear hq HI2
        generalize goHomeT g p = q1 at *
        go_wp2_with fail
        refine (unhide HGO).mono ?_
        rintro e w1 ⟨rfl, hP1, hb1⟩
        have HP1 := hide hP1
        have hb2 := hbel.trans (hb1.mono (by omega))
        clear hP1 hb1 hbel
        go_wp2
        go_roundw
        case rel => exact ⟨k + 1, q1.1, by omega, by go_num, HP1, HOK1, by omega, hb2, by apply hide; rw [show 199 - (k + 1) = 198 - k by omega]; exact unhide HE⟩
        case measure => simp [intOf]; omega
    · have HE : Hid (M = p.done) := by apply hide; rw [unhide HI, show 199 - k = 0 by omega]; rfl
      obtain ⟨ao, cap, hc, hr⟩ := plan_row (unhide HPL)
      have HR := hide hr
      clear hr
      go_wp2
      go_ret
      rw [unhide HE]
      exact ⟨⟨ao, cap, rfl, own_low (unhide HR) (by omega)⟩, hbel⟩
theorem make_any (a g : Tr) (w : World) (ha : TrOk a) (hg : TrOk g) :
    Calls Tryz.prog 109 #[.agg (treeCells a).toArray, .agg (treeCells g).toArray] w fun e w' => (∃ ao cap, e = .returned (.slice ao (makeT a g).length cap) ∧ Row w' ao (makeT a g).length 4 (stCells (makeT a g))) ∧ Below w.heap.size w w' := by
  refine (make_own a g w ha hg).mono ?_
  rintro e w' ⟨⟨ao, cap, he, ho⟩, hb⟩
  refine ⟨⟨ao, cap, he, ?_⟩, hb⟩
  obtain ⟨ao', cap', e', hr⟩ := row_of_owns ho
  cases e'; exact hr
end Go.Proofs.YtdcjimlhaklhfabGreatDoor

namespace Go.Proofs.YtdcjimlhaklhfabGreatDoor
open Go.RowKit
set_option maxHeartbeats 400000 in
theorem get_wx (t : Tr) (b m : Nat) (w : World) (ht : TrW t) (hm : m ≤ 99) (hT : TreeAt ext0 w b t) :
    Calls Tryz.prog 98 #[.pointer (some ⟨b, 0, none⟩), .int .i64 m] w fun e w' => e = .returned (.agg #[.int .i64 ((t m).getD nd0).id, .int .i64 ((t m).getD nd0).parent, .string (bs ((t m).getD nd0).name)]) ∧ Below w.heap.size w w' := by
  have hb1 := (Below.refl w.heap.size w).alloc (Nat.le_refl _) (.cells #[.int .i64 0, .int .i64 0, .string ByteArray.empty] 75)
  have HH := hide (has_w t b m _ ht (by omega) (hT.below hb1))
  have c1 := hT.id m (by omega)
  have c2 := hT.parent m (by omega)
  have c3 := hT.name m (by omega)
  have hlt := hT.lt
  have hne : ¬ b = w.heap.size := by omega
  have hm0 : (0 : Int) ≤ m := by omega
  have HB := hide hb1
  clear hT ht hb1
  cases hq : t m with
  | none =>
    rw [hq] at HH c1 c2 c3
    clear hq
    go_enter Tryz.func98, Tryz.ntmps98
    go_wp2_with fail
    refine (unhide HH).mono ?_
    rintro e w1 ⟨rfl, rfl⟩
    go_wp2
    refine bodyPost_ret (v := .agg #[.int .i64 0, .int .i64 0, .string ByteArray.empty]) (by simp [results, Tryz.results98, go_sem]; rfl) rfl ⟨rfl, ?_⟩
    exact unhide HB
  | some n =>
    rw [hq] at HH c1 c2 c3
    clear hq
    go_enter Tryz.func98, Tryz.ntmps98
    go_wp2_with fail
    refine (unhide HH).mono ?_
    rintro e w1 ⟨rfl, rfl⟩
    go_wp2
    refine bodyPost_ret (v := .agg #[.int .i64 n.id, .int .i64 n.parent, .string (bs n.name)]) (by simp [results, Tryz.results98, go_sem]) rfl ⟨rfl, ?_⟩
    exact (Below.refl w.heap.size w).alloc (Nat.le_refl _) _
/-- A node's cells in a block of its own. -/
def NdAt (w : World) (g : Nat) (x : Nd) : Prop := g < w.heap.size ∧ w.cell? ⟨g, 0, none⟩ = some (.int .i64 x.id) ∧ w.cell? ⟨g, 1, none⟩ = some (.int .i64 x.parent) ∧ w.cell? ⟨g, 2, none⟩ = some (.string (bs x.name))
theorem NdAt.below {w w' : World} {g B : Nat} {x : Nd} (h : NdAt w g x) (hb : Below B w w') (hB : g < B) : NdAt w' g x := by
  obtain ⟨h0, h1, h2, h3⟩ := h
  have hs := hb.size
  refine ⟨by omega, ?_, ?_, ?_⟩
  · rw [hb.cell (p := ⟨g, 0, none⟩) hB]; exact h1
  · rw [hb.cell (p := ⟨g, 1, none⟩) hB]; exact h2
  · rw [hb.cell (p := ⟨g, 2, none⟩) hB]; exact h3
theorem ndAt_new (w : World) (x : Nd) (t : TypeId) : NdAt (w.alloc (.cells #[.int .i64 x.id, .int .i64 x.parent, .string (bs x.name)] t)) w.heap.size x :=
  ⟨by simp, news_three _ _ _ _ 0 _ rfl, news_three _ _ _ _ 1 _ rfl, news_three _ _ _ _ 2 _ rfl⟩
theorem treeAt_kept {x : Ext} {w w' : World} {b : Nat} {t : Tr} {S : Nat → Prop} (h : TreeAt x w b t) (hk : Keeps S w w') (hS : ¬ S b) : TreeAt x w' b t := by
  unfold TreeAt; rw [hk.block b h.lt hS]; exact h
theorem ren_no {t v : Tr} {k : Nat} (h : (v (k + 1)).isSome = false ∨ ndEq ((v (k + 1)).getD nd0) ((t (k + 1)).getD nd0) = true) : renamesTo t v (k + 1) = renamesTo t v k := by
  rw [renamesTo_succ]
  have : renOne t v (k + 1) = none := by
    unfold renOne getT
    rw [hasT_nat, Int.toNat_natCast]
    rcases h with h | h
    · rw [h]; rfl
    · rw [h]; simp
  rw [this]; simp
theorem ren_yes {t v : Tr} {k : Nat} (h : (v (k + 1)).isSome = true) (g : ndEq ((v (k + 1)).getD nd0) ((t (k + 1)).getD nd0) = false) : renamesTo t v (k + 1) = renamesTo t v k ++ [(v (k + 1)).getD nd0] := by
  rw [renamesTo_succ]
  have : renOne t v (k + 1) = some ((v (k + 1)).getD nd0) := by
    unfold renOne getT
    rw [hasT_nat, Int.toNat_natCast, h, g]; rfl
  rw [this]
set_option maxHeartbeats 4000000 in
set_option maxRecDepth 100000 in
theorem renamed_any (L : List Lo) (v : Tr) (b o vb : Nat) (ao : Option Addr) (cap : Nat) (w : World) (hlog : w.cell? ⟨b, o, none⟩ = some (.slice ao L.length cap)) (hb : b < w.heap.size) (hrow : Row w ao L.length 5 (loCells L)) (hx : ∀ x ∈ L, LoOk x) (hl : L.length ≤ 4000) (hv : TrW v) (hV : TreeAt ext0 w vb v) :
    Calls Tryz.prog 108 #[.pointer (some ⟨b, o, none⟩), .pointer (some ⟨vb, 0, none⟩)] w fun e w' => ∃ u, e = .returned u ∧ w'.ownsRow w.heap.size 75 3 u (renamesT (places L) v).length (ndCells (renamesT (places L) v)) ∧ Below w.heap.size w w' := by
  obtain ⟨i0, hi, hz0, hz1, hz2⟩ := info_parts Tryz.infoNode
  have HPL := hide (places_any L b o ao cap w hlog hb hrow hx hl)
  have HTW := hide (places_ok hx)
  have HTV := hide hv
  have HV := hide hV
  clear hlog hrow hx hv hV
  generalize places L = T at *
  go_enter Tryz.func108, Tryz.ntmps108
  go_wp2_with fail
  refine (unhide HPL).mono ?_
  rintro e w1 ⟨rfl, hb1⟩
  have HV1 := hide ((unhide HV).below hb1)
  have hs1 := hb1.size
  have HN1 := hide (treeAt_new w1)
  have hbx := below_setCells ((Below.refl w1.heap.size w1).alloc (Nat.le_refl _) (.cells Tryz.zeroCells78 78)) (g := w1.heap.size) (Nat.le_refl _) (by simp) 0 (treeCells T)
  have HB2 : Hid (Below w.heap.size w ((w1.alloc (.cells Tryz.zeroCells78 78)).setCells w1.heap.size 0 (treeCells T))) := hide (hb1.trans (hbx.mono hs1))
  have HV2 := hide ((unhide HV1).below hbx)
  have HP2 := hide (treeAt_stored (unhide HN1) T)
  have hs2 : w1.heap.size < ((w1.alloc (.cells Tryz.zeroCells78 78)).setCells w1.heap.size 0 (treeCells T)).heap.size := by rw [(size_setCells _ _ _ _).1]; simp
  have hvb : vb < w1.heap.size := (unhide HV1).lt
  clear hbx hb1
  go_upto_region 2 with (refine wpList_store_mid (by rfl) 78 (.tmp 5) (.tmp 11) (by rfl) w1.heap.size 0 (treeCells T).toArray (by rfl) (by rfl) (by exact treeAt_there (unhide HN1) T) (treeSize' T) (treeOne T) ?_)
  generalize Value.agg (treeCells T).toArray = vT
  generalize (w1.alloc (.cells Tryz.zeroCells78 78)).setCells w1.heap.size 0 (treeCells T) = w2 at *
  go_wp2
  go_loopw [6, 7] (fun u i wr => ∃ k : Nat, k ≤ 99 ∧ i = .int .i64 ((k : Int) + 1) ∧ Hid (Below w.heap.size w wr) ∧ Hid (TreeAt ext0 wr w1.heap.size T) ∧ Hid (TreeAt ext0 wr vb v) ∧ Hid (wr.ownsRow w2.heap.size 75 3 u (renamesTo T v k).length (ndCells (renamesTo T v k))) ∧ w2.heap.size ≤ wr.heap.size) (fun _ i _ => 101 - (intOf i).toNat)
  case atStart => exact ⟨0, by omega, rfl, HB2, HP2, HV2, hide (World.ownsRow_nil _ _ _ _), Nat.le_refl _⟩
  case round =>
    obtain ⟨k, hk, rfl, HB, HP, HVr, HO, hw2⟩ := hrel
    by_cases hlt : k < 99
    · have hk1 : (k : Int) + 1 ≤ 99 := by omega
      have HGV := hide (get_wx v vb (k + 1) wr (unhide HTV) (by omega) (unhide HVr))
      have HGP := hide (fun W (h : TreeAt ext0 W w1.heap.size T) => get_wx T w1.heap.size (k + 1) W (unhide HTW) (by omega) h)
      have HHV := hide (fun W (h : TreeAt ext0 W vb v) => has_w v vb (k + 1) W (unhide HTV) (by omega) h)
      have HNO := hide (@ren_no T v k)
      have HYE := hide (@ren_yes T v k)
      have hne := tnode_eq_run ((v (k + 1)).getD nd0) ((T (k + 1)).getD nd0)
      have hgd := Tryz.tnodeGuard
      have hlen := renamesTo_len T v k
      rw [show ((k + 1 : Nat) : Int) = (k : Int) + 1 by omega] at HGV HGP HHV
      generalize (v (k + 1)).getD nd0 = n at *
      generalize (T (k + 1)).getD nd0 = m at *
      generalize (v (k + 1)).isSome = qv at *
      generalize hqe : ndEq n m = qe at *
      have hsr := (unhide HB).size
      go_wp2_with fail
      refine (unhide HGV).mono ?_
      rintro e w3 ⟨rfl, hb3⟩
      have hb4 := hb3.trans (((Below.refl w3.heap.size w3).alloc (Nat.le_refl _) (.cells #[.int .i64 n.id, .int .i64 n.parent, .string (bs n.name)] 75)).mono hb3.size)
      have HNA := hide (ndAt_new w3 n 75)
      have HP4 := hide ((unhide HP).below hb4)
      have HV4 := hide ((unhide HVr).below hb4)
      have HO4 := hide (own_below (unhide HO) hb4)
      have HB4 := hide ((unhide HB).trans (hb4.mono hsr))
      have hs3 : w.heap.size ≤ w3.heap.size ∧ w2.heap.size ≤ w3.heap.size := by have := hb3.size; omega
      clear hb3 hb4
      go_wp2_with fail
      refine (unhide HGP _ (by exact unhide HP4)).mono ?_
      rintro e w5 ⟨rfl, hb5⟩
      have hs5 : w3.heap.size < w5.heap.size := by have := hb5.size; simp at this; omega
      have hA5 := (unhide HNA).below hb5 (by simp)
      have hb6 := hb5.trans (((Below.refl w5.heap.size w5).alloc (Nat.le_refl _) (.cells #[.int .i64 m.id, .int .i64 m.parent, .string (bs m.name)] 75)).mono hb5.size)
      have HP6 := hide ((unhide HP4).below hb6)
      have HV6 := hide ((unhide HV4).below hb6)
      have HO6 := hide (own_below (unhide HO4) hb6)
      have HB6 := hide ((unhide HB4).trans (hb6.mono (by simp; omega)))
      obtain ⟨_, a0, a1, a2⟩ := hA5
      have hn35 : ¬ w3.heap.size = w5.heap.size := by omega
      clear hb5 hb6
      go_wp2_with fail
      refine (unhide HHV _ (by exact unhide HV6)).mono ?_
      rintro e w7 ⟨rfl, rfl⟩
      rcases (show qv = false ∨ (qv = true ∧ qe = true) ∨ (qv = true ∧ qe = false) from by cases qv <;> cases qe <;> simp) with h | ⟨h, h'⟩ | ⟨h, h'⟩
      · have HE := hide (unhide HNO (.inl h))
        subst h
        go_wp2
        go_roundw
        case rel => exact ⟨k + 1, by omega, by go_num, HB6, HP6, HV6, by rw [unhide HE]; exact HO6, by simp; omega⟩
        case measure => simp [intOf]; omega
      · have HE := hide (unhide HNO (.inr h'))
        subst h h'
        go_wp2
        go_roundw
        case rel => exact ⟨k + 1, by omega, by go_num, HB6, HP6, HV6, by rw [unhide HE]; exact HO6, by simp; omega⟩
        case measure => simp [intOf]; omega
      · have HE := hide (unhide HYE h h')
        subst h h'
        have hs6 := (unhide HB6).size
        simp only [World.size_alloc] at hs6
        have HX := hide (Below.refl (w5.heap.size + 1) (w5.alloc (.cells #[.int .i64 m.id, .int .i64 m.parent, .string (bs m.name)] 75)))
        go_wp2_with (first
          | (at_builtin; (refine wpList_append_own _ rfl _ _ 126 rfl w2.heap.size 75 i0 (.agg #[.int .i64 0, .int .i64 0, .string ByteArray.empty]) 3 32 Tryz.underlying126 hi hz0 hz1 hz2 rfl (by decide) _ _ _ rfl (own_below (unhide HO6) ((Below.refl _ _).alloc (Nat.le_refl _) _)) ⟨w5.heap.size + 1, 0, none⟩ 1 1 [.int .i64 n.id, .int .i64 n.parent, .string (bs n.name)] rfl rfl (news_three' _ _ _ _ _) (by simp [Value.oneCell']) (by unfold maxLen; omega) (by omega) (by simp; omega) ?_))
          | go_in)
        intro v' w8 hown' hgrow _
        have hge := own_ge (unhide HO6)
        have hb8 := ((unhide HB6).alloc (by simp; omega) (.cells #[.int .i64 n.id, .int .i64 n.parent, .string (bs n.name)] 75)).grown hgrow (by simp; omega) (fun q hq => by have := hge q hq; omega)
        have HB8 := hide hb8
        have hk8 := Keeps.of_grown hgrow
        have hb7 := (Below.refl _ (w5.alloc (.cells #[.int .i64 m.id, .int .i64 m.parent, .string (bs m.name)] 75))).alloc (Nat.le_refl _) (.cells #[.int .i64 n.id, .int .i64 n.parent, .string (bs n.name)] 75)
        have HP8 := hide (treeAt_kept ((unhide HP6).below hb7) hk8 (fun e => by have := hge _ e; omega))
        have HV8 := hide (treeAt_kept ((unhide HV6).below hb7) hk8 (fun e => by have := hge _ e; omega))
        have HO8 : Hid (w8.ownsRow w2.heap.size 75 3 v' (renamesTo T v (k + 1)).length (ndCells (renamesTo T v (k + 1)))) := by
          apply hide; rw [unhide HE, ndCells_snoc, List.length_append]; exact hown'
        have hs8 := hk8.size
        simp only [World.size_alloc] at hs8
        clear hgrow hown' hb8 hk8 hb7 a0 a1 a2
        go_wp2
        go_roundw
        case rel => exact ⟨k + 1, by omega, by go_num, HB8, HP8, HV8, HO8, by omega⟩
        case measure => simp [intOf]; omega
    · have hk9 : k = 99 := by omega
      subst hk9
      go_wp2
      go_ret
      exact ⟨_, rfl, own_low (unhide HO) (by omega), unhide HB⟩
end Go.Proofs.YtdcjimlhaklhfabGreatDoor

namespace Go.Proofs.YtdcjimlhaklhfabGreatDoor
open Go.RowKit
theorem kind_45 (k : UInt8) : ((k.toNat : Int) == 45) = decide (k = 45) := by
  rw [Bool.eq_iff_iff, beq_iff_eq, decide_eq_true_eq]
  constructor
  · intro h
    apply UInt8.toNat_inj.1
    show k.toNat = 45
    omega
  · rintro rfl; rfl
set_option maxHeartbeats 1000000 in
theorem behind_any (s : St) (w : World) :
    Calls Tryz.prog 110 #[.agg #[.int .u8 s.kind.toNat, .int .i64 s.node.id, .int .i64 s.node.parent, .string (bs s.node.name)]] w fun e w' => e = .returned (.agg #[.int .i64 (behind s).id, .int .i64 (behind s).parent, .string (bs (behind s).name)]) ∧ Below w.heap.size w w' := by
  obtain ⟨k, n⟩ := s
  simp only []
  by_cases hk : k = 45
  · subst hk
    have hkk : (((45 : UInt8).toNat : Int) == 45) = true := rfl
    go_enter Tryz.func110, Tryz.ntmps110
    go_wp2
    refine bodyPost_ret (v := .agg #[.int .i64 n.id, .int .i64 100, .string ⟨#[45]⟩]) (by simp [results, Tryz.results110, go_sem]) rfl ⟨rfl, ?_⟩
    exact ((Below.refl _ _).alloc (Nat.le_refl _) _).alloc (by simp) _
  · have hkk : ((k.toNat : Int) == 45) = false := by rw [kind_45]; simpa using hk
    have HE : Hid (behind ⟨k, n⟩ = n) := by apply hide; unfold behind; rw [if_neg hk]
    generalize k.toNat = kn at *
    go_enter Tryz.func110, Tryz.ntmps110
    go_wp2
    refine bodyPost_ret (v := .agg #[.int .i64 n.id, .int .i64 n.parent, .string (bs n.name)]) (by simp [results, Tryz.results110, go_sem]) rfl ⟨by rw [unhide HE], ?_⟩
    exact ((Below.refl _ _).alloc (Nat.le_refl _) _).alloc (by simp) _
end Go.Proofs.YtdcjimlhaklhfabGreatDoor
