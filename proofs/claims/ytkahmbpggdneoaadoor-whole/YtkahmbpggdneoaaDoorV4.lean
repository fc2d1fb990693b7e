import Derived.Test.YtkahmbpggdneoaaDoorV3
namespace Go.Proofs.YtkahmbpggdneoaaDoor
open Go.RowKit
theorem quiet_add2 {P : Program} {f : FuncId} {args : Array Value} {w : World} {a n : Nat} {v : Value}
    (h : Calls P f args (w.drewN (a + n)) fun e w' => e = .returned v ∧ w' = w.drewN (a + n)) : Calls P f args (w.drewN (a + n)) fun e w'' => e = .returned v ∧ ∃ m, w'' = w.drewN (a + m) :=
  h.mono fun _ _ ⟨he, hm⟩ => ⟨he, n, hm⟩
theorem inWay_1 {a g : Tr} {n : Nd} (h : isParentT a n.parent = false) : inWay a g n = n.parent := by unfold inWay; rw [h]; rfl
theorem inWay_2 {a g : Tr} {n : Nd} (h : isParentT a n.parent = true) (h2 : meetsT a n.parent n.id = true) : inWay a g n = fromAwayF a g 99 n.parent := by unfold inWay; rw [h, h2]; rfl
theorem inWay_3 {a g : Tr} {n : Nd} (h : isParentT a n.parent = true) (h2 : meetsT a n.parent n.id = false) : inWay a g n = atT a n.parent n.name := by unfold inWay; rw [h, h2]; rfl
set_option maxHeartbeats 2000000 in
set_option maxRecDepth 100000 in
theorem inWay_any (a g : Tr) (b : Nat) (n : Nd) (v : Value) (w : World) (ha : TrOk a) (hg : TrOk g) (h0 : 0 ≤ n.parent) (h1 : n.parent ≤ 99) (hT : TreeAt (planX g v) w b a) :
    Calls Tryd.prog 94 #[.pointer (some ⟨b, 0, none⟩), .agg #[.int .i64 n.id, .int .i64 n.parent, .string (bs n.name)]] w fun e w' => e = .returned (.int .i64 (inWay a g n)) ∧ Below w.heap.size w w' := by
  have hb1 := (Below.refl w.heap.size w).alloc (Nat.le_refl _) (.cells #[.int .i64 n.id, .int .i64 n.parent, .string (bs n.name)] 56)
  have HT1 := hide (hT.below hb1)
  have HP := hide (fun W (h : TreeAt (planX g v) W b a) => isParent_any a b n.parent W ha h0 h1 h)
  have HM := hide (fun W (h : TreeAt (planX g v) W b a) => meets_any a b n.parent n.id W ha h0 h1 h)
  have HA := hide (fun W (h : TreeAt (planX g v) W b a) => at_any a b n.parent n.name W h)
  have HF := hide (fun W (h : TreeAt (planX g v) W b a) => fromAway_any a g b n.parent v W ha hg h0 h1 h)
  have HB := hide hb1
  have hlt := hT.lt
  clear hb1 hT ha hg
  cases hp : isParentT a n.parent
  · rw [inWay_1 hp]
    rw [hp] at HP
    go_enter Tryd.func94, Tryd.ntmps94
    go_wp2_with fail
    go_quiet ((go_at_call 75; exact Calls.quiet_of_same (unhide HP _ (unhide HT1))))
    go_wp2
    go_ret
    exact ⟨rfl, below_drewN (unhide HB) _⟩
  · rw [hp] at HP
    cases hm : meetsT a n.parent n.id
    · rw [inWay_3 hp hm]
      rw [hm] at HM
      go_enter Tryd.func94, Tryd.ntmps94
      go_wp2_with fail
      go_quiet ((go_at_call 75; exact Calls.quiet_of_same (unhide HP _ (unhide HT1))))
      go_wp2_with fail
      go_quiet ((go_at_call 76; exact quiet_add2 (unhide HM _ (unhide HT1))))
      go_wp2_with fail
      go_quiet ((go_at_call 78; exact quiet_add2 (unhide HA _ (unhide HT1))))
      go_wp2
      go_ret
      exact ⟨rfl, below_drewN (below_drewN (below_drewN (unhide HB) _) _) _⟩
    · rw [inWay_2 hp hm]
      rw [hm] at HM
      go_enter Tryd.func94, Tryd.ntmps94
      go_wp2_with fail
      go_quiet ((go_at_call 75; exact Calls.quiet_of_same (unhide HP _ (unhide HT1))))
      go_wp2_with fail
      go_quiet ((go_at_call 76; exact quiet_add2 (unhide HM _ (unhide HT1))))
      go_wp2_with fail
      refine (unhide HF _ (by exact unhide HT1)).mono ?_
      rintro e w2 ⟨rfl, hb2⟩
      have HB2 := hide ((below_drewN (unhide HB) _).trans (hb2.mono (by simp)))
      clear hb2
      go_wp2
      go_ret
      exact ⟨rfl, unhide HB2⟩
theorem blocker_0 {a g : Tr} {id : Int} (h : homeS a g id = none) : blocker a g id = 0 ∧ homeV a g id = stZ := by unfold blocker homeV; rw [h]; exact ⟨rfl, rfl⟩
theorem blocker_1 {a g : Tr} {id : Int} {s : St} (h : homeS a g id = some s) (hk : s.kind = 45) : blocker a g id = kidT a id ∧ homeV a g id = s := by unfold blocker homeV; rw [h]; exact ⟨if_pos hk, rfl⟩
theorem blocker_2 {a g : Tr} {id : Int} {s : St} (h : homeS a g id = some s) (hk : ¬ s.kind = 45) : blocker a g id = inWay a g s.node ∧ homeV a g id = s := by unfold blocker homeV; rw [h]; exact ⟨if_neg hk, rfl⟩
set_option maxHeartbeats 2000000 in
set_option maxRecDepth 100000 in
theorem blocker_any (a g : Tr) (b : Nat) (id : Int) (v : Value) (w : World) (ha : TrOk a) (hg : TrOk g) (h0 : 0 ≤ id) (h1 : id ≤ 99) (hT : TreeAt (planX g v) w b a) :
    Calls Tryd.prog 89 #[.pointer (some ⟨b, 0, none⟩), .int .i64 id] w fun e w' => e = .returned (.int .i64 (blocker a g id)) ∧ Below w.heap.size w w' := by
  have HH := hide (home_any a g b id v w ha hg h0 h1 hT)
  have hlt := hT.lt
  cases hq : homeS a g id with
  | none =>
    obtain ⟨e1, e2⟩ := blocker_0 hq
    rw [e1]
    rw [e2, hq] at HH
    clear e1 e2 hq hT ha hg
    go_enter Tryd.func89, Tryd.ntmps89
    go_wp2_with fail
    refine (unhide HH).mono ?_
    rintro e w1 ⟨rfl, hb1⟩
    have HB := hide (hb1.alloc hb1.size (.cells #[.int .u8 stZ.kind.toNat, .int .i64 stZ.node.id, .int .i64 stZ.node.parent, .string (bs stZ.node.name)] 83))
    have hkz : stZ.kind.toNat = 0 := rfl
    clear hb1
    go_wp2
    go_ret
    exact ⟨rfl, unhide HB⟩
  | some s =>
    have hT' := hT
    rcases home_cases hq with ⟨e, hgn, m, hm⟩ | ⟨n, e, hgn, hn⟩ | ⟨n, m, e, hgn, hm, _⟩
    · obtain ⟨e1, e2⟩ := blocker_1 hq (by rw [e])
      rw [e1]
      rw [e2, hq, e] at HH
      have HK := hide (fun W (h : TreeAt (planX g v) W b a) => kid_any a b id W h)
      have HT := hide hT
      clear e1 e2 hq hT ha hg e hgn hm hT'
      go_enter Tryd.func89, Tryd.ntmps89
      go_wp2_with fail
      refine (unhide HH).mono ?_
      rintro e w1 ⟨rfl, hb1⟩
      have HB := hide (hb1.alloc hb1.size (.cells #[.int .u8 45, .int .i64 id, .int .i64 0, .string (bs [])] 83))
      have HT1 := hide ((unhide HT).below (unhide HB))
      clear hb1
      go_wp2_with fail
      refine (unhide HK _ (by exact unhide HT1)).mono ?_
      rintro e w2 ⟨rfl, rfl⟩
      go_wp2
      go_ret
      exact ⟨rfl, unhide HB⟩
    · obtain ⟨e1, e2⟩ := blocker_2 hq (by rw [e]; show ¬ ((43 : UInt8) = 45); decide)
      rw [e1]
      rw [e2, hq] at HH
      subst e
      have hb := trOk_id hg h0 hgn
      have HI := hide (fun W (h : TreeAt (planX g v) W b a) => inWay_any a g b n v W ha hg hb.2.2.2.2.2.1 hb.2.2.2.2.2.2.1 h)
      have HT := hide hT
      clear e1 e2 hq hT ha hg hgn hn hT' hb
      go_enter Tryd.func89, Tryd.ntmps89
      go_wp2_with fail
      refine (unhide HH).mono ?_
      rintro e w1 ⟨rfl, hb1⟩
      have HB := hide (hb1.alloc hb1.size (.cells #[.int .u8 43, .int .i64 n.id, .int .i64 n.parent, .string (bs n.name)] 83))
      have HT1 := hide ((unhide HT).below (unhide HB))
      clear hb1
      go_wp2_with fail
      refine (unhide HI _ (by exact unhide HT1)).mono ?_
      rintro e w2 ⟨rfl, hb2⟩
      have HB2 := hide ((unhide HB).trans (hb2.mono (by have := (unhide HB).size; exact this)))
      clear hb2
      go_wp2
      go_ret
      exact ⟨rfl, unhide HB2⟩
    · obtain ⟨e1, e2⟩ := blocker_2 hq (by rw [e]; show ¬ ((61 : UInt8) = 45); decide)
      rw [e1]
      rw [e2, hq] at HH
      subst e
      have hb := trOk_id hg h0 hgn
      have HI := hide (fun W (h : TreeAt (planX g v) W b a) => inWay_any a g b n v W ha hg hb.2.2.2.2.2.1 hb.2.2.2.2.2.2.1 h)
      have HT := hide hT
      clear e1 e2 hq hT ha hg hgn hm hT' hb
      go_enter Tryd.func89, Tryd.ntmps89
      go_wp2_with fail
      refine (unhide HH).mono ?_
      rintro e w1 ⟨rfl, hb1⟩
      have HB := hide (hb1.alloc hb1.size (.cells #[.int .u8 61, .int .i64 n.id, .int .i64 n.parent, .string (bs n.name)] 83))
      have HT1 := hide ((unhide HT).below (unhide HB))
      clear hb1
      go_wp2_with fail
      refine (unhide HI _ (by exact unhide HT1)).mono ?_
      rintro e w2 ⟨rfl, hb2⟩
      have HB2 := hide ((unhide HB).trans (hb2.mono (by have := (unhide HB).size; exact this)))
      clear hb2
      go_wp2
      go_ret
      exact ⟨rfl, unhide HB2⟩
end Go.Proofs.YtkahmbpggdneoaaDoor
