import Derived.Test.YtkahmbpggdneoaaDoorV6
namespace Go.Proofs.YtkahmbpggdneoaaDoor
open Go.RowKit
theorem PlanAt.below {w w' : World} {b : Nat} {g : Tr} {p : Pl} (h : PlanAt w b g p) (hb : Below w.heap.size w w') : PlanAt w' b g p := by
  obtain ⟨v, h1, h2⟩ := h
  exact ⟨v, h1.below hb, own_below h2 hb⟩
theorem PlanAt.lt {w : World} {b : Nat} {g : Tr} {p : Pl} (h : PlanAt w b g p) : b < w.heap.size := by
  obtain ⟨v, h1, _⟩ := h; exact h1.lt
theorem homeP_any (g : Tr) (p : Pl) (b : Nat) (id : Int) (w : World) (ha : TrOk p.now) (hg : TrOk g) (h0 : 0 ≤ id) (h1 : id ≤ 99) (hP : PlanAt w b g p) :
    Calls Tryd.prog 70 #[.pointer (some ⟨b, 0, none⟩), .int .i64 id] w fun e w' => e = .returned (.tuple #[.agg #[.int .u8 (homeV p.now g id).kind.toNat, .int .i64 (homeV p.now g id).node.id, .int .i64 (homeV p.now g id).node.parent, .string (bs (homeV p.now g id).node.name)], .bool (homeS p.now g id).isSome]) ∧ Below w.heap.size w w' := by
  obtain ⟨v, hT, _⟩ := hP
  exact home_any p.now g b id v w ha hg h0 h1 hT
theorem goOne_none {g : Tr} {p : Pl} {m : Bool} {i : Nat} (h : homeS p.now g i = none) : goOne g (p, m) i = (p, m) := by unfold goOne; rw [h]
theorem goOne_some {g : Tr} {p : Pl} {m : Bool} {i : Nat} {s : St} (h : homeS p.now g i = some s) : goOne g (p, m) i = (tryP p s, m || (stepE p.now s == 0)) := by
  unfold goOne; rw [h]
  by_cases he : stepE p.now s = 0
  · rw [tryP_yes he]; simp [he]
  · rw [(tryP_no he).1]; simp [he]
theorem tryP_len (p : Pl) (s : St) : (tryP p s).done.length ≤ p.done.length + 1 := by unfold tryP; split <;> simp
theorem tryP_ok {p : Pl} {s : St} (h : TrOk p.now) (hs : StOk s) : TrOk (tryP p s).now := by
  unfold tryP; split
  · exact stepT_ok h hs
  · exact h
def GoInv (g : Tr) (F : Pl × Bool) (k : Nat) (q : Pl) (m : Bool) : Prop := F = (List.range' k (100 - k)).foldl (goOne g) (q, m)
theorem goInv_next {g : Tr} {F : Pl × Bool} {k : Nat} {q : Pl} {m : Bool} (h : GoInv g F k q m) (hk : k ≤ 99) {q' : Pl} {m' : Bool} (e : goOne g (q, m) k = (q', m')) : GoInv g F (k + 1) q' m' := by
  unfold GoInv at *
  rw [h, show 100 - k = (100 - (k + 1)) + 1 by omega, List.range'_succ, List.foldl_cons, e]
theorem goInv_end {g : Tr} {F : Pl × Bool} {q : Pl} {m : Bool} {k : Nat} (h : GoInv g F k q m) (hk : ¬ k ≤ 99) : F = (q, m) := by
  unfold GoInv at h; rw [h, show 100 - k = 0 by omega]; rfl
set_option maxHeartbeats 2000000 in
set_option maxRecDepth 100000 in
theorem goHome_any (g : Tr) (p : Pl) (b : Nat) (w : World) (ha : TrOk p.now) (hg : TrOk g) (hP : PlanAt w b g p) (hl : p.done.length ≤ 20000) :
    Calls Tryd.prog 50 #[.pointer (some ⟨b, 0, none⟩)] w fun e w' => e = .returned (.bool (goHomeT g p).2) ∧ PlanAt w' b g (goHomeT g p).1 ∧ Below b w w' := by
  have hlt := hP.lt
  have HF : Hid (GoInv g (goHomeT g p) 1 p false) := hide (by unfold GoInv goHomeT; rfl)
  generalize goHomeT g p = F at *
  have HG := hide hg
  have HP := hide hP
  have HO := hide ha
  clear hg hP ha
  go_enter Tryd.func50, Tryd.ntmps50
  go_wp2
  go_loopw [3, 4] (fun mv i wr => ∃ k : Nat, ∃ q : Pl, ∃ m : Bool, 1 ≤ k ∧ k ≤ 100 ∧ i = .int .i64 k ∧ mv = .bool m ∧ Hid (TrOk q.now) ∧ Hid (PlanAt wr b g q) ∧ q.done.length ≤ p.done.length + (k - 1) ∧ Below b w wr ∧ Hid (GoInv g F k q m)) (fun _ i _ => 101 - (intOf i).toNat)
  case atStart => exact ⟨1, p, false, by omega, by omega, rfl, rfl, HO, HP, by omega, Below.refl _ _, HF⟩
  case round =>
    obtain ⟨k, q, m, hk1, hk, rfl, rfl, HOK, HPL, hql, hbel, HI⟩ := hrel
    have hltr := (unhide HPL).lt
    by_cases hkk : k ≤ 99
    · have HH := hide (homeP_any g q b k wr (unhide HOK) (unhide HG) (by omega) (by omega) (unhide HPL))
      cases hq : homeS q.now g k with
      | none =>
        have HI2 := hide (goInv_next (unhide HI) hkk (goOne_none hq))
        have e2 : homeV q.now g k = stZ := by unfold homeV; rw [hq]; rfl
        rw [hq, e2] at HH
        clear hq e2 HI
        go_wp2_with fail
        refine (unhide HH).mono ?_
        rintro e w1 ⟨rfl, hb1⟩
        have hb2 := hb1.alloc hb1.size (.cells #[.int .u8 stZ.kind.toNat, .int .i64 stZ.node.id, .int .i64 stZ.node.parent, .string (bs stZ.node.name)] 83)
        have HPL2 := hide ((unhide HPL).below hb2)
        have hb3 := hbel.trans (hb2.mono (by omega))
        clear hb1 hb2 hbel HPL
        go_wp2
        go_roundw
        case rel => exact ⟨k + 1, q, m, by omega, by omega, by go_num, rfl, HOK, HPL2, by omega, hb3, HI2⟩
        case measure => simp [intOf]; omega
      | some s =>
        have hsok := (home_ok (unhide HG) (show (1 : Int) ≤ k by omega) (by omega) hq).1
        have HI2 := hide (goInv_next (unhide HI) hkk (goOne_some hq))
        have e2 : homeV q.now g k = s := by unfold homeV; rw [hq]; rfl
        rw [hq, e2] at HH
        have HAT := hide (fun W (h : PlanAt W b g q) => attempt_any g q b s W (unhide HOK) hsok h (by omega))
        have HOK2 := hide (tryP_ok (unhide HOK) hsok)
        have hql2 := tryP_len q s
        clear hq e2 HI hsok
        cases hE : (stepE q.now s == 0)
        · rw [hE] at HAT HI2
          rw [Bool.or_false] at HI2
          go_wp2_with fail
          refine (unhide HH).mono ?_
          rintro e w1 ⟨rfl, hb1⟩
          have hb2 := hb1.alloc hb1.size (.cells #[.int .u8 s.kind.toNat, .int .i64 s.node.id, .int .i64 s.node.parent, .string (bs s.node.name)] 83)
          have HPL2 := hide ((unhide HPL).below hb2)
          have hb3 := hbel.trans (hb2.mono (by omega))
          clear hb1 hb2 hbel HPL
          go_wp2_with fail
          refine (unhide HAT _ (by exact unhide HPL2)).mono ?_
          rintro e w3 ⟨rfl, hP3, hb4⟩
          have HP3 := hide hP3
          have hb5 := hb3.trans hb4
          clear hP3 hb3 hb4
          generalize tryP q s = q2 at *
          go_wp2
          go_roundw
          case rel => exact ⟨k + 1, q2, m, by omega, by omega, by go_num, rfl, HOK2, HP3, by omega, hb5, HI2⟩
          case measure => simp [intOf]; omega
        · rw [hE] at HAT HI2
          rw [Bool.or_true] at HI2
          go_wp2_with fail
          refine (unhide HH).mono ?_
          rintro e w1 ⟨rfl, hb1⟩
          have hb2 := hb1.alloc hb1.size (.cells #[.int .u8 s.kind.toNat, .int .i64 s.node.id, .int .i64 s.node.parent, .string (bs s.node.name)] 83)
          have HPL2 := hide ((unhide HPL).below hb2)
          have hb3 := hbel.trans (hb2.mono (by omega))
          clear hb1 hb2 hbel HPL
          go_wp2_with fail
          refine (unhide HAT _ (by exact unhide HPL2)).mono ?_
          rintro e w3 ⟨rfl, hP3, hb4⟩
          have HP3 := hide hP3
          have hb5 := hb3.trans hb4
          clear hP3 hb3 hb4
          generalize tryP q s = q2 at *
          go_wp2
          go_roundw
          case rel => exact ⟨k + 1, q2, true, by omega, by omega, by go_num, rfl, HOK2, HP3, by omega, hb5, HI2⟩
          case measure => simp [intOf]; omega
    · have hE := goInv_end (unhide HI) hkk
      have HE := hide hE
      clear hE
      go_wp2
      go_ret
      rw [unhide HE]
      exact ⟨rfl, unhide HPL, hbel⟩
theorem seek_bd {a g : Tr} (ha : TrOk a) (hg : TrOk g) : ∀ (f : Nat) (m : Int), 0 ≤ m → m ≤ 99 → 0 ≤ seekF a g f m ∧ seekF a g f m ≤ 99 := by
  intro f
  induction f with
  | zero => intro m _ _; simp [seekF]
  | succ f ih =>
    intro m h0 h1
    rw [seekF]
    split
    · exact ⟨h0, h1⟩
    · have := blocker_bd ha hg (id := m) h0; exact ih _ this.1 this.2
theorem iter_bd {a g : Tr} (ha : TrOk a) (hg : TrOk g) : ∀ (f : Nat) (m : Int), 0 ≤ m → m ≤ 99 → 0 ≤ iter (blocker a g) f m ∧ iter (blocker a g) f m ≤ 99 := by
  intro f
  induction f with
  | zero => intro m h0 h1; exact ⟨h0, h1⟩
  | succ f ih =>
    intro m h0 h1
    rw [iter]
    have := blocker_bd ha hg (id := m) h0; exact ih _ this.1 this.2
theorem knot_bd {a g : Tr} (ha : TrOk a) (hg : TrOk g) : 0 ≤ knotT a g ∧ knotT a g ≤ 99 := by
  have h1 := firstAway_bd a g
  have h2 := iter_bd ha hg 99 _ h1.1 h1.2
  exact seek_bd ha hg 99 _ h2.1 h2.2
theorem parkT_no {g : Tr} {p : Pl} (h : knotT p.now g = 0) : parkT g p = (p, false) := by unfold parkT; rw [if_pos h]
theorem parkT_yes {g : Tr} {p : Pl} (h : ¬ knotT p.now g = 0) : parkT g p = (tryP p (parkS (knotT p.now g)), stepE p.now (parkS (knotT p.now g)) == 0) := by
  unfold parkT; rw [if_neg h]
  by_cases he : stepE p.now (parkS (knotT p.now g)) = 0
  · rw [if_pos he, tryP_yes he, he]; rfl
  · rw [if_neg he, (tryP_no he).1]; simp [he]
theorem add_t (a : Str) (ha : a.length ≤ 1000000) (W : World) : (Op.stringOp .add ⟨#[116, 126]⟩ (bs a)).run Tryd.prog W = .ok (.string (bs (116 :: 126 :: a))) W := add_bs [116, 126] a (by simp) ha W
set_option maxHeartbeats 2000000 in
set_option maxRecDepth 100000 in
theorem park_any (g : Tr) (p : Pl) (b : Nat) (w : World) (ha : TrOk p.now) (hg : TrOk g) (hP : PlanAt w b g p) (hl : p.done.length ≤ 30000) :
    Calls Tryd.prog 51 #[.pointer (some ⟨b, 0, none⟩)] w fun e w' => e = .returned (.bool (parkT g p).2) ∧ PlanAt w' b g (parkT g p).1 ∧ Below b w w' := by
  have hlt := hP.lt
  have HK : Hid (Calls Tryd.prog 72 #[.pointer (some ⟨b, 0, none⟩)] w fun e w' => e = .returned (.int .i64 (knotT p.now g)) ∧ Below w.heap.size w w') := by
    obtain ⟨v, hT, _⟩ := hP; exact hide (knot_any p.now g b v w ha hg hT)
  have hkb := knot_bd ha hg
  have HP := hide hP
  by_cases h0 : knotT p.now g = 0
  · rw [parkT_no h0]
    rw [h0] at HK
    clear hP ha hg
    go_enter Tryd.func51, Tryd.ntmps51
    go_wp2_with fail
    refine (unhide HK).mono ?_
    rintro e w1 ⟨rfl, hb1⟩
    have HP1 := hide ((unhide HP).below hb1)
    have HB := hide (hb1.mono (show b ≤ w.heap.size by omega))
    clear hb1
    go_wp2
    go_ret
    exact ⟨rfl, unhide HP1, unhide HB⟩
  · rw [parkT_yes h0]
    have hz : (knotT p.now g == 0) = false := by simpa using h0
    have HAT := hide (fun W (h : PlanAt W b g p) => attempt_any g p b (parkS (knotT p.now g)) W ha (park_ok (by omega) hkb.2) h hl)
    have HIT := hide (fun W => itoa_any (knotT p.now g) W hkb.1 hkb.2)
    have l1 := digs_len (knotT p.now g)
    have a1 := add_t (digs (knotT p.now g)) (by omega)
    generalize hEE : (stepE p.now (parkS (knotT p.now g)) == 0) = E at *
    clear hEE
    generalize tryP p (parkS (knotT p.now g)) = q at *
    unfold parkS parkN at HAT
    generalize knotT p.now g = id at *
    clear hP ha hg
    go_enter Tryd.func51, Tryd.ntmps51
    go_wp2_with fail
    refine (unhide HK).mono ?_
    rintro e w1 ⟨rfl, hb1⟩
    go_wp2_with fail
    refine (unhide HIT _).mono ?_
    rintro e w2 ⟨rfl, rfl⟩
    have hb2 := hb1.alloc hb1.size (.cells #[.int .i64 id, .int .i64 0, .string (bs (116 :: 126 :: digs id))] 56)
    have HP1 := hide ((unhide HP).below hb2)
    have hb3 := hb2.mono (show b ≤ w.heap.size by omega)
    clear hb1 hb2
    go_wp2_with fail
    refine (unhide HAT _ (by exact unhide HP1)).mono ?_
    rintro e w3 ⟨rfl, hP3, hb4⟩
    have HP3 := hide hP3
    have HB5 := hide (hb3.trans hb4)
    clear hP3 hb3 hb4
    go_wp2
    go_ret
    exact ⟨rfl, unhide HP3, unhide HB5⟩
end Go.Proofs.YtkahmbpggdneoaaDoor
