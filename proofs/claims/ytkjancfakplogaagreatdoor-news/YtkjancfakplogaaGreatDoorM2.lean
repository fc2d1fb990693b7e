import Derived.Test.YtkjancfakplogaaGreatDoorM1
namespace Go.Proofs.YtkjancfakplogaaGreatDoor
open Go.RowKit
theorem Tryz.infoPtr : (Tryz.prog.info? 33).map (fun i => (i.zero, i.size, i.bytes)) = some (some (.pointer none), 1, 8) := by kernel_rfl
set_option maxHeartbeats 1000000 in
theorem made_bad (base wp : Nat) (ps : List PS) (rv : Value) (site : Int) (w : World) (h : WorldAt base wp ps rv w) (hs : site < 1 ∨ 9 < site) :
    Calls Tryz.prog 12 #[.pointer (some ⟨wp, 0, none⟩), .int .i64 site] w fun e w' => e = .returned (.bool true) ∧ WorldAt base wp ps rv w' ∧ Below w.heap.size w w' := by
  have HN := hide (new_bad site w hs)
  have HW := hide (fun w' => @world_below base wp ps rv w w' h)
  clear h
  rcases hs with hs | hs
  · have hd : decide (site < 1) = true := by simpa using hs
    go_enter Tryz.func12, Tryz.ntmps12
    go_wp2_with fail
    refine (unhide HN).mono ?_
    rintro e w1 ⟨rfl, hb1⟩
    have HB := hide hb1; clear hb1
    go_wp2_with go_in
    go_ret
    exact ⟨rfl, unhide HW _ (unhide HB), unhide HB⟩
  · have hd : decide (site < 1) = false := by simp; omega
    have hd2 : decide (9 < site) = true := by simpa using hs
    go_enter Tryz.func12, Tryz.ntmps12
    go_wp2_with fail
    refine (unhide HN).mono ?_
    rintro e w1 ⟨rfl, hb1⟩
    have HB := hide hb1; clear hb1
    go_wp2_with go_in
    go_ret
    exact ⟨rfl, unhide HW _ (unhide HB), unhide HB⟩
set_option maxHeartbeats 2000000 in
set_option maxRecDepth 100000 in
theorem made_ok (base wp : Nat) (ps : List PS) (rv : Value) (site : Int) (w : World) (h : WorldAt base wp ps rv w) (h1 : 1 ≤ site) (h2 : site ≤ 9) (hl : ps.length ≤ 10000000000000) (hbase : base ≤ w.heap.size) :
    Calls Tryz.prog 12 #[.pointer (some ⟨wp, 0, none⟩), .int .i64 site] w fun e w' => e = .returned (.bool true) ∧ (∃ p rv', WorldAt base wp (ps ++ [p]) rv' w') ∧ Keeps (WFoot wp ps rv) w w' := by
  obtain ⟨i0, hi, hz0, hz1, hz2⟩ := info_parts Tryz.infoPtr
  have HN := hide (new_ok site w h1 h2)
  have hwl := world_lt h
  have HH := hide h
  have HRW := hide (rv_wp h)
  clear h
  have hd : decide (site < 1) = false := by simp; omega
  have hd2 : decide (9 < site) = false := by simp; omega
  go_enter Tryz.func12, Tryz.ntmps12
  go_wp2_with fail
  refine (unhide HN).mono ?_
  rintro e w1 ⟨rfl, hR1, hb1⟩
  have hW1 := world_below (unhide HH) hb1
  have c0 := world_cell hW1
  have hs1 : w.heap.size < w1.heap.size := hR1.lt
  have hwl1 : wp < w1.heap.size := by omega
  have hwn : ¬ wp = w1.heap.size := by omega
  have HOW := hide hW1.2.1
  have HW1 := hide hW1
  have HR1 := hide hR1
  have HB1 := hide hb1
  clear hW1 hR1 hb1
  have hb2 := ((Below.refl w1.heap.size w1).alloc (Nat.le_refl _) (.cells #[.pointer (some ⟨w.heap.size, 0, none⟩), .int .i64 site, .slice none 0 0] 40)).alloc (by simp) (.cells #[.pointer (some ⟨w1.heap.size, 0, none⟩)] 33)
  have HOW2 := hide (own_below (unhide HOW) hb2)
  have HB2 := hide hb2; clear hb2
  go_wp2_with (first
    | (at_builtin; (refine wpList_append_lies _ rfl _ _ 26 rfl 0 33 i0 (.pointer none) 1 8 Tryz.underlying26 hi hz0 hz1 hz2 rfl (by decide) rv ps.length (ps.map ptrV) rfl (unhide HOW2) ⟨w1.heap.size + 1, 0, none⟩ 1 1 [.pointer (some ⟨w1.heap.size, 0, none⟩)] rfl rfl (by have := @news_one (w1.alloc (.cells #[.pointer (some ⟨w.heap.size, 0, none⟩), .int .i64 site, .slice none 0 0] 40)) (.pointer (some ⟨w1.heap.size, 0, none⟩)) 33; simpa using this) (by simp [Value.oneCell']) (by decide) (by unfold maxLen; omega) (by omega) (by simp) (w1.heap.size + 2) (by simp) ?_))
    | go_in)
  intro g cap w4 hown4 hgrow hgg hgl
  have hK4 := Keeps.of_grown hgrow
  have hw2 := (world_below (unhide HW1) (unhide HB2)).1
  have hw4 : w4.heap[wp]? = some (.cells #[rv] 28 (0, 0)) := by rw [hK4.block wp (lt_of_block hw2) (unhide HRW)]; exact hw2
  have d0 : w4.cell? ⟨wp, 0, none⟩ = some rv := by rw [cell_of_row w4 wp 0 _ _ _ hw4]; rfl
  have df : ∀ j, w4.frozen? ⟨wp, j, none⟩ = false := fun j => by simp [World.frozen?, hw4]
  have HVL : Hid (∀ k, rv.ownBlock = some k → k < w.heap.size) := hide (fun k hk => tyAt_lt (tyAt_own (unhide HH).2.1 k hk))
  have hgw : g ≠ wp := by
    intro e; subst e
    exact absurd (tyAt_inj (tyAt_own hown4 g rfl) ⟨_, _, hw4⟩) (by decide)
  have HKK : Hid (Keeps (fun k => k = wp ∨ rv.ownBlock = some k) w (w4.setCell ⟨wp, 0, none⟩ (.slice (some ⟨g, 0, none⟩) (ps.length + 1) cap))) := by
    apply hide
    have k1 : Keeps (fun k => k = wp ∨ rv.ownBlock = some k) w w1 := Keeps.of_below (unhide HB1) (fun k h1 h2 => by omega)
    have k2 := k1.trans (Keeps.of_below (S := fun _ => False) (unhide HB2) (fun k h1 h2 => by omega)) (fun _ _ h => h.elim)
    exact (k2.trans hK4 (fun _ _ h => .inr h)).trans (Keeps.set w4 wp 0 _) (fun _ _ h => .inl h)
  have HF : Hid (∃ p rv', WorldAt base wp (ps ++ [p]) rv' (w4.setCell ⟨wp, 0, none⟩ (.slice (some ⟨g, 0, none⟩) (ps.length + 1) cap))) := by
    apply hide
    refine ⟨⟨w1.heap.size, w.heap.size, site, .slice none 0 0, .slice none 0 0, []⟩, .slice (some ⟨g, 0, none⟩) (ps.length + 1) cap, ?_⟩
    have hK5 := Keeps.set w4 wp 0 (.slice (some ⟨g, 0, none⟩) (ps.length + 1) cap)
    refine world_push (unhide HH) ?_ ?_ ?_ ?_ ?_ ?_ hbase
    · rw [heap_setCell_same w4 wp 0 _ _ _ hw4]; rfl
    · exact own_kept hown4 hK5 (fun k hk => by simp [Value.ownBlock] at hk; subst hk; exact hgw)
    · refine ⟨?_, ?_, World.ownsRow_nil _ _ _ _⟩
      · unfold PairAt
        rw [hK5.block w1.heap.size (by have := hgrow.size; simp at this; omega) (by omega), hK4.block w1.heap.size (by simp; omega) (fun e => by have := unhide HVL w1.heap.size e; omega)]
        rw [Below.heap_alloc _ _ _ (by simp)]
        exact heap_alloc_new w1 _
      · refine Repl.kept (Repl.kept ((unhide HR1).below (unhide HB2)) hK4 (fun k hf e => ?_)) hK5 (fun k hf e => ?_)
        · have := unhide HVL k e
          rcases hf with hf | hf
          · have hf' : k = w.heap.size := hf
            omega
          · simp [Value.ownBlock] at hf
        · rcases hf with hf | hf
          · have hf' : k = w.heap.size := hf
            omega
          · simp [Value.ownBlock] at hf
    · exact unhide HKK
    · intro k hk
      rcases hk with hk | hk | hk | hk
      · simp at hk; omega
      · simp at hk; omega
      · simp [Value.ownBlock] at hk
      · simp [Value.ownBlock] at hk
    · intro k hk
      simp [Value.ownBlock] at hk
      subst hk
      rcases hgg with h | h
      · exact .inl h
      · exact .inr (by omega)
  clear hown4 hgrow hgg hK4 hw2 hw4
  go_wp2
  go_ret
  exact ⟨rfl, unhide HF, (unhide HKK).mono (fun k _ h => h.elim .inl (fun h => .inr (.inl h)))⟩
theorem made_any (base wp : Nat) (ps : List PS) (rv : Value) (site : Int) (w : World) (h : WorldAt base wp ps rv w) (hl : ps.length ≤ 10000000000000) (hbase : base ≤ w.heap.size) :
    Calls Tryz.prog 12 #[.pointer (some ⟨wp, 0, none⟩), .int .i64 site] w fun e w' => e = .returned (.bool true) ∧ (∃ ps' rv', ps'.length ≤ ps.length + 1 ∧ WorldAt base wp ps' rv' w') ∧ Keeps (WFoot wp ps rv) w w' := by
  by_cases h1 : 1 ≤ site ∧ site ≤ 9
  · refine (made_ok base wp ps rv site w h h1.1 h1.2 hl hbase).mono ?_
    rintro e w' ⟨he, ⟨p, rv', hW⟩, hb⟩
    exact ⟨he, ⟨_, _, by simp, hW⟩, hb⟩
  · refine (made_bad base wp ps rv site w h (by omega)).mono ?_
    rintro e w' ⟨he, hW, hb⟩
    exact ⟨he, ⟨_, _, by omega, hW⟩, Keeps.of_below hb (fun k h1 h2 => by omega)⟩
/-- What a step leaves: it is as the document says; the world goes on. -/
def StepPost (base wp : Nat) (ps : List PS) (rv : Value) (w : World) (e : Ending) (w' : World) : Prop := e = .returned (.bool true) ∧ (∃ ps' rv', ps'.length ≤ ps.length + 1 ∧ WorldAt base wp ps' rv' w') ∧ Keeps (WFoot wp ps rv) w w'
theorem keeps_alloc {S : Nat → Prop} {w w' : World} {o : Obj} (h : Keeps S (w.alloc o) w') : Keeps S w w' :=
  (Keeps.of_below (S := S) ((Below.refl w.heap.size w).alloc (Nat.le_refl _) o) (fun k h1 h2 => by omega)).trans h (fun _ _ h => h)
set_option maxHeartbeats 1000000 in
theorem step_new (base wp : Nat) (ps : List PS) (rv : Value) (x y : Int) (s t : ByteArray) (w : World) (h : WorldAt base wp ps rv w) (hl : ps.length ≤ 10000000000000) (hbase : base ≤ w.heap.size) :
    Calls Tryz.prog 10 #[.pointer (some ⟨wp, 0, none⟩), .agg #[.int .i64 4, .int .i64 x, .int .i64 y, .string s, .string t]] w (StepPost base wp ps rv w) := by
  have hb0 := (Below.refl w.heap.size w).alloc (Nat.le_refl _) (.cells #[.int .i64 4, .int .i64 x, .int .i64 y, .string s, .string t] 30)
  have HM := hide (made_any base wp ps rv x _ (world_below h hb0) hl (by simp; omega))
  clear h hb0
  go_enter Tryz.func10, Tryz.ntmps10
  go_wp2_with fail
  refine (unhide HM).mono ?_
  rintro e w1 ⟨rfl, hW, hb1⟩
  have HW := hide hW; clear hW
  have HB1 := hide (keeps_alloc hb1)
  clear hb1
  go_wp2
  go_ret
  exact ⟨rfl, unhide HW, unhide HB1⟩
theorem world_new (w : World) (ty : TypeId) (ht : ty = 28) : WorldAt w.heap.size w.heap.size [] (.slice none 0 0) (w.alloc (.cells #[.slice none 0 0] ty)) := by
  subst ht
  exact ⟨heap_alloc_new w _, World.ownsRow_nil _ _ _ _, by simp, fun i j hi => by simp at hi, Nat.le_refl _, fun k hk => by simp [Value.ownBlock] at hk, by simp⟩
/-- The step's own copy stays behind it. -/
theorem op_stays {base wp : Nat} {ps : List PS} {rv : Value} {w w' : World} {c0 c1 c2 c3 c4 : Value} {ty : TypeId} (h : WorldAt base wp ps rv w) (hk : Keeps (WFoot wp ps rv) (w.alloc (.cells #[c0, c1, c2, c3, c4] ty)) w') : w'.cell? ⟨w.heap.size, 0, none⟩ = some c0 := by
  have hb : w'.heap[w.heap.size]? = some (.cells #[c0, c1, c2, c3, c4] ty) := by
    rw [hk.block w.heap.size (by simp) (fun e => by have := wfoot_lt h e; omega)]; exact heap_alloc_new w _
  rw [cell_of_row w' w.heap.size 0 _ _ _ hb]; rfl
set_option maxHeartbeats 2000000 in
theorem upto_news (ao : Option Addr) (len cap : Nat) (w : World) (hops : OpsAt w ao len) (hlen : len ≤ 10000000000000) :
    Calls Tryz.prog 9 #[.slice ao len cap, .int .i64 4, .int .i64 4, .int .i64 4, .int .i64 4] w fun e w' => e = .returned (.int .i64 (-1)) ∧ Below w.heap.size w w' := by
  have HO := hide hops; clear hops
  have HW0 := hide (world_new w _ rfl)
  go_enter Tryz.func9, Tryz.ntmps9
  go_wp2
  go_loopw [12] (fun i wr => ∃ k : Nat, k ≤ len ∧ i = .int .i64 k ∧ Below w.heap.size w wr ∧ Hid (∃ ps rv, ps.length ≤ k ∧ WorldAt w.heap.size w.heap.size ps rv wr)) (fun i _ => len - (intOf i).toNat)
  case atStart => exact ⟨0, Nat.zero_le _, rfl, (Below.refl _ _).alloc (Nat.le_refl _) _, hide ⟨[], _, by simp, unhide HW0⟩⟩
  case round =>
    obtain ⟨k, hk, rfl, hbel, HW⟩ := hrel
    have hsz := hbel.size
    by_cases hlt : k < len
    · obtain ⟨b, off, hao, hb, hcells⟩ := unhide HO (by omega)
      obtain ⟨kd, x, y, s, t, e0, e1, e2, e3, e4⟩ := hcells k hlt
      clear hcells
      rw [← hbel.cell (p := ⟨b, _, none⟩) hb] at e0 e1 e2 e3 e4
      rw [hao]
      clear hao
      have hB1 := (Below.refl wr.heap.size wr).alloc (Nat.le_refl _) (.cells #[.int .i64 kd, .int .i64 x, .int .i64 y, .string s, .string t] 30)
      have HB1 := hide (hbel.trans (hB1.mono hsz))
      obtain ⟨ps, rv, hpl, hW⟩ := unhide HW
      have HW0' := hide hW
      have HW1 := hide (world_below hW hB1)
      clear hW hB1 HW
      by_cases h1 : kd = 4
      · subst h1
        have HS := hide (step_new w.heap.size w.heap.size ps rv x y s t _ (unhide HW1) (by omega) (by simp; omega))
        go_wp2_with fail
        refine (unhide HS).mono ?_
        rintro e w2 ⟨rfl, ⟨ps', rv', hpl', hW2⟩, hk2⟩
        have hop := op_stays (unhide HW0') hk2
        have HB2 : Hid (Below w.heap.size w w2) := hide ((unhide HB1).trans (wfoot_below (unhide HW1) (by simp; omega) hk2))
        have HW2 := hide (show ∃ ps rv, ps.length ≤ k + 1 ∧ WorldAt w.heap.size w.heap.size ps rv w2 from ⟨ps', rv', by omega, hW2⟩)
        clear hk2 hW2 e0 e1 e2 e3 e4
        go_wp2
        go_roundw
        case rel => exact ⟨k + 1, by omega, by go_num, unhide HB2, HW2⟩
        case measure => simp [intOf]; omega
      · have HWX := hide (show ∃ ps rv, ps.length ≤ k + 1 ∧ WorldAt w.heap.size w.heap.size ps rv _ from ⟨ps, rv, by omega, unhide HW1⟩)
        have h12 : kd < 4 ∨ 4 < kd := by omega
        clear h1
        rcases h12 with h1 | h1
        all_goals
          go_wp2
          go_roundw
          case rel => exact ⟨k + 1, by omega, by go_num, unhide HB1, HWX⟩
          case measure => simp [intOf]; omega
    · go_wp2
      go_ret
      exact ⟨rfl, hbel⟩
set_option maxHeartbeats 1000000 in
theorem news_any (ao : Option Addr) (len cap : Nat) (w : World) (hops : OpsAt w ao len) (hlen : len ≤ 10000000000000) :
    Calls Tryz.prog 6 #[.slice ao len cap] w fun e w' => e = .returned (.bool true) ∧ Below w.heap.size w w' := by
  have HU := hide (upto_news ao len cap w hops hlen)
  clear hops
  go_enter Tryz.func6, Tryz.ntmps6
  go_wp2_with fail
  refine (unhide HU).mono ?_
  rintro e w1 ⟨rfl, hb1⟩
  go_wp2
  go_ret
  exact ⟨rfl, hb1⟩
end Go.Proofs.YtkjancfakplogaaGreatDoor
