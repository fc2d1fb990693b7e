import Derived.Test.YtdcjimlhaklhfabGreatDoorHi15
namespace Go.Proofs.YtdcjimlhaklhfabGreatDoor
open Go.RowKit
/-- The steps, their numbers within an int. -/
def OpsR (w : World) (ao : Option Addr) (len : Nat) : Prop :=
  0 < len → ∃ b off, ao = some ⟨b, off, none⟩ ∧ b < w.heap.size ∧ ∀ i, i < len → ∃ (k x y : Int) (s t : ByteArray), ((-9223372036854775808 ≤ x ∧ x ≤ 9223372036854775807) ∧ -9223372036854775808 ≤ y ∧ y ≤ 9223372036854775807) ∧
    w.cell? ⟨b, off + i * 5, none⟩ = some (.int .i64 k) ∧ w.cell? ⟨b, off + i * 5 + 1, none⟩ = some (.int .i64 x) ∧ w.cell? ⟨b, off + i * 5 + 2, none⟩ = some (.int .i64 y) ∧ w.cell? ⟨b, off + i * 5 + 3, none⟩ = some (.string s) ∧ w.cell? ⟨b, off + i * 5 + 4, none⟩ = some (.string t)
theorem world_drewN {base wp : Nat} {ps : List PS} {rv : Value} {w : World} (h : WorldAt base wp ps rv w) (n : Nat) : WorldAt base wp ps rv (w.drewN n) := world_below h (below_drewN (Below.refl _ _) n)
/-- From a pair's call to the script's world. -/
theorem step_of_pair {base wp : Nat} {ps : List PS} {rv : Value} {w W w' : World} {e : Ending} (h : WorldAt base wp ps rv W) (hb : base ≤ W.heap.size) (hw : Below w.heap.size w W) {i : Nat} (hi : i < ps.length) (hp : PairPost ps[i] W e w') : StepPost base wp ps rv w e w' := by
  obtain ⟨he, p', hpb, hok, hk, hf⟩ := hp
  refine ⟨he, ⟨ps.set i p', rv, by simp, world_set h hi hpb hok hk hf hb⟩, ?_⟩
  exact (Keeps.of_below (S := WFoot wp ps rv) hw (fun k h1 h2 => by omega)).trans hk (fun k _ h1 => .inr (.inr ⟨_, List.getElem_mem hi, h1⟩))
theorem step_of_below {base wp : Nat} {ps : List PS} {rv : Value} {w W w' : World} {e : Ending} (h : WorldAt base wp ps rv W) (hw : Below w.heap.size w W) (he : e = .returned (.bool true)) (hb : Below W.heap.size W w') : StepPost base wp ps rv w e w' :=
  ⟨he, ⟨ps, rv, by omega, world_below h hb⟩, Keeps.of_below (hw.trans (hb.mono hw.size)) (fun k h1 h2 => by omega)⟩
theorem rv_cell {base wp : Nat} {ps : List PS} {ro : Option Addr} {rc : Nat} {w : World} (h : WorldAt base wp ps (.slice ro ps.length rc) w) {i : Nat} (hi : i < ps.length) : ∃ g, ro = some ⟨g, 0, none⟩ ∧ g < w.heap.size ∧ w.cell? ⟨g, i, none⟩ = some (.pointer (some ⟨(ps[i]).pb, 0, none⟩)) := by
  have hr := row_of' h.2.1
  obtain ⟨g, h1, h2, h3⟩ := hr.2 (by omega)
  exact ⟨g, h1, h2, h3 i _ (by simp [hi, ptrV])⟩
def FiveAt (w : World) (g : Nat) (a b c d e : Value) : Prop := w.cell? ⟨g, 0, none⟩ = some a ∧ w.cell? ⟨g, 1, none⟩ = some b ∧ w.cell? ⟨g, 2, none⟩ = some c ∧ w.cell? ⟨g, 3, none⟩ = some d ∧ w.cell? ⟨g, 4, none⟩ = some e
theorem five_new (w : World) (a b c d e : Value) (t : TypeId) : FiveAt (w.alloc (.cells #[a, b, c, d, e] t)) w.heap.size a b c d e :=
  ⟨news_five _ _ _ _ _ _ 0 _ rfl, news_five _ _ _ _ _ _ 1 _ rfl, news_five _ _ _ _ _ _ 2 _ rfl, news_five _ _ _ _ _ _ 3 _ rfl, news_five _ _ _ _ _ _ 4 _ rfl⟩
theorem cell_lt' {W : World} {a : Addr} {v : Value} (h : W.cell? a = some v) : a.block < W.heap.size := by
  rcases Nat.lt_or_ge a.block W.heap.size with hh | hh
  · exact hh
  · unfold World.cell? at h
    rw [Array.getElem?_eq_none hh] at h
    split at h <;> simp_all
set_option maxHeartbeats 2000000 in
theorem step_none (base wp : Nat) (rv : Value) (kd x y : Int) (s t : ByteArray) (w : World) (h : WorldAt base wp [] rv w) (h4 : 4 < kd) :
    Calls Tryz.prog 24 #[.pointer (some ⟨wp, 0, none⟩), .agg #[.int .i64 kd, .int .i64 x, .int .i64 y, .string s, .string t]] w (StepPost base wp [] rv w) := by
  have hb0 := (Below.refl w.heap.size w).alloc (Nat.le_refl _) (.cells #[.int .i64 kd, .int .i64 x, .int .i64 y, .string s, .string t] 60)
  obtain ⟨ro, rc, rfl, _⟩ := row_of_owns h.2.1
  have HW := hide (world_below h hb0)
  have c0 := world_cell h
  have hwl := world_lt h
  have hwn : ¬ wp = w.heap.size := by omega
  have HB0 := hide hb0
  clear h hb0
  have k1 : decide (kd < 4) = false := by simp; omega
  have k2 : (kd == 4) = false := by simp; omega
  simp only [List.length_nil] at c0
  go_enter Tryz.func24, Tryz.ntmps24
  go_wp2
  go_ret
  exact step_of_below (unhide HW) (unhide HB0) rfl (Below.refl _ _)
set_option maxHeartbeats 4000000 in
set_option maxRecDepth 100000 in
theorem step_pair (base wp : Nat) (ps : List PS) (rv : Value) (kd x y : Int) (s t : ByteArray) (w : World) (h : WorldAt base wp ps rv w) (hpos : 0 < ps.length) (hl : ps.length ≤ 10000000000000) (hbase : base ≤ w.heap.size) (htab : ∀ W, Keeps (WFoot wp ps rv) w W → Tab W) (hk5 : 5 ≤ kd) (hk8 : kd ≤ 11) (hss : s.size ≤ 1048576) (hx : -9223372036854775808 ≤ x ∧ x ≤ 9223372036854775807) (hy : -9223372036854775808 ≤ y ∧ y ≤ 9223372036854775807) :
    Calls Tryz.prog 24 #[.pointer (some ⟨wp, 0, none⟩), .agg #[.int .i64 kd, .int .i64 x, .int .i64 y, .string s, .string t]] w (StepPost base wp ps rv w) := by
  have hb0 := (Below.refl w.heap.size w).alloc (Nat.le_refl _) (.cells #[.int .i64 kd, .int .i64 x, .int .i64 y, .string s, .string t] 60)
  obtain ⟨ro, rc, rfl, _⟩ := row_of_owns h.2.1
  have HW := hide (world_below h hb0)
  have c0 := world_cell h
  have hwl := world_lt h
  have hwn : ¬ wp = w.heap.size := by omega
  have HB0 := hide hb0
  have hi := pickT_lt x hpos
  have hj := pickT_lt y hpos
  obtain ⟨g, hro, hg, ci⟩ := rv_cell h hi
  obtain ⟨g', hro', _, cj⟩ := rv_cell h hj
  rw [hro] at hro'
  cases hro'
  have hgn : ¬ g = w.heap.size := by omega
  have HPX := hide (fun W => pick_any x ps.length W hpos hl hx.1 hx.2)
  have HPY := hide (fun W => pick_any y ps.length W hpos hl hy.1 hy.2)
  have HPJ : Hid (∀ W, WorldAt base wp ps (.slice ro ps.length rc) W → PairOk W ps[pickT y ps.length]) := hide (fun W hW => hW.2.2.1 _ (List.getElem_mem hj))
  have HBW : Hid (∀ W e w', WorldAt base wp ps (.slice ro ps.length rc) W → Below w.heap.size w W → e = .returned (.bool true) → Below W.heap.size W w' → StepPost base wp ps (.slice ro ps.length rc) w e w') := hide (fun W e w' h1 h2 h3 h4 => step_of_below h1 h2 h3 h4)
  have HTB := hide htab; clear htab
  have HTP : Hid (∀ W W', Below w.heap.size w W → Keeps (PFoot ps[pickT x ps.length]) W W' → Tab W') := hide (fun W W' h1 h2 => unhide HTB W' ((Keeps.of_below (S := WFoot wp ps (.slice ro ps.length rc)) h1 (fun k h1 h2 => by omega)).trans h2 (fun k _ hf => .inr (.inr ⟨_, List.getElem_mem hi, hf⟩))))
  have HTBW : Hid (∀ W, Below w.heap.size w W → Tab W) := hide (fun W h1 => unhide HTB W (Keeps.of_below h1 (fun k h1 h2 => by omega)))
  clear HTB
  have HFIN : Hid (∀ W e w', WorldAt base wp ps (.slice ro ps.length rc) W → Below w.heap.size w W → PairPost ps[pickT x ps.length] W e w' → StepPost base wp ps (.slice ro ps.length rc) w e w') := hide (fun W e w' h1 h2 h3 => step_of_pair h1 (by have := h2.size; omega) h2 hi h3)
  have HPK : Hid (∀ W, WorldAt base wp ps (.slice ro ps.length rc) W → PairOk W ps[pickT x ps.length]) := hide (fun W hW => hW.2.2.1 _ (List.getElem_mem hi))
  clear h hb0
  generalize ps[pickT x ps.length] = pi at *
  generalize ps[pickT y ps.length] = pj at *
  generalize pickT x ps.length = i at *
  generalize pickT y ps.length = j at *
  obtain ⟨N, hN⟩ : ∃ N, N = ps.length := ⟨_, rfl⟩
  have hne : ((N : Int) == 0) = false := by simp; omega
  have hi0 : (0 : Int) ≤ i := by omega
  have hi1 : (i : Int) < N := by omega
  have hj0 : (0 : Int) ≤ j := by omega
  have hj1 : (j : Int) < N := by omega
  rw [← hN] at HPX HPY HFIN HPK HPJ HBW HW c0 ⊢
  rw [hro] at HFIN HPK HPJ HBW HW c0 ⊢
  have k1 : decide (kd < 4) = false := by simp; omega
  have k2 : (kd == 4) = false := by simp; omega
  have k3 : decide (11 < kd) = false := by simp; omega
  have HN := hide hN
  clear hN hro
  have HOC : Hid (FiveAt (w.alloc (.cells #[.int .i64 kd, .int .i64 x, .int .i64 y, .string s, .string t] 60)) w.heap.size (.int .i64 kd) (.int .i64 x) (.int .i64 y) (.string s) (.string t)) := hide (five_new _ _ _ _ _ _ _)
  have e0 : (w.alloc (.cells #[.int .i64 kd, .int .i64 x, .int .i64 y, .string s, .string t] 60)).cell? ⟨wp, 0, none⟩ = some (.slice (some ⟨g, 0, none⟩) N rc) := ((unhide HB0).cell (p := ⟨wp, 0, none⟩) hwl).trans c0
  have ei := ((unhide HB0).cell (p := ⟨g, i, none⟩) hg).trans ci
  have ej := ((unhide HB0).cell (p := ⟨g, j, none⟩) hg).trans cj
  clear ci cj c0
  go_enter Tryz.func24, Tryz.ntmps24
  go_upto_region 7 with fail
  generalize w.alloc (.cells #[.int .i64 kd, .int .i64 x, .int .i64 y, .string s, .string t] 60) = wl at *
  obtain ⟨f0, f1, f2, f3, f4⟩ := unhide HOC
  go_quiet ((go_at_call 44; exact Calls.quiet_of_same (unhide HPX _)))
  have E0 := hide e0
  have EJ := hide ej
  have HW2 : Hid (WorldAt base wp ps (.slice (some ⟨g, 0, none⟩) N rc) (wl.drewN nq)) := hide (world_drewN (unhide HW) nq)
  have HB2 : Hid (Below w.heap.size w (wl.drewN nq)) := hide (below_drewN (unhide HB0) nq)
  have HOC2 : Hid (FiveAt (wl.drewN nq) w.heap.size (.int .i64 kd) (.int .i64 x) (.int .i64 y) (.string s) (.string t)) := hide (unhide HOC)
  have E02 : Hid ((wl.drewN nq).cell? ⟨wp, 0, none⟩ = some (.slice (some ⟨g, 0, none⟩) N rc)) := hide e0
  have EJ2 : Hid ((wl.drewN nq).cell? ⟨g, j, none⟩ = some (.pointer (some ⟨pj.pb, 0, none⟩))) := hide ej
  clear e0 ei ej f0 f1 f2 f3 f4 E0 EJ HW HB0 HOC
  generalize wl.drewN nq = w2 at *
  have e0 := unhide E02
  have ej := unhide EJ2
  obtain ⟨f0, f1, f2, f3, f4⟩ := unhide HOC2
  go_upto_region 8 with fail
  go_quiet ((go_at_call 44; exact Calls.quiet_of_same (unhide HPY _)))
  have HW3 : Hid (WorldAt base wp ps (.slice (some ⟨g, 0, none⟩) N rc) (w2.drewN nq)) := hide (world_drewN (unhide HW2) nq)
  have HB3 : Hid (Below w.heap.size w (w2.drewN nq)) := hide (below_drewN (unhide HB2) nq)
  have HOC3 : Hid (FiveAt (w2.drewN nq) w.heap.size (.int .i64 kd) (.int .i64 x) (.int .i64 y) (.string s) (.string t)) := hide (unhide HOC2)
  clear e0 ej f0 f1 f2 f3 f4 E02 EJ2 HW2 HB2 HOC2
  generalize w2.drewN nq = w3 at *
  obtain ⟨f0, f1, f2, f3, f4⟩ := unhide HOC3
  have HPI := hide (unhide HPK _ (unhide HW3))
  have HPJ3 := hide (unhide HPJ _ (unhide HW3))
  clear HPX HPY HPK HPJ k1 k2 k3
  rcases (show kd = 5 ∨ kd = 6 ∨ kd = 7 ∨ kd = 8 ∨ kd = 9 ∨ kd = 10 ∨ kd = 11 by omega) with rfl | rfl | rfl | rfl | rfl | rfl | rfl
  · have HD := hide (pdelivered_any pi s w3 (unhide HPI))
    go_wp2_with fail
    refine (unhide HD).mono ?_
    rintro e w4 hpp
    have HF := hide (unhide HFIN w3 e w4 (unhide HW3) (unhide HB3) hpp)
    obtain ⟨rfl, _⟩ := hpp
    go_wp2
    go_ret
    exact unhide HF
  · have c2 := (unhide HPJ3).cell2
    obtain ⟨uo, uc, hu, hrow⟩ := row_of_owns (unhide HPJ3).log
    rw [hu] at c2
    have hll := (unhide HPJ3).rep.ok.2.2
    have HWR := hide (written_any pj.L uo uc w3 hrow (unhide HPJ3).rep.ok.2.1 (by omega))
    clear hrow hu hll
    generalize bs (logText pj.L) = tx at *
    go_wp2_with fail
    refine (unhide HWR).mono ?_
    rintro e w4 ⟨rfl, hb4⟩
    have HW4 := hide (world_below (unhide HW3) hb4)
    have HB4 := hide ((unhide HB3).trans (hb4.mono (unhide HB3).size))
    have HPI4 := hide ((unhide HPI).kept (Keeps.of_below (S := fun _ => False) hb4 (fun k h1 h2 => by omega)) (fun _ _ e => e))
    have HD := hide (pdelivered_any pi tx w4 (unhide HPI4))
    clear hb4 c2
    go_wp2_with fail
    refine (unhide HD).mono ?_
    rintro e w5 hpp
    have HF := hide (unhide HFIN w4 e w5 (unhide HW4) (unhide HB4) hpp)
    obtain ⟨rfl, _⟩ := hpp
    go_wp2
    go_ret
    exact unhide HF
  · have HD := hide (shows_log pi w3 (unhide HPI) (unhide HTBW _ (unhide HB3)))
    go_wp2_with fail
    refine (unhide HD).mono ?_
    rintro e w4 ⟨rfl, hb4⟩
    have HF := hide (unhide HBW w3 _ w4 (unhide HW3) (unhide HB3) rfl hb4)
    clear hb4
    go_wp2
    go_ret
    exact unhide HF
  · have HD := hide (shows_export pi 8 w3 (unhide HPI) (by decide))
    go_wp2_with fail
    refine (unhide HD).mono ?_
    rintro e w4 ⟨rfl, hb4⟩
    have HF := hide (unhide HBW w3 _ w4 (unhide HW3) (unhide HB3) rfl hb4)
    clear hb4
    go_wp2
    go_ret
    exact unhide HF
  · have HD := hide (pingested_any pi s w3 (unhide HPI) (fun W hk => unhide HTP w3 W (unhide HB3) hk))
    go_wp2_with fail
    refine (unhide HD).mono ?_
    rintro e w4 hpp
    have HF := hide (unhide HFIN w3 e w4 (unhide HW3) (unhide HB3) hpp)
    obtain ⟨rfl, _⟩ := hpp
    go_wp2
    go_ret
    exact unhide HF
  · have c2 := (unhide HPI).cell2
    obtain ⟨uo, uc, hu, hrow⟩ := row_of_owns (unhide HPI).log
    rw [hu] at c2
    have hll := (unhide HPI).rep.ok.2.2
    have HVW := hide (rview_any pi.L uo uc w3 hrow (unhide HPI).rep.ok.2.1 (by omega))
    have HRP := hide (viewR_rep (unhide HPI).rep.ok.2.1)
    have HVV := hide (view_valid (places_ok (unhide HPI).rep.ok.2.1))
    clear hrow hu hll
    generalize viewR pi.L = vr at *
    go_wp2_with fail
    refine (unhide HVW).mono ?_
    rintro e w4 ⟨fo, cf, rfl, hr4, hb4⟩
    have HLA : Hid (ListAt w4 (.slice fo vr.length cf)) := hide ⟨fo, cf, vr, _, rfl, hr4, unhide HRP, unhide HVV⟩
    have HW4 := hide (world_below (unhide HW3) hb4)
    have HB4 := hide ((unhide HB3).trans (hb4.mono (unhide HB3).size))
    have g3 : w4.cell? ⟨w.heap.size, 3, none⟩ = some (.string s) := (hb4.cell (p := ⟨w.heap.size, 3, none⟩) (cell_lt' f3)).trans f3
    have HPI4 := hide ((unhide HPI).kept (Keeps.of_below (S := fun _ => False) hb4 (fun k h1 h2 => by omega)) (fun _ _ e => e))
    clear hb4 c2 hr4 f0 f1 f2 f3 f4
    go_wp2_with fail
    refine (redited_any _ s w4 (unhide HLA) hss).mono ?_
    rintro e w5 ⟨⟨tx, rfl⟩, hb5⟩
    have HW5 := hide (world_below (unhide HW4) hb5)
    have HB5 := hide ((unhide HB4).trans (hb5.mono (unhide HB4).size))
    have HPI5 := hide ((unhide HPI4).kept (Keeps.of_below (S := fun _ => False) hb5 (fun k h1 h2 => by omega)) (fun _ _ e => e))
    clear hb5 g3
    have HD := hide (pingested_any pi tx w5 (unhide HPI5) (fun W hk => unhide HTP w5 W (unhide HB5) hk))
    go_wp2_with fail
    refine (unhide HD).mono ?_
    rintro e w6 hpp
    have HF := hide (unhide HFIN w5 e w6 (unhide HW5) (unhide HB5) hpp)
    obtain ⟨rfl, _⟩ := hpp
    go_wp2
    go_ret
    exact unhide HF
  · have HVW := hide (pview_any pj w3 (unhide HPJ3))
    generalize bs (textT (viewT (places pj.L))) = tx at *
    go_wp2_with fail
    refine (unhide HVW).mono ?_
    rintro e w4 ⟨rfl, hb4⟩
    have HW4 := hide (world_below (unhide HW3) hb4)
    have HB4 := hide ((unhide HB3).trans (hb4.mono (unhide HB3).size))
    have HPI4 := hide ((unhide HPI).kept (Keeps.of_below (S := fun _ => False) hb4 (fun k h1 h2 => by omega)) (fun _ _ e => e))
    have HD := hide (pingested_any pi tx w4 (unhide HPI4) (fun W hk => unhide HTP w4 W (unhide HB4) hk))
    clear hb4
    go_wp2_with fail
    refine (unhide HD).mono ?_
    rintro e w5 hpp
    have HF := hide (unhide HFIN w4 e w5 (unhide HW4) (unhide HB4) hpp)
    obtain ⟨rfl, _⟩ := hpp
    go_wp2
    go_ret
    exact unhide HF
end Go.Proofs.YtdcjimlhaklhfabGreatDoor

namespace Go.Proofs.YtdcjimlhaklhfabGreatDoor
open Go.RowKit
/-- The steps, their numbers within an int, their texts not too great. -/
def OpsU (w : World) (ao : Option Addr) (len : Nat) : Prop :=
  0 < len → ∃ b off, ao = some ⟨b, off, none⟩ ∧ b < w.heap.size ∧ ∀ i, i < len → ∃ (k x y : Int) (s t : ByteArray), (((-9223372036854775808 ≤ x ∧ x ≤ 9223372036854775807) ∧ -9223372036854775808 ≤ y ∧ y ≤ 9223372036854775807) ∧ s.size ≤ 1048576) ∧
    w.cell? ⟨b, off + i * 5, none⟩ = some (.int .i64 k) ∧ w.cell? ⟨b, off + i * 5 + 1, none⟩ = some (.int .i64 x) ∧ w.cell? ⟨b, off + i * 5 + 2, none⟩ = some (.int .i64 y) ∧ w.cell? ⟨b, off + i * 5 + 3, none⟩ = some (.string s) ∧ w.cell? ⟨b, off + i * 5 + 4, none⟩ = some (.string t)
set_option maxHeartbeats 1000000 in
theorem plain_other (kd x y : Int) (s t : ByteArray) (w : World) (h1 : kd ≠ 1) (h2 : kd ≠ 2) (h3 : kd ≠ 3) :
    Calls Tryz.prog 42 #[.agg #[.int .i64 kd, .int .i64 x, .int .i64 y, .string s, .string t]] w fun e w' => e = .returned (.bool true) ∧ Below w.heap.size w w' := by
  have k1 : (kd == 1) = false := by simpa using h1
  have k2 : (kd == 2) = false := by simpa using h2
  have k3 : (kd == 3) = false := by simpa using h3
  clear h1 h2 h3
  go_enter Tryz.func42, Tryz.ntmps42
  go_wp2
  go_ret
  exact ⟨rfl, (Below.refl _ _).alloc (Nat.le_refl _) _⟩
set_option maxHeartbeats 1000000 in
theorem step_other (v : Value) (kd x y : Int) (s t : ByteArray) (w : World) (h4 : kd < 4) (h1 : kd ≠ 1) (h2 : kd ≠ 2) (h3 : kd ≠ 3) :
    Calls Tryz.prog 24 #[v, .agg #[.int .i64 kd, .int .i64 x, .int .i64 y, .string s, .string t]] w fun e w' => e = .returned (.bool true) ∧ Below w.heap.size w w' := by
  have k1 : decide (kd < 4) = true := by simpa using h4
  have HP := hide (fun W => plain_other kd x y s t W h1 h2 h3)
  clear h1 h2 h3 h4
  go_enter Tryz.func24, Tryz.ntmps24
  go_wp2_with fail
  refine (unhide HP _).mono ?_
  rintro e w1 ⟨rfl, hb1⟩
  have HB := hide (((Below.refl w.heap.size w).alloc (Nat.le_refl _) _).trans (hb1.mono (by simp)))
  clear hb1
  go_wp2
  go_ret
  exact ⟨rfl, unhide HB⟩
set_option maxHeartbeats 1000000 in
theorem step_over (base wp : Nat) (ps : List PS) (rv : Value) (kd x y : Int) (s t : ByteArray) (w : World) (h : WorldAt base wp ps rv w) (h11 : 11 < kd) (hpos : 0 < ps.length) :
    Calls Tryz.prog 24 #[.pointer (some ⟨wp, 0, none⟩), .agg #[.int .i64 kd, .int .i64 x, .int .i64 y, .string s, .string t]] w (StepPost base wp ps rv w) := by
  have hb0 := (Below.refl w.heap.size w).alloc (Nat.le_refl _) (.cells #[.int .i64 kd, .int .i64 x, .int .i64 y, .string s, .string t] 60)
  obtain ⟨ro, rc, rfl, _⟩ := row_of_owns h.2.1
  have HF := hide (step_of_below (e := .returned (.bool true)) (w' := w.alloc (.cells #[.int .i64 kd, .int .i64 x, .int .i64 y, .string s, .string t] 60)) (world_below h hb0) hb0 rfl (Below.refl _ _))
  have c0 := world_cell h
  have hwl := world_lt h
  have hwn : ¬ wp = w.heap.size := by omega
  clear h hb0
  have k1 : decide (kd < 4) = false := by simp; omega
  have k2 : (kd == 4) = false := by simp; omega
  have k3 : decide (11 < kd) = true := by simpa using h11
  generalize ps.length = N at *
  have hne : ((N : Int) == 0) = false := by rw [beq_eq_false_iff_ne]; omega
  go_enter Tryz.func24, Tryz.ntmps24
  go_wp2
  go_ret
  exact unhide HF
theorem step_any (base wp : Nat) (ps : List PS) (rv : Value) (kd x y : Int) (s t : ByteArray) (w : World) (h : WorldAt base wp ps rv w) (hl : ps.length ≤ 10000000000000) (hbase : base ≤ w.heap.size) (htab : ∀ W, Keeps (WFoot wp ps rv) w W → Tab W) (hss : s.size ≤ 1048576) (hx : -9223372036854775808 ≤ x ∧ x ≤ 9223372036854775807) (hy : -9223372036854775808 ≤ y ∧ y ≤ 9223372036854775807) :
    Calls Tryz.prog 24 #[.pointer (some ⟨wp, 0, none⟩), .agg #[.int .i64 kd, .int .i64 x, .int .i64 y, .string s, .string t]] w (StepPost base wp ps rv w) := by
  have hpl : ∀ (e : Ending) w', (e = .returned (.bool true) ∧ Below w.heap.size w w') → StepPost base wp ps rv w e w' := fun e w' hh => step_of_below h (Below.refl _ _) hh.1 hh.2
  by_cases h4 : kd < 4
  · by_cases h1 : kd = 1
    · subst h1; exact (step_check _ x y s t w).mono hpl
    · by_cases h2 : kd = 2
      · subst h2; exact (step_apply _ x y s t w).mono hpl
      · by_cases h3 : kd = 3
        · subst h3; exact (step_compile _ x y s t w).mono hpl
        · exact (step_other _ kd x y s t w h4 h1 h2 h3).mono hpl
  · by_cases e4 : kd = 4
    · subst e4; exact step_new base wp ps rv x y s t w h hl hbase
    · cases ps with
      | nil => exact step_none base wp rv kd x y s t w h (by omega)
      | cons p ps =>
        by_cases h11 : kd ≤ 11
        · exact step_pair base wp (p :: ps) rv kd x y s t w h (by simp) hl hbase htab (by omega) h11 hss hx hy
        · exact step_over base wp (p :: ps) rv kd x y s t w h (by omega) (by simp)
/-- The table stands in every world of the script. -/
theorem tab_world {wp : Nat} {ps : List PS} {rv : Value} {w0 w W : World} (ht : Tab w0) (hb : Below w0.heap.size w0 w) (h : WorldAt w0.heap.size wp ps rv w) (hk : Keeps (WFoot wp ps rv) w W) : Tab W :=
  tab_below ht (hb.trans (wfoot_below h hb.size hk))
end Go.Proofs.YtdcjimlhaklhfabGreatDoor

namespace Go.Proofs.YtdcjimlhaklhfabGreatDoor
open Go.RowKit
set_option maxHeartbeats 4000000 in
theorem upto_ingests (ao : Option Addr) (len cap : Nat) (w : World) (hops : OpsU w ao len) (hlen : len ≤ 10000000000000) (htab : Tab w) :
    Calls Tryz.prog 8 #[.slice ao len cap, .int .i64 4, .int .i64 11, .int .i64 9, .int .i64 11] w fun e w' => e = .returned (.int .i64 (-1)) ∧ Below w.heap.size w w' := by
  have HO := hide hops; clear hops
  have HTB := hide htab; clear htab
  have HW0 := hide (world_new w _ rfl)
  go_enter Tryz.func8, Tryz.ntmps8
  go_wp2
  go_loopw [12] (fun i wr => ∃ k : Nat, k ≤ len ∧ i = .int .i64 k ∧ Below w.heap.size w wr ∧ Hid (∃ ps rv, ps.length ≤ k ∧ WorldAt w.heap.size w.heap.size ps rv wr)) (fun i _ => len - (intOf i).toNat)
  case atStart => exact ⟨0, Nat.zero_le _, rfl, (Below.refl _ _).alloc (Nat.le_refl _) _, hide ⟨[], _, by simp, unhide HW0⟩⟩
  case round =>
    obtain ⟨k, hk, rfl, hbel, HW⟩ := hrel
    have hsz := hbel.size
    by_cases hlt : k < len
    · obtain ⟨b, off, hao, hb, hcells⟩ := unhide HO (by omega)
      obtain ⟨kd, x, y, s, t, ⟨⟨hx, hy⟩, hss⟩, e0, e1, e2, e3, e4⟩ := hcells k hlt
      clear hcells
      rw [← hbel.cell (p := ⟨b, _, none⟩) hb] at e0 e1 e2 e3 e4
      rw [hao]
      clear hao
      have hB1 := (Below.refl wr.heap.size wr).alloc (Nat.le_refl _) (.cells #[.int .i64 kd, .int .i64 x, .int .i64 y, .string s, .string t] 60)
      have HB1 := hide (hbel.trans (hB1.mono hsz))
      obtain ⟨ps, rv, hpl, hW⟩ := unhide HW
      have HW0' := hide hW
      have HW1 := hide (world_below hW hB1)
      clear hW hB1 HW
      by_cases hin : 4 ≤ kd ∧ kd ≤ 11
      · have HS := hide (step_any w.heap.size w.heap.size ps rv kd x y s t _ (unhide HW1) (by omega) (by simp; omega) (fun W hk => tab_world (unhide HTB) (unhide HB1) (unhide HW1) hk) hss hx hy)
        clear hx hy hss
        rcases (show kd = 4 ∨ kd = 5 ∨ kd = 6 ∨ kd = 7 ∨ kd = 8 ∨ kd = 9 ∨ kd = 10 ∨ kd = 11 by omega) with rfl | rfl | rfl | rfl | rfl | rfl | rfl | rfl
        all_goals
          clear hin
          go_wp2_with fail
          refine (unhide HS).mono ?_
          rintro e w2 ⟨rfl, ⟨ps', rv', hpl', hW2⟩, hk2⟩
          have hop := op_stays (unhide HW0') hk2
          have HB2 : Hid (Below w.heap.size w w2) := hide ((unhide HB1).trans (wfoot_below (unhide HW1) (by simp; omega) hk2))
          have HW2 := hide (show ∃ ps rv, ps.length ≤ k + 1 ∧ WorldAt w.heap.size w.heap.size ps rv w2 from ⟨ps', rv', by omega, hW2⟩)
          clear hk2 hW2 e0 e1 e2 e3 e4
          go_wp2
          go_roundw
          case rel => exact ⟨k + 1, by omega, by go_num, unhide HB2, HW2⟩
          case measure => simp [intOf]; omega
      · have HWX := hide (show ∃ ps rv, ps.length ≤ k + 1 ∧ WorldAt w.heap.size w.heap.size ps rv _ from ⟨ps, rv, by omega, unhide HW1⟩)
        clear hx hy
        rcases (show kd < 4 ∨ 11 < kd by omega) with h1 | h1
        case' inl => have kq : decide (kd < 4) = true := by simpa using h1
        case' inr => have kq : decide (kd < 4) = false := by simp; omega
        all_goals
          clear hin
          go_wp2
          go_roundw
          case rel => exact ⟨k + 1, by omega, by go_num, unhide HB1, HWX⟩
          case measure => simp [intOf]; omega
    · go_wp2
      go_ret
      exact ⟨rfl, hbel⟩
set_option maxHeartbeats 1000000 in
theorem ingests_any (ao : Option Addr) (len cap : Nat) (w : World) (hops : OpsU w ao len) (hlen : len ≤ 10000000000000) (htab : Tab w) :
    Calls Tryz.prog 3 #[.slice ao len cap] w fun e w' => e = .returned (.bool true) ∧ Below w.heap.size w w' := by
  have HU := hide (upto_ingests ao len cap w hops hlen htab)
  clear hops htab
  go_enter Tryz.func3, Tryz.ntmps3
  go_wp2_with fail
  refine (unhide HU).mono ?_
  rintro e w1 ⟨rfl, hb1⟩
  go_wp2
  go_ret
  exact ⟨rfl, hb1⟩
set_option maxHeartbeats 4000000 in
theorem looks_any (base wp : Nat) (ps : List PS) (rv : Value) (w : World) (h : WorldAt base wp ps rv w) (hl : ps.length ≤ 10000000000000) (htab : Tab w) :
    Calls Tryz.prog 25 #[.pointer (some ⟨wp, 0, none⟩)] w fun e w' => e = .returned (.bool true) ∧ Below w.heap.size w w' := by
  obtain ⟨ro, rc, rfl, _⟩ := row_of_owns h.2.1
  have HH := hide h
  have HTB := hide htab
  have hwl := world_lt h
  have c0 := world_cell h
  have C0 := hide c0
  clear h htab c0
  obtain ⟨N, hN⟩ : ∃ N, N = ps.length := ⟨_, rfl⟩
  rw [← hN] at HH C0 hl
  go_enter Tryz.func25, Tryz.ntmps25
  go_wp2
  go_loopw [3] (fun i wr => ∃ k : Nat, k ≤ N ∧ i = .int .i64 k ∧ Hid (Below w.heap.size w wr)) (fun i _ => N - (intOf i).toNat)
  case atStart => exact ⟨0, Nat.zero_le _, rfl, hide (Below.refl _ _)⟩
  case round =>
    obtain ⟨k, hk, rfl, HB⟩ := hrel
    have d0 : wr.cell? ⟨wp, 0, none⟩ = some (.slice ro N rc) := ((unhide HB).cell (p := ⟨wp, 0, none⟩) hwl).trans (unhide C0)
    by_cases hlt : k < N
    · have hk2 : k < ps.length := by omega
      have hWr := world_below (unhide HH) (unhide HB)
      have hWr' : WorldAt base wp ps (.slice ro ps.length rc) wr := by rw [← hN]; exact hWr
      obtain ⟨g, hro, hg, ck⟩ := rv_cell hWr' hk2
      have HPK := hide (hWr.2.2.1 _ (List.getElem_mem hk2))
      have HRO := hide hro
      generalize ps[k] = p at *
      rw [hro] at d0
      clear hro hWr hWr'
      have HL := hide (shows_log p wr (unhide HPK) (tab_below (unhide HTB) (unhide HB)))
      have HE := hide (fun W (h : PairOk W p) => shows_export p 8 W h (by decide))
      go_wp2_with fail
      refine (unhide HL).mono ?_
      rintro e w2 ⟨rfl, hb2⟩
      have HP2 := hide ((unhide HPK).kept (Keeps.of_below (S := fun _ => False) hb2 (fun k h1 h2 => by omega)) (fun _ _ e => e))
      have HB2 := hide ((unhide HB).trans (hb2.mono (unhide HB).size))
      have f0 := ((unhide HB2).cell (p := ⟨wp, 0, none⟩) hwl).trans (unhide C0)
      rw [unhide HRO] at f0
      have fk : w2.cell? ⟨g, k, none⟩ = _ := (hb2.cell (p := ⟨g, k, none⟩) hg).trans ck
      clear hb2 d0 ck
      go_wp2_with fail
      refine (unhide HE _ (by exact unhide HP2)).mono ?_
      rintro e w3 ⟨rfl, hb3⟩
      have HB3 := hide ((unhide HB2).trans (hb3.mono (unhide HB2).size))
      clear hb3 f0 fk
      go_wp2
      go_roundw
      case rel => exact ⟨k + 1, by omega, by go_num, HB3⟩
      case measure => simp [intOf]; omega
    · go_wp2
      go_ret
      exact ⟨rfl, unhide HB⟩
set_option maxHeartbeats 4000000 in
theorem all_any (ao : Option Addr) (len cap : Nat) (w : World) (hops : OpsU w ao len) (hlen : len ≤ 10000000000000) (htab : Tab w) :
    Calls Tryz.prog 7 #[.slice ao len cap] w fun e w' => e = .returned (.bool true) ∧ Below w.heap.size w w' := by
  have HO := hide hops; clear hops
  have HTB := hide htab; clear htab
  have HW0 := hide (world_new w _ rfl)
  go_enter Tryz.func7, Tryz.ntmps7
  go_wp2
  go_loopw [4] (fun i wr => ∃ k : Nat, k ≤ len ∧ i = .int .i64 k ∧ Below w.heap.size w wr ∧ Hid (∃ ps rv, ps.length ≤ k ∧ WorldAt w.heap.size w.heap.size ps rv wr)) (fun i _ => len - (intOf i).toNat)
  case atStart => exact ⟨0, Nat.zero_le _, rfl, (Below.refl _ _).alloc (Nat.le_refl _) _, hide ⟨[], _, by simp, unhide HW0⟩⟩
  case round =>
    obtain ⟨k, hk, rfl, hbel, HW⟩ := hrel
    have hsz := hbel.size
    by_cases hlt : k < len
    · obtain ⟨b, off, hao, hb, hcells⟩ := unhide HO (by omega)
      obtain ⟨kd, x, y, s, t, ⟨⟨hx, hy⟩, hss⟩, e0, e1, e2, e3, e4⟩ := hcells k hlt
      clear hcells
      rw [← hbel.cell (p := ⟨b, _, none⟩) hb] at e0 e1 e2 e3 e4
      rw [hao]
      clear hao
      obtain ⟨ps, rv, hpl, hW⟩ := unhide HW
      have HW1 := hide hW
      clear hW HW
      have HS := hide (step_any w.heap.size w.heap.size ps rv kd x y s t _ (unhide HW1) (by omega) hsz (fun W hk => tab_world (unhide HTB) hbel (unhide HW1) hk) hss hx hy)
      clear hx hy hss
      go_wp2_with fail
      refine (unhide HS).mono ?_
      rintro e w2 ⟨rfl, ⟨ps', rv', hpl', hW2⟩, hk2⟩
      have hb2 : Below w.heap.size w w2 := hbel.trans (wfoot_below (unhide HW1) hsz hk2)
      have HB2 := hide hb2
      have HLK := hide (looks_any _ _ ps' rv' w2 hW2 (by omega) (tab_below (unhide HTB) hb2))
      have HW2 := hide hW2
      clear hk2 hW2 e0 e1 e2 e3 e4 hb2
      go_wp2_with fail
      refine (unhide HLK).mono ?_
      rintro e w3 ⟨rfl, hb3⟩
      have HB3 := hide ((unhide HB2).trans (hb3.mono (unhide HB2).size))
      have HW3 := hide (show ∃ ps rv, ps.length ≤ k + 1 ∧ WorldAt w.heap.size w.heap.size ps rv w3 from ⟨ps', rv', by omega, world_below (unhide HW2) hb3⟩)
      clear hb3
      go_wp2
      go_roundw
      case rel => exact ⟨k + 1, by omega, by go_num, unhide HB3, HW3⟩
      case measure => simp [intOf]; omega
    · go_wp2
      go_ret
      exact ⟨rfl, hbel⟩
end Go.Proofs.YtdcjimlhaklhfabGreatDoor
