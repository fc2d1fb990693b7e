import Derived.Test.YtkjancfakplogaaGreatDoorZDeli9
namespace Go.Proofs.YtkjancfakplogaaGreatDoor
open Go.RowKit
/-- The steps, their numbers within an int. -/
def OpsR (w : World) (ao : Option Addr) (len : Nat) : Prop :=
  0 < len → ∃ b off, ao = some ⟨b, off, none⟩ ∧ b < w.heap.size ∧ ∀ i, i < len → ∃ (k x y : Int) (s t : ByteArray), ((-9223372036854775808 ≤ x ∧ x ≤ 9223372036854775807) ∧ -9223372036854775808 ≤ y ∧ y ≤ 9223372036854775807) ∧
    w.cell? ⟨b, off + i * 5, none⟩ = some (.int .i64 k) ∧ w.cell? ⟨b, off + i * 5 + 1, none⟩ = some (.int .i64 x) ∧ w.cell? ⟨b, off + i * 5 + 2, none⟩ = some (.int .i64 y) ∧ w.cell? ⟨b, off + i * 5 + 3, none⟩ = some (.string s) ∧ w.cell? ⟨b, off + i * 5 + 4, none⟩ = some (.string t)
theorem world_drewN {base wp : Nat} {ps : List PS} {rv : Value} {w : World} (h : WorldAt base wp ps rv w) (n : Nat) : WorldAt base wp ps rv (w.drewN n) := world_below h (below_drewN (Below.refl _ _) n)
/-- From a pair's call to the script's world. -/
theorem step_of_pair {base wp : Nat} {ps : List PS} {rv : Value} {w W w' : World} {e : Ending} (h : WorldAt base wp ps rv W) (hb : base ≤ W.heap.size) (hw : Below w.heap.size w W) {i : Nat} (hi : i < ps.length) (hp : PairPost ps[i] W e w') : StepPost base wp ps rv w e w' := by
  obtain ⟨he, p', hpb, hok, hk, hf⟩ := hp
  refine ⟨he, ⟨ps.set i p', rv, by simp, world_set h hi hpb hok hk hf hb⟩, ?_⟩
  exact (Keeps.of_below (S := WFoot wp ps rv) hw (fun k h1 h2 => by omega)).trans hk (fun k _ h1 => .inr (.inr ⟨_, List.getElem_mem hi, h1⟩))
theorem step_of_below {base wp : Nat} {ps : List PS} {rv : Value} {w W w' : World} {e : Ending} (h : WorldAt base wp ps rv W) (hw : Below w.heap.size w W) (he : e = .returned (.bool true)) (hb : Below W.heap.size W w') : StepPost base wp ps rv w e w' :=
  ⟨he, ⟨ps, rv, by omega, world_below h hb⟩, Keeps.of_below (hw.trans (hb.mono hw.size)) (fun k h1 h2 => by omega)⟩
theorem rv_cell {base wp : Nat} {ps : List PS} {ro : Option Addr} {rc : Nat} {w : World} (h : WorldAt base wp ps (.slice ro ps.length rc) w) {i : Nat} (hi : i < ps.length) : ∃ g, ro = some ⟨g, 0, none⟩ ∧ g < w.heap.size ∧ w.cell? ⟨g, i, none⟩ = some (.pointer (some ⟨(ps[i]).pb, 0, none⟩)) := by
  have hr := row_of' h.2.1
  obtain ⟨g, h1, h2, h3⟩ := hr.2 (by omega)
  exact ⟨g, h1, h2, h3 i _ (by simp [hi, ptrV])⟩
def FiveAt (w : World) (g : Nat) (a b c d e : Value) : Prop := w.cell? ⟨g, 0, none⟩ = some a ∧ w.cell? ⟨g, 1, none⟩ = some b ∧ w.cell? ⟨g, 2, none⟩ = some c ∧ w.cell? ⟨g, 3, none⟩ = some d ∧ w.cell? ⟨g, 4, none⟩ = some e
theorem five_new (w : World) (a b c d e : Value) (t : TypeId) : FiveAt (w.alloc (.cells #[a, b, c, d, e] t)) w.heap.size a b c d e :=
  ⟨news_five _ _ _ _ _ _ 0 _ rfl, news_five _ _ _ _ _ _ 1 _ rfl, news_five _ _ _ _ _ _ 2 _ rfl, news_five _ _ _ _ _ _ 3 _ rfl, news_five _ _ _ _ _ _ 4 _ rfl⟩
set_option maxHeartbeats 2000000 in
theorem step_none (base wp : Nat) (rv : Value) (kd x y : Int) (s t : ByteArray) (w : World) (h : WorldAt base wp [] rv w) (h4 : 4 < kd) :
    Calls Tryz.prog 10 #[.pointer (some ⟨wp, 0, none⟩), .agg #[.int .i64 kd, .int .i64 x, .int .i64 y, .string s, .string t]] w (StepPost base wp [] rv w) := by
  have hb0 := (Below.refl w.heap.size w).alloc (Nat.le_refl _) (.cells #[.int .i64 kd, .int .i64 x, .int .i64 y, .string s, .string t] 30)
  obtain ⟨ro, rc, rfl, _⟩ := row_of_owns h.2.1
  have HW := hide (world_below h hb0)
  have c0 := world_cell h
  have hwl := world_lt h
  have hwn : ¬ wp = w.heap.size := by omega
  have HB0 := hide hb0
  clear h hb0
  have k1 : decide (kd < 4) = false := by simp; omega
  have k2 : (kd == 4) = false := by simp; omega
  simp only [List.length_nil] at c0
  go_enter Tryz.func10, Tryz.ntmps10
  go_wp2
  go_ret
  exact step_of_below (unhide HW) (unhide HB0) rfl (Below.refl _ _)
set_option maxHeartbeats 4000000 in
set_option maxRecDepth 100000 in
theorem step_pair (base wp : Nat) (ps : List PS) (rv : Value) (kd x y : Int) (s t : ByteArray) (w : World) (h : WorldAt base wp ps rv w) (hpos : 0 < ps.length) (hl : ps.length ≤ 10000000000000) (hbase : base ≤ w.heap.size) (htab : Tab w) (hk5 : 5 ≤ kd) (hk8 : kd ≤ 8) (hx : -9223372036854775808 ≤ x ∧ x ≤ 9223372036854775807) (hy : -9223372036854775808 ≤ y ∧ y ≤ 9223372036854775807) :
    Calls Tryz.prog 10 #[.pointer (some ⟨wp, 0, none⟩), .agg #[.int .i64 kd, .int .i64 x, .int .i64 y, .string s, .string t]] w (StepPost base wp ps rv w) := by
  have hb0 := (Below.refl w.heap.size w).alloc (Nat.le_refl _) (.cells #[.int .i64 kd, .int .i64 x, .int .i64 y, .string s, .string t] 30)
  obtain ⟨ro, rc, rfl, _⟩ := row_of_owns h.2.1
  have HW := hide (world_below h hb0)
  have c0 := world_cell h
  have hwl := world_lt h
  have hwn : ¬ wp = w.heap.size := by omega
  have HB0 := hide hb0
  have hi := pickT_lt x hpos
  have hj := pickT_lt y hpos
  obtain ⟨g, hro, hg, ci⟩ := rv_cell h hi
  obtain ⟨g', hro', _, cj⟩ := rv_cell h hj
  rw [hro] at hro'
  cases hro'
  have hgn : ¬ g = w.heap.size := by omega
  have HPX := hide (fun W => pick_any x ps.length W hpos hl hx.1 hx.2)
  have HPY := hide (fun W => pick_any y ps.length W hpos hl hy.1 hy.2)
  have HPJ : Hid (∀ W, WorldAt base wp ps (.slice ro ps.length rc) W → PairOk W ps[pickT y ps.length]) := hide (fun W hW => hW.2.2.1 _ (List.getElem_mem hj))
  have HBW : Hid (∀ W e w', WorldAt base wp ps (.slice ro ps.length rc) W → Below w.heap.size w W → e = .returned (.bool true) → Below W.heap.size W w' → StepPost base wp ps (.slice ro ps.length rc) w e w') := hide (fun W e w' h1 h2 h3 h4 => step_of_below h1 h2 h3 h4)
  have HTB := hide htab; clear htab
  have HFIN : Hid (∀ W e w', WorldAt base wp ps (.slice ro ps.length rc) W → Below w.heap.size w W → PairPost ps[pickT x ps.length] W e w' → StepPost base wp ps (.slice ro ps.length rc) w e w') := hide (fun W e w' h1 h2 h3 => step_of_pair h1 (by have := h2.size; omega) h2 hi h3)
  have HPK : Hid (∀ W, WorldAt base wp ps (.slice ro ps.length rc) W → PairOk W ps[pickT x ps.length]) := hide (fun W hW => hW.2.2.1 _ (List.getElem_mem hi))
  clear h hb0
  generalize ps[pickT x ps.length] = pi at *
  generalize ps[pickT y ps.length] = pj at *
  generalize pickT x ps.length = i at *
  generalize pickT y ps.length = j at *
  obtain ⟨N, hN⟩ : ∃ N, N = ps.length := ⟨_, rfl⟩
  have hne : ((N : Int) == 0) = false := by simp; omega
  have hi0 : (0 : Int) ≤ i := by omega
  have hi1 : (i : Int) < N := by omega
  have hj0 : (0 : Int) ≤ j := by omega
  have hj1 : (j : Int) < N := by omega
  rw [← hN] at HPX HPY HFIN HPK HPJ HBW HW c0 ⊢
  rw [hro] at HFIN HPK HPJ HBW HW c0 ⊢
  have k1 : decide (kd < 4) = false := by simp; omega
  have k2 : (kd == 4) = false := by simp; omega
  have k3 : decide (11 < kd) = false := by simp; omega
  have HN := hide hN
  clear hN hro
  have HOC : Hid (FiveAt (w.alloc (.cells #[.int .i64 kd, .int .i64 x, .int .i64 y, .string s, .string t] 30)) w.heap.size (.int .i64 kd) (.int .i64 x) (.int .i64 y) (.string s) (.string t)) := hide (five_new _ _ _ _ _ _ _)
  have e0 : (w.alloc (.cells #[.int .i64 kd, .int .i64 x, .int .i64 y, .string s, .string t] 30)).cell? ⟨wp, 0, none⟩ = some (.slice (some ⟨g, 0, none⟩) N rc) := ((unhide HB0).cell (p := ⟨wp, 0, none⟩) hwl).trans c0
  have ei := ((unhide HB0).cell (p := ⟨g, i, none⟩) hg).trans ci
  have ej := ((unhide HB0).cell (p := ⟨g, j, none⟩) hg).trans cj
  clear ci cj c0
  go_enter Tryz.func10, Tryz.ntmps10
  go_upto_region 7 with fail
  generalize w.alloc (.cells #[.int .i64 kd, .int .i64 x, .int .i64 y, .string s, .string t] 30) = wl at *
  obtain ⟨f0, f1, f2, f3, f4⟩ := unhide HOC
  go_quiet ((go_at_call 13; exact Calls.quiet_of_same (unhide HPX _)))
  have E0 := hide e0
  have EJ := hide ej
  have HW2 : Hid (WorldAt base wp ps (.slice (some ⟨g, 0, none⟩) N rc) (wl.drewN nq)) := hide (world_drewN (unhide HW) nq)
  have HB2 : Hid (Below w.heap.size w (wl.drewN nq)) := hide (below_drewN (unhide HB0) nq)
  have HOC2 : Hid (FiveAt (wl.drewN nq) w.heap.size (.int .i64 kd) (.int .i64 x) (.int .i64 y) (.string s) (.string t)) := hide (unhide HOC)
  have E02 : Hid ((wl.drewN nq).cell? ⟨wp, 0, none⟩ = some (.slice (some ⟨g, 0, none⟩) N rc)) := hide e0
  have EJ2 : Hid ((wl.drewN nq).cell? ⟨g, j, none⟩ = some (.pointer (some ⟨pj.pb, 0, none⟩))) := hide ej
  clear e0 ei ej f0 f1 f2 f3 f4 E0 EJ HW HB0 HOC
  generalize wl.drewN nq = w2 at *
  have e0 := unhide E02
  have ej := unhide EJ2
  obtain ⟨f0, f1, f2, f3, f4⟩ := unhide HOC2
  go_upto_region 8 with fail
  go_quiet ((go_at_call 13; exact Calls.quiet_of_same (unhide HPY _)))
  have HW3 : Hid (WorldAt base wp ps (.slice (some ⟨g, 0, none⟩) N rc) (w2.drewN nq)) := hide (world_drewN (unhide HW2) nq)
  have HB3 : Hid (Below w.heap.size w (w2.drewN nq)) := hide (below_drewN (unhide HB2) nq)
  have HOC3 : Hid (FiveAt (w2.drewN nq) w.heap.size (.int .i64 kd) (.int .i64 x) (.int .i64 y) (.string s) (.string t)) := hide (unhide HOC2)
  clear e0 ej f0 f1 f2 f3 f4 E02 EJ2 HW2 HB2 HOC2
  generalize w2.drewN nq = w3 at *
  obtain ⟨f0, f1, f2, f3, f4⟩ := unhide HOC3
  have HPI := hide (unhide HPK _ (unhide HW3))
  have HPJ3 := hide (unhide HPJ _ (unhide HW3))
  clear HPX HPY HPK HPJ k1 k2 k3
  rcases (show kd = 5 ∨ kd = 6 ∨ kd = 7 ∨ kd = 8 by omega) with rfl | rfl | rfl | rfl
  · have HD := hide (pdelivered_any pi s w3 (unhide HPI))
    go_wp2_with fail
    refine (unhide HD).mono ?_
    rintro e w4 hpp
    have HF := hide (unhide HFIN w3 e w4 (unhide HW3) (unhide HB3) hpp)
    obtain ⟨rfl, _⟩ := hpp
    go_wp2
    go_ret
    exact unhide HF
  · have c2 := (unhide HPJ3).cell2
    obtain ⟨uo, uc, hu, hrow⟩ := row_of_owns (unhide HPJ3).log
    rw [hu] at c2
    have hll := (unhide HPJ3).rep.ok.2.2
    have HWR := hide (written_any pj.L uo uc w3 hrow (unhide HPJ3).rep.ok.2.1 (by omega))
    clear hrow hu hll
    generalize bs (logText pj.L) = tx at *
    go_wp2_with fail
    refine (unhide HWR).mono ?_
    rintro e w4 ⟨rfl, hb4⟩
    have HW4 := hide (world_below (unhide HW3) hb4)
    have HB4 := hide ((unhide HB3).trans (hb4.mono (unhide HB3).size))
    have HPI4 := hide ((unhide HPI).kept (Keeps.of_below (S := fun _ => False) hb4 (fun k h1 h2 => by omega)) (fun _ _ e => e))
    have HD := hide (pdelivered_any pi tx w4 (unhide HPI4))
    clear hb4 c2
    go_wp2_with fail
    refine (unhide HD).mono ?_
    rintro e w5 hpp
    have HF := hide (unhide HFIN w4 e w5 (unhide HW4) (unhide HB4) hpp)
    obtain ⟨rfl, _⟩ := hpp
    go_wp2
    go_ret
    exact unhide HF
  · have HD := hide (shows_log pi w3 (unhide HPI) (tab_below (unhide HTB) (unhide HB3)))
    go_wp2_with fail
    refine (unhide HD).mono ?_
    rintro e w4 ⟨rfl, hb4⟩
    have HF := hide (unhide HBW w3 _ w4 (unhide HW3) (unhide HB3) rfl hb4)
    clear hb4
    go_wp2
    go_ret
    exact unhide HF
  · have HD := hide (shows_export pi 8 w3 (unhide HPI) (by decide))
    go_wp2_with fail
    refine (unhide HD).mono ?_
    rintro e w4 ⟨rfl, hb4⟩
    have HF := hide (unhide HBW w3 _ w4 (unhide HW3) (unhide HB3) rfl hb4)
    clear hb4
    go_wp2
    go_ret
    exact unhide HF
end Go.Proofs.YtkjancfakplogaaGreatDoor

namespace Go.Proofs.YtkjancfakplogaaGreatDoor
open Go.RowKit
theorem step_all (base wp : Nat) (ps : List PS) (rv : Value) (kd x y : Int) (s t : ByteArray) (w : World) (h : WorldAt base wp ps rv w) (hl : ps.length ≤ 10000000000000) (hbase : base ≤ w.heap.size) (htab : Tab w) (hk4 : 4 ≤ kd) (hk8 : kd ≤ 8) (hx : -9223372036854775808 ≤ x ∧ x ≤ 9223372036854775807) (hy : -9223372036854775808 ≤ y ∧ y ≤ 9223372036854775807) :
    Calls Tryz.prog 10 #[.pointer (some ⟨wp, 0, none⟩), .agg #[.int .i64 kd, .int .i64 x, .int .i64 y, .string s, .string t]] w (StepPost base wp ps rv w) := by
  by_cases h4 : kd = 4
  · subst h4; exact step_new base wp ps rv x y s t w h hl hbase
  · cases ps with
    | nil => exact step_none base wp rv kd x y s t w h (by omega)
    | cons p ps => exact step_pair base wp (p :: ps) rv kd x y s t w h (by simp) hl hbase htab (by omega) hk8 hx hy
set_option maxHeartbeats 4000000 in
theorem upto_reps (lo hi : Int) (ao : Option Addr) (len cap : Nat) (w : World) (hops : OpsR w ao len) (hlen : len ≤ 10000000000000) (htab : Tab w) (hlh : (lo = 5 ∧ hi = 6) ∨ (lo = 7 ∧ hi = 8)) :
    Calls Tryz.prog 9 #[.slice ao len cap, .int .i64 4, .int .i64 8, .int .i64 lo, .int .i64 hi] w fun e w' => e = .returned (.int .i64 (-1)) ∧ Below w.heap.size w w' := by
  have HO := hide hops; clear hops
  have HTB := hide htab; clear htab
  have HW0 := hide (world_new w _ rfl)
  rcases hlh with ⟨rfl, rfl⟩ | ⟨rfl, rfl⟩
  all_goals
    go_enter Tryz.func9, Tryz.ntmps9
    go_wp2
    go_loopw [12] (fun i wr => ∃ k : Nat, k ≤ len ∧ i = .int .i64 k ∧ Below w.heap.size w wr ∧ Hid (∃ ps rv, ps.length ≤ k ∧ WorldAt w.heap.size w.heap.size ps rv wr)) (fun i _ => len - (intOf i).toNat)
    case atStart => exact ⟨0, Nat.zero_le _, rfl, (Below.refl _ _).alloc (Nat.le_refl _) _, hide ⟨[], _, by simp, unhide HW0⟩⟩
    case round =>
      obtain ⟨k, hk, rfl, hbel, HW⟩ := hrel
      have hsz := hbel.size
      by_cases hlt : k < len
      · obtain ⟨b, off, hao, hb, hcells⟩ := unhide HO (by omega)
        obtain ⟨kd, x, y, s, t, ⟨hx, hy⟩, e0, e1, e2, e3, e4⟩ := hcells k hlt
        clear hcells
        rw [← hbel.cell (p := ⟨b, _, none⟩) hb] at e0 e1 e2 e3 e4
        rw [hao]
        clear hao
        have hB1 := (Below.refl wr.heap.size wr).alloc (Nat.le_refl _) (.cells #[.int .i64 kd, .int .i64 x, .int .i64 y, .string s, .string t] 30)
        have HB1 := hide (hbel.trans (hB1.mono hsz))
        obtain ⟨ps, rv, hpl, hW⟩ := unhide HW
        have HW0' := hide hW
        have HW1 := hide (world_below hW hB1)
        clear hW hB1 HW
        by_cases hin : 4 ≤ kd ∧ kd ≤ 8
        · have HS := hide (step_all w.heap.size w.heap.size ps rv kd x y s t _ (unhide HW1) (by omega) (by simp; omega) (tab_below (unhide HTB) (unhide HB1)) hin.1 hin.2 hx hy)
          clear hx hy
          rcases (show kd = 4 ∨ kd = 5 ∨ kd = 6 ∨ kd = 7 ∨ kd = 8 by omega) with rfl | rfl | rfl | rfl | rfl
          all_goals
            clear hin
            go_wp2_with fail
            refine (unhide HS).mono ?_
            rintro e w2 ⟨rfl, ⟨ps', rv', hpl', hW2⟩, hk2⟩
            have hop := op_stays (unhide HW0') hk2
            have HB2 : Hid (Below w.heap.size w w2) := hide ((unhide HB1).trans (wfoot_below (unhide HW1) (by simp; omega) hk2))
            have HW2 := hide (show ∃ ps rv, ps.length ≤ k + 1 ∧ WorldAt w.heap.size w.heap.size ps rv w2 from ⟨ps', rv', by omega, hW2⟩)
            clear hk2 hW2 e0 e1 e2 e3 e4
            go_wp2
            go_roundw
            case rel => exact ⟨k + 1, by omega, by go_num, unhide HB2, HW2⟩
            case measure => simp [intOf]; omega
        · have HWX := hide (show ∃ ps rv, ps.length ≤ k + 1 ∧ WorldAt w.heap.size w.heap.size ps rv _ from ⟨ps, rv, by omega, unhide HW1⟩)
          clear hx hy
          rcases (show kd < 4 ∨ 8 < kd by omega) with h1 | h1
          case' inl => have kq : decide (kd < 4) = true := by simpa using h1
          case' inr => have kq : decide (kd < 4) = false := by simp; omega
          all_goals
            clear hin
            go_wp2
            go_roundw
            case rel => exact ⟨k + 1, by omega, by go_num, unhide HB1, HWX⟩
            case measure => simp [intOf]; omega
      · go_wp2
        go_ret
        exact ⟨rfl, hbel⟩
set_option maxHeartbeats 1000000 in
theorem delivers_any (ao : Option Addr) (len cap : Nat) (w : World) (hops : OpsR w ao len) (hlen : len ≤ 10000000000000) (htab : Tab w) :
    Calls Tryz.prog 7 #[.slice ao len cap] w fun e w' => e = .returned (.bool true) ∧ Below w.heap.size w w' := by
  have HU := hide (upto_reps 5 6 ao len cap w hops hlen htab (.inl ⟨rfl, rfl⟩))
  clear hops htab
  go_enter Tryz.func7, Tryz.ntmps7
  go_wp2_with fail
  refine (unhide HU).mono ?_
  rintro e w1 ⟨rfl, hb1⟩
  go_wp2
  go_ret
  exact ⟨rfl, hb1⟩
set_option maxHeartbeats 1000000 in
theorem shows_any (ao : Option Addr) (len cap : Nat) (w : World) (hops : OpsR w ao len) (hlen : len ≤ 10000000000000) (htab : Tab w) :
    Calls Tryz.prog 8 #[.slice ao len cap] w fun e w' => e = .returned (.bool true) ∧ Below w.heap.size w w' := by
  have HU := hide (upto_reps 7 8 ao len cap w hops hlen htab (.inr ⟨rfl, rfl⟩))
  clear hops htab
  go_enter Tryz.func8, Tryz.ntmps8
  go_wp2_with fail
  refine (unhide HU).mono ?_
  rintro e w1 ⟨rfl, hb1⟩
  go_wp2
  go_ret
  exact ⟨rfl, hb1⟩
end Go.Proofs.YtkjancfakplogaaGreatDoor
