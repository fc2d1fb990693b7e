import Derived.Test.YtdcjimlhaklhfaaDoorHd2
import Derived.Test.YtdcjimlhaklhfaaDoorHd12
import Derived.Test.YtdcjimlhaklhfaaDoorHd7
namespace Go.Proofs.YtdcjimlhaklhfaaDoor
open Go.RowKit
/-- A script's steps in memory: five cells each. -/
def OpsAt (w : World) (ao : Option Addr) (len : Nat) : Prop :=
  0 < len → ∃ b off, ao = some ⟨b, off, none⟩ ∧ b < w.heap.size ∧ ∀ i, i < len → ∃ (k x y : Int) (s t : ByteArray),
    w.cell? ⟨b, off + i * 5, none⟩ = some (.int .i64 k) ∧ w.cell? ⟨b, off + i * 5 + 1, none⟩ = some (.int .i64 x) ∧ w.cell? ⟨b, off + i * 5 + 2, none⟩ = some (.int .i64 y) ∧ w.cell? ⟨b, off + i * 5 + 3, none⟩ = some (.string s) ∧ w.cell? ⟨b, off + i * 5 + 4, none⟩ = some (.string t)
end Go.Proofs.YtdcjimlhaklhfaaDoor

namespace Go.Proofs.YtdcjimlhaklhfaaDoor
open Go.RowKit
theorem refusal_compile' (f t : Str) : refusalT f t = compileE f t := rfl
set_option maxHeartbeats 4000000 in
theorem unparked_any (s t : ByteArray) (w : World) :
    Calls Tryd.prog 12 #[.string s, .string t] w fun e w' => e = .returned (.bool true) ∧ Below w.heap.size w w' := by
  have HRF := hide (fun W => refusal_any s t W)
  rw [refusal_compile'] at HRF
  by_cases hE : compileE (sl s) (sl t) = 0
  · obtain ⟨h1, h2, h3, h4⟩ := compileE_parts hE
    have ha := valid_of_check h1
    have hg := valid_of_check h2
    have hCT : compileT (sl s) (sl t) = scriptText (makeT (gather (readNodes (cut (sl s)))) (gather (readNodes (cut (sl t))))) := by unfold compileT; rw [if_pos hE]
    have htl := make_text_len ha hg
    have hcl := (readSteps_script (seg_can (makeT_seg ha hg) hg.ok)).2
    rw [sl_length] at h3 h4
    have HRI := hide (fun W => ringless_any s t W h1 h2 h3 h4)
    have HC := hide (fun W => compile_any s t W)
    rw [hE] at HC
    have HCU := hide (fun W => rcut_any (bs (compileT (sl s) (sl t))) W (by rw [bs_size, hCT]; exact htl))
    rw [sl_bs] at HCU
    have HHO := hide (fun W => homesCount_any s t W h3 h4 (check_parts h1).2.2.1 (check_parts h2).2.2.1)
    have HEQ : Hid (Elim (readNodes (cut (sl s))) (readNodes (cut (sl t))) (homesR (readNodes (cut (sl s))) (readNodes (cut (sl t)))) → (cut (compileT (sl s) (sl t))).length = (homesR (readNodes (cut (sl s))) (readNodes (cut (sl t)))).length) := hide (fun hel => by
      rw [hCT, hcl]; exact make_nopark (rep_read h1) (rep_read h2) ha hg hel)
    rw [hE] at HRF
    clear ha hg hCT htl hcl h1 h2 hE
    generalize Elim (readNodes (cut (sl s))) (readNodes (cut (sl t))) (homesR (readNodes (cut (sl s))) (readNodes (cut (sl t)))) = PE at *
    generalize (homesR (readNodes (cut (sl s))) (readNodes (cut (sl t)))).length = nh at *
    generalize compileT (sl s) (sl t) = sc at *
    generalize cut sc = rs at *
    go_enter Tryd.func12, Tryd.ntmps12
    go_wp2_with fail
    refine (unhide HRF _).mono ?_
    rintro e w1 ⟨rfl, hb1⟩
    have HB1 := hide hb1
    clear hb1
    go_wp2_with fail
    refine (unhide HRI _).mono ?_
    rintro e w2 ⟨⟨r, rfl, hr⟩, hb2⟩
    have HB2 := hide ((unhide HB1).trans (hb2.mono (unhide HB1).size))
    have HRR := hide hr
    clear hb2 hr
    cases r
    · go_wp2
      go_ret
      exact ⟨rfl, unhide HB2⟩
    · have hlen := unhide HEQ (unhide HRR rfl)
      have hlen2 : ((rs.length : Int) == (nh : Int)) = true := by rw [hlen]; simp
      go_wp2_with fail
      refine (unhide HC _).mono ?_
      rintro e w3 ⟨rfl, hb3⟩
      have HB3 := hide ((unhide HB2).trans (hb3.mono (unhide HB2).size))
      clear hb3
      go_wp2_with fail
      refine (unhide HCU _).mono ?_
      rintro e w4 ⟨co, cc, rfl, _, hb4⟩
      have HB4 := hide ((unhide HB3).trans (hb4.mono (unhide HB3).size))
      clear hb4
      go_wp2_with fail
      refine (unhide HHO _).mono ?_
      rintro e w5 ⟨rfl, hb5⟩
      have HB5 := hide ((unhide HB4).trans (hb5.mono (unhide HB4).size))
      clear hb5 hlen
      go_wp2_with go_in
      go_ret
      exact ⟨ret_bool (by first | rfl | exact hlen2 | simpa using hlen2), unhide HB5⟩
  · have hE2 : (compileE (sl s) (sl t) != 0) = true := by simpa using hE
    generalize compileE (sl s) (sl t) = E at *
    go_enter Tryd.func12, Tryd.ntmps12
    go_wp2_with fail
    refine (unhide HRF _).mono ?_
    rintro e w1 ⟨rfl, hb1⟩
    have HB1 := hide hb1
    clear hb1
    go_wp2
    go_ret
    exact ⟨rfl, unhide HB1⟩
set_option maxHeartbeats 4000000 in
theorem unparked_all (ao : Option Addr) (len cap : Nat) (w : World) (hops : OpsAt w ao len) (hlen : len ≤ 140737488355328) :
    Calls Tryd.prog 4 #[.slice ao len cap] w fun e w' => e = .returned (.bool true) ∧ Below w.heap.size w w' := by
  have HO := hide hops; clear hops
  go_enter Tryd.func4, Tryd.ntmps4
  go_wp2
  go_loopw [3] (fun i wr => ∃ k : Nat, k ≤ len ∧ i = .int .i64 k ∧ Below w.heap.size w wr) (fun i _ => len - (intOf i).toNat)
  case atStart => exact ⟨0, Nat.zero_le _, rfl, Below.refl _ _⟩
  case round =>
    obtain ⟨k, hk, rfl, hbel⟩ := hrel
    have hsz := hbel.size
    by_cases hlt : k < len
    · obtain ⟨b, off, hao, hb, hcells⟩ := unhide HO (by omega)
      obtain ⟨kd, x, y, s, t, e0, e1, e2, e3, e4⟩ := hcells k hlt
      clear hcells
      rw [← hbel.cell (p := ⟨b, _, none⟩) hb] at e0 e1 e2 e3 e4
      rw [hao]
      clear hao
      have hk0 : (0 : Int) ≤ k := by omega
      have hk1 : (k : Int) < len := by omega
      by_cases h1 : kd = 3
      · subst h1
        have HS := hide (fun W => unparked_any s t W)
        go_wp2_with fail
        go_region_with (go_at_call 12; refine (unhide HS _).mono ?_; rintro e w1 ⟨rfl, hb1⟩; have hb2 : Below w.heap.size w w1 := hbel.trans (((below_drewN (Below.refl wr.heap.size wr) 1).trans hb1).mono hsz); clear hb1)
        all_goals
          go_wp2
          go_roundw
          case rel => exact ⟨k + 1, by omega, by go_num, hb2⟩
          case measure => simp [intOf]; omega
      · have h1' : (kd == 3) = false := by simpa using h1
        go_wp2
        go_roundw
        case rel => exact ⟨k + 1, by omega, by go_num, hbel⟩
        case measure => simp [intOf]; omega
    · go_wp2
      go_ret
      exact ⟨rfl, hbel⟩
end Go.Proofs.YtdcjimlhaklhfaaDoor
