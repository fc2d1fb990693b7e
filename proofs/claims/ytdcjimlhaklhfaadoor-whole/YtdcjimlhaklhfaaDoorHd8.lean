import Derived.Test.YtdcjimlhaklhfaaDoorHd7
import Derived.Test.YtdcjimlhaklhfaaDoorHd4
namespace Go.Proofs.YtdcjimlhaklhfaaDoor
open Go.RowKit
theorem apply_one {t : Tr} (hv : Valid t) {s : St} (hs : StCan s) (he : stepE t s = 0) : applyT (textT t) (stText s) = (textT (stepT t s), 0, 0) := by
  obtain ⟨c1, c2⟩ := check_text hv
  have e0 : scriptText [s] = stText s := by simp [scriptText]
  obtain ⟨e1, e2⟩ := readSteps_script (ss := [s]) (fun x hx => by rw [List.mem_singleton.1 hx]; exact hs)
  rw [e0] at e1 e2
  have l1 := textTo_len hv.ok 99
  have l2 := stText_len hs.1
  have hd : doAllE [s] t 0 = (0, 0) ∧ doAllT [s] t = stepT t s := by
    rw [doAllE, doAllT, if_pos he, if_pos he]; exact ⟨rfl, rfl⟩
  unfold applyT
  rw [if_neg (by unfold textT; omega), c1, if_neg (by simp), e1, e2, if_neg (by simp), c2, hd.1, if_neg (by simp), hd.2]
theorem seg_uncons {g t b : Tr} {s : St} {ss : List St} (hg : TrOk g) (h : Seg g t (s :: ss) b) : stepE t s = 0 ∧ StCan s ∧ Seg g (stepT t s) ss b := by
  cases h with
  | home h1 h2 hs he k => exact ⟨he, home_can hg h1 h2 hs, k⟩
  | park h1 h2 hno hs hp he k => exact ⟨he, ⟨park_ok h1 h2, fun hk => absurd hk (by show ¬ ((61 : UInt8) = 45); decide)⟩, k⟩
theorem seg_nil {g t b : Tr} (h : Seg g t [] b) : t = b := by cases h; rfl
set_option maxHeartbeats 4000000 in
set_option maxRecDepth 100000 in
theorem whole_law (ao bo : Option Addr) (la lb ca cb : Nat) (w : World) (ha : IntsAt w ao la) (hb : IntsAt w bo lb) (hla : la ≤ 140737488355328) (hlb : lb ≤ 140737488355328) :
    Calls Tryd.prog 6 #[.slice ao la ca, .slice bo lb cb] w fun e w' => e = .returned (.bool true) ∧ Below w.heap.size w w' := by
  have HGA := hide (grown_any ao la ca w ha hla)
  have HGB := hide (fun W (h : Below w.heap.size w W) => grown_any bo lb cb W (hb.below h) hlb)
  clear ha hb
  go_enter Tryd.func6, Tryd.ntmps6
  go_wp2_with fail
  refine (unhide HGA).mono ?_
  rintro e w1 ⟨⟨a, rfl, hva⟩, hb1⟩
  go_wp2_with fail
  refine (unhide HGB _ hb1).mono ?_
  rintro e w2 ⟨⟨g, rfl, hvg⟩, hb2⟩
  have HB2 := hide (hb1.trans (hb2.mono hb1.size))
  clear hb1 hb2 HGA HGB
  have HC1 := hide (fun W => compile_any (bs (textT a)) (bs (textT g)) W)
  rw [sl_bs, sl_bs, compileE_valid hva hvg, compileT_valid hva hvg] at HC1
  have hseg := makeT_seg hva hvg
  have hlen := make_text_len hva hvg
  have hml := make_len hva hvg
  have HCT := hide (fun W => kcut_any (bs (scriptText (makeT a g))) W (by rw [bs_size]; exact hlen))
  have hcan := seg_can hseg hvg.ok
  rw [sl_bs, cut_script _ (fun s hs => (hcan s hs).1)] at HCT
  have HSEG := hide hseg
  have HVA := hide hva
  have HVG := hide hvg
  clear hva hvg hseg hlen hcan
  generalize makeT a g = M at *
  generalize scriptText M = sc at *
  rw [List.length_map] at HCT
  go_wp2_with fail
  refine (unhide HC1 _).mono ?_
  rintro e w3 ⟨rfl, hb3⟩
  have HB3 := hide ((unhide HB2).trans (hb3.mono (unhide HB2).size))
  clear hb3
  go_wp2_with fail
  refine (unhide HCT _).mono ?_
  rintro e w4 ⟨lo, lc, rfl, hrow, hb4⟩
  have HROW := hide hrow
  have HB4 := hide ((unhide HB3).trans (hb4.mono (unhide HB3).size))
  clear hb4 hrow
  have e1 : ((bs (textT g)).toList == (bs (textT g)).toList) = true := by simp
  go_wp2_with fail
  go_loopw [5, 10] (fun x i wr => ∃ k : Nat, ∃ t : Tr, k ≤ M.length ∧ i = .int .i64 k ∧ x = .string (bs (textT t)) ∧ Below w4.heap.size w4 wr ∧ Hid (Valid t) ∧ Hid (Seg g t (M.drop k) g)) (fun _ i _ => M.length - (intOf i).toNat)
  case atStart => exact ⟨0, a, by omega, rfl, rfl, Below.refl _ _, HVA, HSEG⟩
  case round =>
    obtain ⟨k, t, hk, rfl, rfl, hbel, HV, HS⟩ := hrel
    have hsz := hbel.size
    by_cases hlt : k < M.length
    · have hrow2 : Row w4 lo (M.map stText).length 1 ((M.map stText).map strV) := by rw [List.length_map]; exact unhide HROW
      obtain ⟨gb, hlo, hgb, hc⟩ := str_cell hrow2 hbel (k := k) (by rw [List.length_map]; exact hlt)
      rw [List.getElem_map] at hc
      rw [hlo]
      clear hlo hrow2
      have hs := unhide HS
      rw [List.drop_eq_getElem_cons hlt] at hs
      obtain ⟨he, hcan, hseg⟩ := seg_uncons (unhide HVG).ok hs
      have hv2 := valid_step (unhide HV) hcan.1
      have HAP := hide (fun W => apply_any (bs (textT t)) (bs (stText M[k])) W)
      rw [sl_bs, sl_bs, apply_one (unhide HV) hcan he] at HAP
      have HRI := hide (fun W => right_any (stepT t M[k]) W hv2)
      have HV2 := hide hv2
      have HS2 := hide hseg
      clear hs he hcan hseg hv2
      generalize stText M[k] = tx at *
      generalize stepT t M[k] = t2 at *
      go_wp2_with fail
      refine (unhide HAP _).mono ?_
      rintro e w5 ⟨rfl, hb5⟩
      have hb6 := hbel.trans (hb5.mono hsz)
      clear hb5 hbel
      go_wp2_with fail
      refine (unhide HRI _).mono ?_
      rintro e w6 ⟨rfl, hb7⟩
      have hb8 := hb6.trans (hb7.mono hb6.size)
      clear hb6 hb7 hc
      go_wp2
      go_roundw
      case rel => exact ⟨k + 1, t2, by omega, by go_num, rfl, hb8, HV2, HS2⟩
      case measure => simp [intOf]; omega
    · have ht : t = g := by
        have hs := unhide HS
        rw [List.drop_eq_nil_of_le (by omega)] at hs
        exact seg_nil hs
      subst ht
      have HB9 := hide ((unhide HB4).trans (hbel.mono (unhide HB4).size))
      go_wp2
      go_ret
      exact ⟨rfl, unhide HB9⟩
end Go.Proofs.YtdcjimlhaklhfaaDoor
