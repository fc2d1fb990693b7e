import Derived.Test.YtkahmbpggdneoaaGreatDoorS6
namespace Go.Proofs.YtkahmbpggdneoaaGreatDoor
open Go.RowKit
theorem refusal_compile (f t : Str) : refusalT f t = compileE f t := rfl
set_option maxHeartbeats 4000000 in
set_option maxRecDepth 100000 in
theorem rcompiled_any (s t : ByteArray) (w : World) :
    Calls Tryz.prog 46 #[.string s, .string t, .string (bs (compileT (sl s) (sl t))), .int .i64 (compileE (sl s) (sl t))] w fun e w' => e = .returned (.bool true) ∧ Below w.heap.size w w' := by
  have HRF := hide (fun W => refusal_any s t W)
  rw [refusal_compile] at HRF
  by_cases hE : compileE (sl s) (sl t) = 0
  · obtain ⟨h1, h2, h3, h4⟩ := compileE_parts hE
    have ha := valid_of_check h1
    have hg := valid_of_check h2
    have hCT : compileT (sl s) (sl t) = scriptText (makeT (gather (readNodes (cut (sl s)))) (gather (readNodes (cut (sl t))))) := by unfold compileT; rw [if_pos hE]
    have hseg := makeT_seg ha hg
    have hml := make_len ha hg
    have htl := make_text_len ha hg
    obtain ⟨e1, e2⟩ := readSteps_script (seg_can hseg hg.ok)
    rw [sl_length] at h3 h4
    have HN1 := hide (fun W => nodes_any s W h3)
    have HN2 := hide (fun W => nodes_any t W h4)
    have hf1 := (check_parts h1).2.2.1
    have hf2 := (check_parts h2).2.2.1
    have HAP := hide (fun W => rapply_any s (bs (compileT (sl s) (sl t))) W)
    rw [sl_bs, apply_compile hE] at HAP
    simp only [bs_sl] at HAP
    have HLE := hide (fun ao bo ca cb W x1 x2 => leads_yes (readNodes (cut (sl s))) (readNodes (cut (sl t))) _ _ _ _ ao bo ca cb W x1 x2 (rep_read h1) (rep_read h2) ha hg e1 e2 hseg hml htl)
    rw [← hCT] at HLE
    rw [hE] at HRF ⊢
    clear hseg ha hg hCT h1 h2 hE e1 e2 htl hml
    have htt : (t.toList == t.toList) = true := by simp
    generalize readNodes (cut (sl s)) = na at *
    generalize readNodes (cut (sl t)) = nb at *
    generalize compileT (sl s) (sl t) = sc at *
    go_enter Tryz.func46, Tryz.ntmps46
    go_wp2_with fail
    refine (unhide HRF _).mono ?_
    rintro e w1 ⟨rfl, hb1⟩
    have HB1 := hide hb1
    clear hb1
    go_wp2_with fail
    refine (unhide HN1 _).mono ?_
    rintro e w2 ⟨⟨hno, _⟩ | ⟨_, ao, ca, rfl, hr1, _⟩, hb2⟩
    · exact absurd hno hf1
    · have HR1 := hide hr1
      have HB2 := hide ((unhide HB1).trans (hb2.mono (unhide HB1).size))
      clear hr1 hb2
      go_wp2_with fail
      refine (unhide HN2 _).mono ?_
      rintro e w3 ⟨⟨hno, _⟩ | ⟨_, bo, cb, rfl, hr2, _⟩, hb3⟩
      · exact absurd hno hf2
      · have HR2 := hide hr2
        have HR1' := hide (Row.below (unhide HR1) hb3)
        have HB3 := hide ((unhide HB2).trans (hb3.mono (unhide HB2).size))
        clear hr2 hb3
        go_wp2_with fail
        refine (unhide HLE _ _ _ _ _ (unhide HR1') (unhide HR2)).mono ?_
        rintro e w4 ⟨rfl, hb4⟩
        have HB4 := hide ((unhide HB3).trans (hb4.mono (unhide HB3).size))
        clear hb4
        go_wp2_with fail
        refine (unhide HAP _).mono ?_
        rintro e w5 ⟨rfl, hb5⟩
        have HB5 := hide ((unhide HB4).trans (hb5.mono (unhide HB4).size))
        clear hb5
        go_wp2
        go_ret
        exact ⟨rfl, unhide HB5⟩
  · rw [compileT_no hE]
    have hE2 : (compileE (sl s) (sl t) != 0) = true := by simpa using hE
    have hE3 : (compileE (sl s) (sl t) == compileE (sl s) (sl t)) = true := by simp
    have e4 : (bs ([] : Str)).toList = [] := by rw [tl_sl, sl_bs]
    generalize compileE (sl s) (sl t) = E at *
    go_enter Tryz.func46, Tryz.ntmps46
    go_wp2_with fail
    refine (unhide HRF _).mono ?_
    rintro e w1 ⟨rfl, hb1⟩
    have HB1 := hide hb1
    clear hb1
    go_wp2
    go_ret
    exact ⟨ret_bool (by simp), unhide HB1⟩
end Go.Proofs.YtkahmbpggdneoaaGreatDoor
