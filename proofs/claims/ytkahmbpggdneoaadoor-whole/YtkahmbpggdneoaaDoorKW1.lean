import Derived.Test.YtkahmbpggdneoaaDoorKPure4
namespace Go.Proofs.YtkahmbpggdneoaaDoor
open Go.RowKit
set_option maxHeartbeats 1000000 in
theorem kcut_any (s : ByteArray) (w : World) (hs : s.size ≤ 4000) :
    Calls Tryd.prog 11 #[.string s] w fun e w' => ∃ ao cap, e = .returned (.slice ao (cut (sl s)).length cap) ∧ Row w' ao (cut (sl s)).length 1 ((cut (sl s)).map strV) ∧ Below w.heap.size w w' := by
  obtain ⟨i0, hi, hz0, hz1, hz2⟩ := info_parts Tryd.infoStr
  have hsz : (0 : Int) ≤ s.size := by omega
  go_enter Tryd.func11, Tryd.ntmps11
  go_wp2
  go_loopw [3, 4, 5] (fun v st i wr => ∃ k t n : Nat, ∃ xs : List Value, k ≤ s.size ∧ t ≤ k ∧ n ≤ k ∧ i = .int .i64 k ∧ st = .int .i64 t ∧ wr.ownsRow w.heap.size 9 1 v n xs ∧ Below w.heap.size w wr ∧ Hid (CutInv s k t n xs)) (fun _ _ i _ => s.size - (intOf i).toNat)
  case atStart => exact ⟨0, 0, 0, [], Nat.zero_le _, Nat.le_refl _, Nat.le_refl _, rfl, rfl, World.ownsRow_nil _ _ _ _, Below.refl _ _, hide ⟨by simp [cutTo], by simp [cutTo], by simp [cutTo]⟩⟩
  case round =>
    obtain ⟨k, t, n, xs, hk, ht, hn, rfl, rfl, hown, hbel, HI⟩ := hrel
    by_cases hlt : k < s.size
    · by_cases hc : s[k] = 59
      · have HN := hide (cutInv_hit (unhide HI) hlt hc)
        go_wp2_with (first
          | (at_builtin; refine wpList_append_own _ rfl _ _ 27 rfl w.heap.size 9 i0 (.string ByteArray.empty) 1 16 Tryd.underlying27 hi hz0 hz1 hz2 rfl (by decide) _ _ _ rfl (hown.alloc _) ⟨wr.heap.size, 0, none⟩ 1 1 [.string (s.extract t (k + 1))] rfl rfl (news_one _ _) (by simp [Value.oneCell']) (by unfold maxLen; omega) (by omega) (by have := hbel.size; simp; omega) ?_)
          | go_in)
        intro v' w1 hown' hgrow _
        have hb1 := below_app hbel (by have := hbel.size; omega) hown hgrow
        clear hgrow hown hbel
        go_wp2
        go_roundw
        case rel => exact ⟨k + 1, k + 1, n + 1, _, by omega, by omega, by omega, by go_num, by go_num, hown', hb1, HN⟩
        case measure => simp [intOf]; omega
      · have HN := hide (cutInv_miss (unhide HI) hlt hc)
        have hc' : (((s[k]).toNat : Int) == 59) = false := by
          rw [beq_eq_false_iff_ne]; intro h; exact hc (UInt8.toNat_inj.1 (by simpa using (by omega : (s[k]).toNat = 59)))
        have HC := hide hc; clear hc
        go_wp2
        go_roundw
        case rel => exact ⟨k + 1, t, n, _, by omega, by omega, by omega, by go_num, rfl, hown, hbel, HN⟩
        case measure => simp [intOf]; omega
    · have hks : k = s.size := by omega
      subst hks
      by_cases hts : t < s.size
      · have HN := hide (cutInv_last (unhide HI) hts)
        go_wp2_with (first
          | (at_builtin; refine wpList_append_own _ rfl _ _ 27 rfl w.heap.size 9 i0 (.string ByteArray.empty) 1 16 Tryd.underlying27 hi hz0 hz1 hz2 rfl (by decide) _ _ _ rfl (hown.alloc _) ⟨wr.heap.size, 0, none⟩ 1 1 [.string (s.extract t s.size)] rfl rfl (news_one _ _) (by simp [Value.oneCell']) (by unfold maxLen; omega) (by omega) (by have := hbel.size; simp; omega) ?_)
          | go_in)
        intro v' w1 hown' hgrow _
        have hb1 := below_app hbel (by have := hbel.size; omega) hown hgrow
        clear hgrow hown hbel
        go_wp2
        go_ret
        obtain ⟨e1, e2⟩ := unhide HN
        obtain ⟨ao, cap, rfl, hr⟩ := row_of_owns hown'
        rw [e1, e2] at hr
        exact ⟨ao, cap, by rw [← e1]; rfl, hr, hb1⟩
      · have HN := hide (cutInv_end (unhide HI) hts)
        go_wp2
        go_ret
        obtain ⟨e1, e2⟩ := unhide HN
        obtain ⟨ao, cap, rfl, hr⟩ := row_of_owns hown
        rw [e1, e2] at hr
        exact ⟨ao, cap, by rw [← e1]; rfl, hr, hbel⟩

theorem nil_list : (bs ([] : Str)).toList = [] := by rw [tl_sl, sl_bs]
theorem nil_empty : (bs ([] : Str)).toList.isEmpty = true := by rw [nil_list]; rfl
theorem one_list : ((bs [50, 32, 48, 32, 97, 59]).toList == [50, 32, 48, 32, 97, 59]) = true := by rw [tl_sl, sl_bs]; rfl
set_option maxRecDepth 100000 in
set_option maxHeartbeats 4000000 in
theorem parts_law (tr s t : ByteArray) (w : World) (ht : t.size ≤ 140737488355328) :
    Calls Tryd.prog 3 #[.string tr, .string s, .string t] w fun e w' => e = .returned (.bool true) ∧ Below w.heap.size w w' := by
  have HA0 : Hid (∀ W, Calls Tryd.prog 9 #[.string ⟨#[]⟩, .string ⟨#[43, 50, 32, 48, 32, 97, 59]⟩] W fun e w' => e = .returned (.tuple #[.string (bs [50, 32, 48, 32, 97, 59]), .int .i64 0, .int .i64 0]) ∧ Below W.heap.size W w') := by
    apply hide; intro W
    have h := apply_any ⟨#[]⟩ ⟨#[43, 50, 32, 48, 32, 97, 59]⟩ W
    rw [show applyT (sl ⟨#[]⟩) (sl ⟨#[43, 50, 32, 48, 32, 97, 59]⟩) = ([50, 32, 48, 32, 97, 59], 0, 0) from apply_first] at h
    exact h
  have HC := hide (fun W => check_any tr W)
  have HA2 := hide (fun W => apply_any tr s W)
  have HA1 := hide (fun W => apply_any tr ⟨#[]⟩ W)
  rw [show applyT (sl tr) (sl ⟨#[]⟩) = _ from apply_empty (sl tr)] at HA1
  have hone := one_list
  have hnil := nil_list
  have hnile := nil_empty
  have htt : (tr.toList == tr.toList) = true := by simp
  by_cases hc : (checkT (sl tr)).1 = 0
  · rw [if_pos hc, bs_sl] at HA1
    rw [hc, check_zero hc] at HC
    by_cases hs : 4000 < s.size
    · rw [apply_long (by rw [sl_length]; exact hs)] at HA2
      clear hc
      go_enter Tryd.func3, Tryd.ntmps3
      go_wp2_with fail
      refine (unhide HA0 _).mono ?_
      rintro e w1 ⟨rfl, hb1⟩
      have HB1 := hide hb1
      clear hb1
      go_wp2_with fail
      refine (unhide HC _).mono ?_
      rintro e w2 ⟨rfl, hb2⟩
      have HB2 := hide ((unhide HB1).trans (hb2.mono (unhide HB1).size))
      clear hb2
      go_wp2_with fail
      refine (unhide HA1 _).mono ?_
      rintro e w3 ⟨rfl, hb3⟩
      have HB3 := hide ((unhide HB2).trans (hb3.mono (unhide HB2).size))
      clear hb3
      go_wp2_with fail
      refine (unhide HA2 _).mono ?_
      rintro e w4 ⟨rfl, hb4⟩
      have HB4 := hide ((unhide HB3).trans (hb4.mono (unhide HB3).size))
      clear hb4
      go_wp2
      go_ret
      exact ⟨ret_bool (by simp), unhide HB4⟩
    · by_cases h2 : (applyT (sl tr) (sl s)).2.2 = 0
      · obtain ⟨_, _, _, _, g5⟩ := apply_good h2
        have HSP := hide (fun h => apply_split (l := sl tr) (s := sl s) (t := sl t) h2 h)
        have HU : Hid ((applyT (sl tr) (sl s)).1 = textT (doAllT (readSteps (cut (sl s))) (gather (readNodes (cut (sl tr))))) ∧ (applyT (sl tr) (sl s)).2.1 = 0) := by apply hide; rw [g5]; exact ⟨rfl, rfl⟩
        have hadd : ∀ W : World, (Op.stringOp .add s t).run Tryd.prog W = .ok (.string (s ++ t)) W := fun W => run_string_add_sum (P := Tryd.prog) W _ _ (by omega)
        have HA3 := hide (fun W => apply_any tr (s ++ t) W)
        have HA4 := hide (fun W => apply_any (bs (applyT (sl tr) (sl s)).1) t W)
        rw [sl_bs] at HA4
        rw [h2] at HA2
        have hslst : sl (s ++ t) = sl s ++ sl t := sl_append s t
        rw [hslst] at HA3
        have HK := hide (fun W => kcut_any s W (by omega))
        clear hslst g5 HU
        by_cases hst : 4000 < s.size + t.size
        · rw [apply_long (by rw [List.length_append, sl_length, sl_length]; exact hst)] at HA3
          clear hc h2 HSP HA4 HK
          generalize applyT (sl tr) (sl s) = A2 at *
          go_enter Tryd.func3, Tryd.ntmps3
          go_wp2_with fail
          refine (unhide HA0 _).mono ?_
          rintro e w1 ⟨rfl, hb1⟩
          have HB1 := hide hb1
          clear hb1
          go_wp2_with fail
          refine (unhide HC _).mono ?_
          rintro e w2 ⟨rfl, hb2⟩
          have HB2 := hide ((unhide HB1).trans (hb2.mono (unhide HB1).size))
          clear hb2
          go_wp2_with fail
          refine (unhide HA1 _).mono ?_
          rintro e w3 ⟨rfl, hb3⟩
          have HB3 := hide ((unhide HB2).trans (hb3.mono (unhide HB2).size))
          clear hb3
          go_wp2_with fail
          refine (unhide HA2 _).mono ?_
          rintro e w4 ⟨rfl, hb4⟩
          have HB4 := hide ((unhide HB3).trans (hb4.mono (unhide HB3).size))
          clear hb4
          go_wp2_with fail
          refine (unhide HA3 _).mono ?_
          rintro e w5 ⟨rfl, hb5⟩
          have HB5 := hide ((unhide HB4).trans (hb5.mono (unhide HB4).size))
          clear hb5
          go_wp2
          go_ret
          exact ⟨ret_bool (by simp), unhide HB5⟩
        · have hsp := unhide HSP (by rw [sl_length, sl_length]; omega)
          clear HSP hc h2
          obtain ⟨p1, p2, p3⟩ := hsp
          have hpl := apply_place (applyT (sl tr) (sl s)).1 (sl t)
          have hcl : (cut (sl s)).length ≤ 4000 := by have := cut_length_le (sl s); rw [sl_length] at this; omega
          generalize applyT (sl tr) (sl s) = A2 at *
          generalize applyT (sl tr) (sl s ++ sl t) = A3 at *
          generalize applyT A2.1 (sl t) = A4 at *
          obtain ⟨v, i, f⟩ := A3
          obtain ⟨x, j, g⟩ := A4
          simp only at p1 p2 p3 HA3 HA4 hpl
          subst p1 p2
          generalize (cut (sl s)).length = cl at *
          have hvv : ((bs v).toList == (bs v).toList) = true := by simp
          rcases p3 with ⟨rfl, rfl, rfl⟩ | ⟨p4, p5⟩
          · go_enter Tryd.func3, Tryd.ntmps3
            go_wp2_with fail
            refine (unhide HA0 _).mono ?_
            rintro e w1 ⟨rfl, hb1⟩
            have HB1 := hide hb1
            clear hb1
            go_wp2_with fail
            refine (unhide HC _).mono ?_
            rintro e w2 ⟨rfl, hb2⟩
            have HB2 := hide ((unhide HB1).trans (hb2.mono (unhide HB1).size))
            clear hb2
            go_wp2_with fail
            refine (unhide HA1 _).mono ?_
            rintro e w3 ⟨rfl, hb3⟩
            have HB3 := hide ((unhide HB2).trans (hb3.mono (unhide HB2).size))
            clear hb3
            go_wp2_with fail
            refine (unhide HA2 _).mono ?_
            rintro e w4 ⟨rfl, hb4⟩
            have HB4 := hide ((unhide HB3).trans (hb4.mono (unhide HB3).size))
            clear hb4
            go_wp2_with fail
            refine (unhide HA3 _).mono ?_
            rintro e w5 ⟨rfl, hb5⟩
            have HB5 := hide ((unhide HB4).trans (hb5.mono (unhide HB4).size))
            clear hb5
            go_wp2_with fail
            refine (unhide HA4 _).mono ?_
            rintro e w6 ⟨rfl, hb6⟩
            have HB6 := hide ((unhide HB5).trans (hb6.mono (unhide HB5).size))
            clear hb6
            go_wp2_with fail
            refine (unhide HK _).mono ?_
            rintro e w7 ⟨ao, cap, rfl, hrow, hb7⟩
            have HB7 := hide ((unhide HB6).trans (hb7.mono (unhide HB6).size))
            clear hb7 hrow
            go_wp2
            go_ret
            exact ⟨ret_bool (by simp), unhide HB7⟩
          · have hf0 : (f == 0) = false := by simpa using p4
            have hf1 : (f != 0) = true := by simpa using p4
            have hij : ((i : Int) == (j : Int) + (cl : Int)) = true := by rw [beq_iff_eq]; omega
            clear p4 p5
            go_enter Tryd.func3, Tryd.ntmps3
            go_wp2_with fail
            refine (unhide HA0 _).mono ?_
            rintro e w1 ⟨rfl, hb1⟩
            have HB1 := hide hb1
            clear hb1
            go_wp2_with fail
            refine (unhide HC _).mono ?_
            rintro e w2 ⟨rfl, hb2⟩
            have HB2 := hide ((unhide HB1).trans (hb2.mono (unhide HB1).size))
            clear hb2
            go_wp2_with fail
            refine (unhide HA1 _).mono ?_
            rintro e w3 ⟨rfl, hb3⟩
            have HB3 := hide ((unhide HB2).trans (hb3.mono (unhide HB2).size))
            clear hb3
            go_wp2_with fail
            refine (unhide HA2 _).mono ?_
            rintro e w4 ⟨rfl, hb4⟩
            have HB4 := hide ((unhide HB3).trans (hb4.mono (unhide HB3).size))
            clear hb4
            go_wp2_with fail
            refine (unhide HA3 _).mono ?_
            rintro e w5 ⟨rfl, hb5⟩
            have HB5 := hide ((unhide HB4).trans (hb5.mono (unhide HB4).size))
            clear hb5
            go_wp2_with fail
            refine (unhide HA4 _).mono ?_
            rintro e w6 ⟨rfl, hb6⟩
            have HB6 := hide ((unhide HB5).trans (hb6.mono (unhide HB5).size))
            clear hb6
            go_wp2_with fail
            refine (unhide HK _).mono ?_
            rintro e w7 ⟨ao, cap, rfl, hrow, hb7⟩
            have HB7 := hide ((unhide HB6).trans (hb7.mono (unhide HB6).size))
            clear hb7 hrow
            go_wp2
            go_ret
            exact ⟨ret_bool (by simp), unhide HB7⟩
      · have hb := apply_bad h2
        have hb1 := hb.1
        rw [hb1] at HA2
        have h2n : ((applyT (sl tr) (sl s)).2.2 != 0) = true := by rw [bne_iff_ne]; exact h2
        clear hb hb1 hc h2
        generalize applyT (sl tr) (sl s) = A2 at *
        go_enter Tryd.func3, Tryd.ntmps3
        go_wp2_with fail
        refine (unhide HA0 _).mono ?_
        rintro e w1 ⟨rfl, hb1⟩
        have HB1 := hide hb1
        clear hb1
        go_wp2_with fail
        refine (unhide HC _).mono ?_
        rintro e w2 ⟨rfl, hb2⟩
        have HB2 := hide ((unhide HB1).trans (hb2.mono (unhide HB1).size))
        clear hb2
        go_wp2_with fail
        refine (unhide HA1 _).mono ?_
        rintro e w3 ⟨rfl, hb3⟩
        have HB3 := hide ((unhide HB2).trans (hb3.mono (unhide HB2).size))
        clear hb3
        go_wp2_with fail
        refine (unhide HA2 _).mono ?_
        rintro e w4 ⟨rfl, hb4⟩
        have HB4 := hide ((unhide HB3).trans (hb4.mono (unhide HB3).size))
        clear hb4
        go_wp2
        go_ret
        exact ⟨ret_bool (by simp), unhide HB4⟩
  · rw [if_neg hc] at HA1
    have hcn : ((checkT (sl tr)).1 != 0) = true := by rw [bne_iff_ne]; exact hc
    have hce : ((checkT (sl tr)).1 == 0) = false := by rw [beq_eq_false_iff_ne]; exact hc
    by_cases hs : 4000 < s.size
    · rw [apply_long (by rw [sl_length]; exact hs)] at HA2
      clear hc
      generalize checkT (sl tr) = c at *
      go_enter Tryd.func3, Tryd.ntmps3
      go_wp2_with fail
      refine (unhide HA0 _).mono ?_
      rintro e w1 ⟨rfl, hb1⟩
      have HB1 := hide hb1
      clear hb1
      go_wp2_with fail
      refine (unhide HC _).mono ?_
      rintro e w2 ⟨rfl, hb2⟩
      have HB2 := hide ((unhide HB1).trans (hb2.mono (unhide HB1).size))
      clear hb2
      go_wp2_with fail
      refine (unhide HA1 _).mono ?_
      rintro e w3 ⟨rfl, hb3⟩
      have HB3 := hide ((unhide HB2).trans (hb3.mono (unhide HB2).size))
      clear hb3
      go_wp2_with fail
      refine (unhide HA2 _).mono ?_
      rintro e w4 ⟨rfl, hb4⟩
      have HB4 := hide ((unhide HB3).trans (hb4.mono (unhide HB3).size))
      clear hb4
      go_wp2
      go_ret
      exact ⟨ret_bool (by simp), unhide HB4⟩
    · have h2 : (applyT (sl tr) (sl s)).2.2 ≠ 0 := fun h => hc (apply_good h).2.1
      have hb := apply_bad h2
      have hb1 := hb.1
      have hb2 := hb.2 (by rw [sl_length]; omega) hc
      rw [hb1, hb2] at HA2
      clear hb hb1 hb2 hc h2
      generalize checkT (sl tr) = c at *
      generalize applyT (sl tr) (sl s) = A2 at *
      go_enter Tryd.func3, Tryd.ntmps3
      go_wp2_with fail
      refine (unhide HA0 _).mono ?_
      rintro e w1 ⟨rfl, hb1⟩
      have HB1 := hide hb1
      clear hb1
      go_wp2_with fail
      refine (unhide HC _).mono ?_
      rintro e w2 ⟨rfl, hb2⟩
      have HB2 := hide ((unhide HB1).trans (hb2.mono (unhide HB1).size))
      clear hb2
      go_wp2_with fail
      refine (unhide HA1 _).mono ?_
      rintro e w3 ⟨rfl, hb3⟩
      have HB3 := hide ((unhide HB2).trans (hb3.mono (unhide HB2).size))
      clear hb3
      go_wp2_with fail
      refine (unhide HA2 _).mono ?_
      rintro e w4 ⟨rfl, hb4⟩
      have HB4 := hide ((unhide HB3).trans (hb4.mono (unhide HB3).size))
      clear hb4
      go_wp2
      go_ret
      exact ⟨ret_bool (by simp), unhide HB4⟩
end Go.Proofs.YtkahmbpggdneoaaDoor
