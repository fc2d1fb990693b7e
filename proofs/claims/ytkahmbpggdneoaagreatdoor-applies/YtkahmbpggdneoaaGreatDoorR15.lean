import Derived.Test.YtkahmbpggdneoaaGreatDoorR14
import Derived.Test.YtkahmbpggdneoaaGreatDoorRPure6
import Derived.Test.YtkahmbpggdneoaaGreatDoorW16
namespace Go.Proofs.YtkahmbpggdneoaaGreatDoor
open Go.RowKit
theorem rep_trOf {ns : List Nd} {t : Tr} (h : Rep ns t) : trOf ns = t := funext h.look
theorem rep_step {ns : List Nd} {t : Tr} (h : Rep ns t) (hv : Valid t) {s : St} (hs : StOk s) (he : stepE t s = 0) : Rep (lastR ns s) (stepT t s) := by
  unfold lastR stepT
  rw [if_pos he]
  rcases hs with ⟨hk, hn⟩ | ⟨hk, _⟩
  · have h45 : ¬ s.kind = 45 := by rcases hk with e | e <;> (rw [e]; decide)
    rw [if_neg h45, decide_eq_true (show s.kind ≠ 45 from h45)]
    exact rep_put h hv.ok hn
  · rw [if_pos hk, decide_eq_false (fun hh => hh hk)]
    exact rep_remove h hv.ok s.node
set_option maxHeartbeats 2000000 in
set_option maxRecDepth 100000 in
theorem rapply_any (s sc : ByteArray) (w : World) :
    Calls Tryz.prog 22 #[.string s, .string sc] w fun e w' => e = .returned (.tuple #[.string (bs (applyT (sl s) (sl sc)).1), .int .i64 (applyT (sl s) (sl sc)).2.1, .int .i64 (applyT (sl s) (sl sc)).2.2]) ∧ Below w.heap.size w w' := by
  by_cases hL : 4000 < s.size ∨ 4000 < sc.size
  · have HA := hide (applyT_long (l := sl s) (sc := sl sc) (by rw [sl_length, sl_length]; exact hL))
    generalize applyT (sl s) (sl sc) = A at *
    have hL' : 4000 < s.size ∨ (¬ 4000 < s.size ∧ 4000 < sc.size) := by omega
    clear hL
    rcases hL' with h | ⟨h, h'⟩
    all_goals
      go_enter Tryz.func22, Tryz.ntmps22
      go_wp2
      go_ret3
      exact ⟨ret_sii (unhide HA), Below.refl _ _⟩
  · have hLl : ¬ (4000 < (sl s).length ∨ 4000 < (sl sc).length) := by rw [sl_length, sl_length]; exact hL
    have h4 : ¬ 4000 < s.size := by omega
    have h5 : ¬ 4000 < sc.size := by omega
    have HCK := hide (fun W => rcheck_any s W)
    rw [check_same] at HCK
    by_cases hC : (checkT (sl s)).1 ≠ 0
    · have HA := hide (applyT_check hLl hC)
      have hC' : ((checkT (sl s)).1 != 0) = true := by rw [bne_iff_ne]; exact hC
      generalize applyT (sl s) (sl sc) = A at *
      generalize checkT (sl s) = c at *
      clear hC hL hLl
      go_enter Tryz.func22, Tryz.ntmps22
      go_wp2_with fail
      refine (unhide HCK _).mono ?_
      rintro e w1 ⟨rfl, hb1⟩
      go_wp2
      go_ret3
      exact ⟨ret_sii (unhide HA), hb1⟩
    · have hc0 : (checkT (sl s)).1 = 0 := Classical.not_not.1 hC
      rw [hc0] at HCK
      have hfull := (check_parts hc0).2.2.1
      have HREP := hide (rep_read hc0)
      have HVAL := hide (valid_of_check hc0)
      have HND := hide (fun W => nodes_any s W (by omega))
      have HSR := hide (fun W => rsteps_any sc W (by omega))
      have HSO := hide (readSteps_ok (cut (sl sc)))
      have hsl := readSteps_length (cut (sl sc))
      have hcl : (cut (sl sc)).length ≤ 4000 := by have := cut_length_le (sl sc); rw [sl_length] at this; omega
      by_cases hS : (readSteps (cut (sl sc))).length < (cut (sl sc)).length
      · have HA := hide (applyT_step hLl hC hS)
        generalize applyT (sl s) (sl sc) = A at *
        generalize (checkT (sl s)).2 = c2 at *
        generalize readNodes (cut (sl s)) = ns at *
        generalize readSteps (cut (sl sc)) = ss at *
        clear hC hL hLl hc0
        go_enter Tryz.func22, Tryz.ntmps22
        go_wp2_with fail
        refine (unhide HCK _).mono ?_
        rintro e w1 ⟨rfl, hb1⟩
        go_wp2_with fail
        refine (unhide HND _).mono ?_
        rintro e w2 ⟨⟨hno, _⟩ | ⟨_, ao, cap, rfl, hrow, hcap⟩, hb2⟩
        · exact absurd hno hfull
        · clear hrow hcap
          go_wp2_with fail
          refine (unhide HSR _).mono ?_
          rintro e w3 ⟨⟨_, rfl⟩ | ⟨hno, _⟩, hb3⟩
          · have HB := hide ((hb1.trans (hb2.mono hb1.size)).trans (hb3.mono (hb1.trans (hb2.mono hb1.size)).size))
            clear hb1 hb2 hb3
            go_wp2
            go_ret3
            exact ⟨ret_sii (unhide HA), unhide HB⟩
          · exact absurd hS hno
      · have HA1 : Hid ((doAllE (readSteps (cut (sl sc))) (gather (readNodes (cut (sl s)))) 0).1 ≠ 0 → applyT (sl s) (sl sc) = ([], (doAllE (readSteps (cut (sl sc))) (gather (readNodes (cut (sl s)))) 0).2, (doAllE (readSteps (cut (sl sc))) (gather (readNodes (cut (sl s)))) 0).1)) := hide (fun h => applyT_do hLl hC hS h)
        have HA2 : Hid ((doAllE (readSteps (cut (sl sc))) (gather (readNodes (cut (sl s)))) 0).1 = 0 → applyT (sl s) (sl sc) = (textT (doAllT (readSteps (cut (sl sc))) (gather (readNodes (cut (sl s))))), 0, 0)) := hide (fun h => applyT_ok hLl hC hS (fun hh => hh h))
        generalize applyT (sl s) (sl sc) = A at *
        generalize (checkT (sl s)).2 = c2 at *
        generalize readNodes (cut (sl s)) = ns at *
        generalize readSteps (cut (sl sc)) = ss at *
        generalize gather ns = t at *
        have hssl : ss.length ≤ 4000 := by omega
        clear hC hL hLl hc0
        have HI0 : Hid (doAllE ss t 0 = doAllE (ss.drop 0) t 0 ∧ doAllT ss t = doAllT (ss.drop 0) t) := hide ⟨rfl, rfl⟩
        generalize doAllE ss t 0 = E at *
        generalize doAllT ss t = T at *
        go_enter Tryz.func22, Tryz.ntmps22
        go_wp2_with fail
        refine (unhide HCK _).mono ?_
        rintro e w1 ⟨rfl, hb1⟩
        go_wp2_with fail
        refine (unhide HND _).mono ?_
        rintro e w2 ⟨⟨hno, _⟩ | ⟨_, ao, cap, rfl, hrow, hcap⟩, hb2⟩
        · exact absurd hno hfull
        · have HROW := hide hrow
          clear hrow hcap
          go_wp2_with fail
          refine (unhide HSR _).mono ?_
          rintro e w3 ⟨⟨hyes, _⟩ | ⟨_, ao2, cap2, rfl, hrow2⟩, hb3⟩
          · exact absurd hyes hS
          · have HB := hide ((hb1.trans (hb2.mono hb1.size)).trans (hb3.mono (hb1.trans (hb2.mono hb1.size)).size))
            have HROW3 := hide ((unhide HROW).below hb3)
            have HSROW := hide hrow2
            clear hb1 hb2 hb3 hrow2 HROW HCK HND HSR
            go_wp2
            go_loopw [9, 13] (fun v i wr => ∃ k : Nat, ∃ ns' : List Nd, ∃ t' : Tr, ∃ ao' : Option Addr, ∃ cap' : Nat, k ≤ ss.length ∧ v = .slice ao' ns'.length cap' ∧ i = .int .i64 k ∧ Hid (Row wr ao' ns'.length 3 (ndCells ns')) ∧ Hid (Below w3.heap.size w3 wr) ∧ Hid (Rep ns' t' ∧ Valid t') ∧ Hid (E = doAllE (ss.drop k) t' k ∧ T = doAllT (ss.drop k) t')) (fun _ i _ => ss.length - (intOf i).toNat)
            case atStart => exact ⟨0, ns, t, ao, cap, Nat.zero_le _, rfl, rfl, HROW3, hide (Below.refl _ _), hide ⟨unhide HREP, unhide HVAL⟩, HI0⟩
            case round =>
              obtain ⟨k, ns', t', ao', cap', hk, rfl, rfl, HR, HBL, HRV, HI⟩ := hrel
              have hnl := rep_len (unhide HRV).1
              by_cases hlt : k < ss.length
              · obtain ⟨g, hao, hg, c0, c1, c2', c3⟩ := st_cells ((unhide HSROW).below (unhide HBL)) hlt
                have HSK := hide (unhide HSO _ (List.getElem_mem hlt))
                have HDO := hide (rdo_any ns' ss[k] ao' cap' wr (unhide HR) (by omega) (unhide HSK))
                rw [doR_same (unhide HRV).1 (unhide HRV).2 (unhide HSK)] at HDO
                rw [hao]
                clear hao
                by_cases hE : stepE t' ss[k] = 0
                · have HI2 := hide (doAll_cons hlt hE)
                  have HRV2 : Hid (Rep (lastR ns' ss[k]) (stepT t' ss[k]) ∧ Valid (stepT t' ss[k])) := hide ⟨rep_step (unhide HRV).1 (unhide HRV).2 (unhide HSK) hE, valid_step (unhide HRV).2 (unhide HSK)⟩
                  rw [hE] at HDO
                  clear hE
                  generalize lastR ns' ss[k] = L at *
                  generalize stepT t' ss[k] = t2 at *
                  generalize ss[k] = st at *
                  go_wp2_with fail
                  refine (unhide HDO).mono ?_
                  rintro e w4 ⟨⟨hne, _⟩ | ⟨_, ao3, cap3, rfl, hr⟩, hb4⟩
                  · exact absurd rfl hne
                  · have HR4 := hide hr
                    have HB4 := hide ((unhide HBL).trans (hb4.mono (unhide HBL).size))
                    clear hr hb4 c0 c1 c2' c3
                    go_wp2
                    go_roundw
                    case rel => exact ⟨k + 1, L, t2, ao3, cap3, by omega, rfl, by go_num, HR4, HB4, HRV2, hide ⟨(unhide HI).1.trans (unhide HI2).1, (unhide HI).2.trans (unhide HI2).2⟩⟩
                    case measure => simp [intOf]; omega
                · have HI2 := hide (doAll_stop hlt hE)
                  have hE' : (stepE t' ss[k] != 0) = true := by rw [bne_iff_ne]; exact hE
                  have HEN := hide hE
                  clear hE
                  generalize stepE t' ss[k] = ee at *
                  generalize ss[k] = st at *
                  go_wp2_with fail
                  refine (unhide HDO).mono ?_
                  rintro e w4 ⟨⟨_, rfl⟩ | ⟨h0, _⟩, hb4⟩
                  · have HB4 := hide ((unhide HBL).trans (hb4.mono (unhide HBL).size))
                    clear hb4 c0 c1 c2' c3
                    go_wp2
                    go_ret3
                    have hEE : E = (ee, k) := (unhide HI).1.trans (unhide HI2).1
                    exact ⟨ret_sii (by rw [unhide HA1 (by rw [hEE]; exact unhide HEN), hEE]), (unhide HB).trans ((unhide HB4).mono (unhide HB).size)⟩
                  · exact absurd h0 (unhide HEN)
              · have HE : Hid (E = (0, 0) ∧ T = t') := by
                  apply hide; rw [(unhide HI).1, (unhide HI).2, List.drop_eq_nil_of_le (by omega)]; exact ⟨rfl, rfl⟩
                have HPR := hide (print_any ns' ao' cap' wr (unhide HR) (by omega) (by rw [rep_trOf (unhide HRV).1]; exact (unhide HRV).2.ok))
                rw [rep_trOf (unhide HRV).1] at HPR
                go_wp2_with fail
                refine (unhide HPR).mono ?_
                rintro e w4 ⟨rfl, hb4⟩
                have HB4 := hide ((unhide HBL).trans (hb4.mono (unhide HBL).size))
                clear hb4
                go_wp2
                go_ret3
                refine ⟨ret_sii (by rw [unhide HA2 (by rw [(unhide HE).1]), (unhide HE).2]), (unhide HB).trans ((unhide HB4).mono (unhide HB).size)⟩
end Go.Proofs.YtkahmbpggdneoaaGreatDoor
