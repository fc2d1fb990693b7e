import Derived.Test.YtdcjimlhaklhfabGreatDoorHi5
import Derived.Test.YtdcjimlhaklhfabGreatDoorHi9
import Derived.BigQuiet
import Derived.Test.YtdcjimlhaklhfabGreatDoorHi8
import Derived.Test.YtdcjimlhaklhfabGreatDoorHi3
import Derived.Test.YtdcjimlhaklhfabGreatDoorHi6
import Derived.Test.YtdcjimlhaklhfabGreatDoorHi2
import Derived.Test.YtdcjimlhaklhfabGreatDoorHi7
import Derived.Laws.StructEq
namespace Go.Proofs.YtdcjimlhaklhfabGreatDoor
open Go.RowKit
/-! pick: which of n things. -/
def pickT (c : Int) (n : Nat) : Nat := ((if c < 0 then -(c + 1) else c) % n).toNat
theorem pickT_lt (c : Int) {n : Nat} (h : 0 < n) : pickT c n < n := by
  unfold pickT
  have h1 := Int.emod_nonneg (if c < 0 then -(c + 1) else c) (show (n : Int) ≠ 0 by omega)
  have h2 := Int.emod_lt_of_pos (if c < 0 then -(c + 1) else c) (show (0 : Int) < n by omega)
  omega
theorem pickT_int (c : Int) {n : Nat} (h : 0 < n) : ((pickT c n : Nat) : Int) = (if c < 0 then -(c + 1) else c) % n := by
  unfold pickT
  exact Int.toNat_of_nonneg (Int.emod_nonneg _ (show (n : Int) ≠ 0 by omega))
set_option maxHeartbeats 1000000 in
theorem pick_any (c : Int) (n : Nat) (w : World) (hn : 0 < n) (hn2 : n ≤ 10000000000000) (h0 : -9223372036854775808 ≤ c) (h1 : c ≤ 9223372036854775807) :
    Calls Tryz.prog 44 #[.int .i64 c, .int .i64 n] w fun e w' => e = .returned (.int .i64 (pickT c n)) ∧ w' = w := by
  have HP := hide (pickT_int c hn)
  generalize pickT c n = p at *
  by_cases hc : c < 0
  · have hd : decide (c < 0) = true := by simpa using hc
    have HP2 : Hid ((p : Int) = -((c + 1).tmod n)) := by apply hide; rw [unhide HP, if_pos hc, ← Int.neg_tmod]; exact (Int.tmod_eq_emod_of_nonneg (by omega)).symm
    go_enter Tryz.func44, Tryz.ntmps44
    go_wp2
    go_ret
    exact ⟨ret_int (by rw [unhide HP2]), rfl⟩
  · have hd : decide (c < 0) = false := by simpa using hc
    have HP2 : Hid ((p : Int) = c % n) := by apply hide; rw [unhide HP, if_neg hc]
    have hc0 : 0 ≤ c := by omega
    go_enter Tryz.func44, Tryz.ntmps44
    go_wp2
    go_ret
    exact ⟨ret_int (by rw [unhide HP2]), rfl⟩
theorem PairOk.sep1 {w : World} {p : PS} (h : PairOk w p) : ¬ Foot p.rb p.v p.pb := by
  rintro (e | e)
  · have h1 : tyAt w p.rb 69 := ⟨_, _, h.rep.at'⟩
    rw [← e] at h1
    exact absurd (tyAt_inj ⟨_, _, h.at'⟩ h1) (by decide)
  · exact absurd (tyAt_inj ⟨_, _, h.at'⟩ (tyAt_own h.rep.own _ e)) (by decide)
theorem PairOk.sep2 {w : World} {p : PS} (h : PairOk w p) : ∀ k, p.u.ownBlock = some k → ¬ Foot p.rb p.v k := by
  intro k hk
  have ht := tyAt_own h.log k hk
  rintro (e | e)
  · subst e
    exact absurd (tyAt_inj ht ⟨_, _, h.rep.at'⟩) (by decide)
  · exact absurd (tyAt_inj ht (tyAt_own h.rep.own _ e)) (by decide)
/-- What a call on a pair leaves. -/
def PairPost (p : PS) (w : World) (e : Ending) (w' : World) : Prop := e = .returned (.bool true) ∧ ∃ p' : PS, p'.pb = p.pb ∧ PairOk w' p' ∧ Keeps (PFoot p) w w' ∧ ∀ k, PFoot p' k → PFoot p k ∨ w.heap.size ≤ k
set_option maxHeartbeats 2000000 in
theorem pdelivered_any (p : PS) (s : ByteArray) (w : World) (h : PairOk w p) :
    Calls Tryz.prog 45 #[.pointer (some ⟨p.pb, 0, none⟩), .string s] w (PairPost p w) := by
  have c0 := h.cell0
  have HD := hide (deliver_any p.L s p.rb p.site p.v w h.rep)
  have HREF := hide (fun W (hh : W.ownsRow 0 146 5 p.u p.L.length (loCells p.L)) => delivered_ref p.L s p.u W hh h.rep.ok.2.2)
  have hpl : p.pb < w.heap.size := lt_of_block h.at'
  have HH := hide h; clear h
  generalize hdt : deliverT p.L (sl s) = dt at *
  clear hdt
  obtain ⟨L', n, e⟩ := dt
  simp only at HD HREF
  go_enter Tryz.func45, Tryz.ntmps45
  go_wp2_with fail
  refine (unhide HD).mono ?_
  rintro e1 w1 ⟨rfl, v', hR1, hK1, hM1⟩
  have hat1 : PairAt w1 p := by unfold PairAt; rw [hK1.block p.pb hpl (unhide HH).sep1]; exact (unhide HH).at'
  have HLG1 := hide (own_kept (unhide HH).log hK1 (unhide HH).sep2)
  have c2 : w1.cell? ⟨p.pb, 2, none⟩ = some p.u := by rw [cell_of_row w1 p.pb 2 _ _ _ hat1]; rfl
  have HAT1 := hide hat1
  have HR1 := hide hR1
  have HK1 := hide hK1
  have HM1 := hide hM1
  clear hat1 hR1 hK1 hM1 c0
  go_wp2_with fail
  refine (unhide HREF _ (by exact unhide HLG1)).mono ?_
  rintro e2 w2 ⟨u', rfl, hO2, hLM, hb2⟩
  obtain ⟨uo, uc, hu', _⟩ := row_of_owns hO2
  subst hu'
  have hpl1 : p.pb < w1.heap.size := lt_of_block (unhide HAT1)
  have hat2 : w2.heap[p.pb]? = some (.cells #[.pointer (some ⟨p.rb, 0, none⟩), .int .i64 p.site, p.u] 101 (0, 0)) := (hb2.block p.pb hpl1).trans (unhide HAT1)
  have d2 : w2.cell? ⟨p.pb, 2, none⟩ = some p.u := by rw [cell_of_row w2 p.pb 2 _ _ _ hat2]; rfl
  have df : ∀ j, w2.frozen? ⟨p.pb, j, none⟩ = false := fun j => by simp [World.frozen?, hat2]
  have HF : Hid (∃ p' : PS, p'.pb = p.pb ∧ PairOk (w2.setCell ⟨p.pb, 2, none⟩ (.slice uo L'.length uc)) p' ∧ Keeps (PFoot p) w (w2.setCell ⟨p.pb, 2, none⟩ (.slice uo L'.length uc)) ∧ ∀ k, PFoot p' k → PFoot p k ∨ w.heap.size ≤ k) := by
    apply hide
    have hR2 := (unhide HR1).below hb2
    have hks := Keeps.set w2 p.pb 2 (.slice uo L'.length uc)
    have htp : tyAt w2 p.pb 101 := ⟨_, _, hat2⟩
    refine ⟨⟨p.pb, p.rb, p.site, v', .slice uo L'.length uc, L'⟩, rfl, ⟨?_, ?_, ?_, (unhide HH).site⟩, ?_, ?_⟩
    · unfold PairAt; rw [heap_setCell_same w2 p.pb 2 _ _ _ hat2]; rfl
    · refine hR2.kept hks (fun k hf e => ?_)
      have e' : k = p.pb := e
      subst e'
      rcases hf with hf | hf
      · have hty : tyAt w2 p.rb 69 := ⟨_, _, hR2.at'⟩
        have hf' : p.pb = p.rb := hf
        rw [← hf'] at hty
        exact absurd (tyAt_inj htp hty) (by decide)
      · exact absurd (tyAt_inj htp (tyAt_own hR2.own _ hf)) (by decide)
    · refine own_kept hO2 hks (fun k hk e => ?_)
      have e' : k = p.pb := e
      subst e'
      exact absurd (tyAt_inj htp (tyAt_own hO2 _ hk)) (by decide)
    · refine ((((unhide HK1).mono (T := PFoot p) (fun k _ hf => ?_)).trans (Keeps.of_below (S := fun _ => False) hb2 (fun k h1 h2 => by omega)) (fun _ _ h => h.elim)).trans hks (fun k _ e => .inl e))
      rcases hf with hf | hf
      · exact .inr (.inl hf)
      · exact .inr (.inr (.inl hf))
    · intro k hk
      rcases hk with hk | hk | hk | hk
      · exact .inl (.inl hk)
      · exact .inl (.inr (.inl hk))
      · rcases unhide HM1 with hm | ⟨q, hm, hq⟩
        · exact .inl (.inr (.inr (.inl (hm ▸ hk))))
        · right
          have hk' : v'.ownBlock = some k := hk
          rw [hm] at hk'; cases hk'; exact hq
      · rcases hLM with hm | hm
        · have hk' : (Value.slice uo L'.length uc).ownBlock = some k := hk
          rw [hm] at hk'; exact .inl (.inr (.inr (.inr hk')))
        · have := hm k hk
          have := (unhide HK1).size
          exact .inr (by omega)
  clear hO2 hLM hb2 hat2 c2
  go_wp2_with go_in
  go_ret
  exact ⟨by simp, unhide HF⟩
theorem viewR_text {L : List Lo} (h : ∀ x ∈ L, LoOk x) : trOf (viewR L) = viewT (places L) := funext fun i => (viewR_rep h).look i
set_option maxHeartbeats 1000000 in
theorem pview_any (p : PS) (w : World) (h : PairOk w p) :
    Calls Tryz.prog 50 #[.pointer (some ⟨p.pb, 0, none⟩)] w fun e w' => e = .returned (.string (bs (textT (viewT (places p.L))))) ∧ Below w.heap.size w w' := by
  have c2 := h.cell2
  obtain ⟨ao, ca, hu, hrow⟩ := row_of_owns h.log
  rw [hu] at c2
  have hll := h.rep.ok.2.2
  have HV := hide (rview_any p.L ao ca w hrow h.rep.ok.2.1 (by omega))
  have HTX := hide (viewR_text h.rep.ok.2.1)
  have HOK := hide (view_valid (places_ok h.rep.ok.2.1)).ok
  have hvl := rep_len (viewR_rep h.rep.ok.2.1)
  have HPR : Hid (∀ fo cf W, Row W fo (viewR p.L).length 3 (ndCells (viewR p.L)) → Calls Tryz.prog 89 #[.slice fo (viewR p.L).length cf] W fun e w' => e = .returned (.string (bs (textT (viewT (places p.L))))) ∧ Below W.heap.size W w') := by
    apply hide; intro fo cf W hr
    have := print_any (viewR p.L) fo cf W hr (by omega) (by rw [unhide HTX]; exact unhide HOK)
    rw [unhide HTX] at this; exact this
  clear h hrow hu
  generalize viewR p.L = vr at *
  generalize textT (viewT (places p.L)) = tx at *
  go_enter Tryz.func50, Tryz.ntmps50
  go_wp2_with fail
  refine (unhide HV).mono ?_
  rintro e w1 ⟨fo, cf, rfl, hr1, hb1⟩
  have HR1 := hide hr1; clear hr1
  go_wp2_with fail
  refine (unhide HPR _ _ _ (by exact unhide HR1)).mono ?_
  rintro e w2 ⟨rfl, hb2⟩
  have HB2 := hide (hb1.trans (hb2.mono hb1.size))
  clear hb2
  go_wp2
  go_ret
  exact ⟨rfl, unhide HB2⟩
set_option maxHeartbeats 1000000 in
theorem shows_log (p : PS) (w : World) (h : PairOk w p) (htab : Tab w) :
    Calls Tryz.prog 51 #[.pointer (some ⟨p.pb, 0, none⟩), .int .i64 7] w fun e w' => e = .returned (.bool true) ∧ Below w.heap.size w w' := by
  have c0 := h.cell0
  have HL := hide (log_any p.L p.rb p.site p.v w h.rep htab)
  obtain ⟨ao, ca, hu, hrow⟩ := row_of_owns h.log
  have hll := h.rep.ok.2.2
  have HW := hide (fun W (hr : Row W ao p.L.length 5 (loCells p.L)) => written_any p.L ao ca W hr h.rep.ok.2.1 (by omega))
  have HH := hide h
  have HROW := hide hrow
  have hpl : p.pb < w.heap.size := lt_of_block h.at'
  clear h hrow htab
  have hbb : ((bs (logText p.L)).toList == (bs (logText p.L)).toList) = true := by simp
  generalize bs (logText p.L) = tx at *
  go_enter Tryz.func51, Tryz.ntmps51
  go_wp2_with fail
  refine (unhide HL).mono ?_
  rintro e w1 ⟨rfl, hb1⟩
  have c2 : w1.cell? ⟨p.pb, 2, none⟩ = some (.slice ao p.L.length ca) := by rw [hb1.cell (p := ⟨p.pb, 2, none⟩) hpl, (unhide HH).cell2, hu]
  have HR1 := hide ((unhide HROW).below hb1)
  clear c0
  go_wp2_with fail
  refine (unhide HW _ (by exact unhide HR1)).mono ?_
  rintro e w2 ⟨rfl, hb2⟩
  have HB2 := hide (hb1.trans (hb2.mono hb1.size))
  clear hb2 c2
  go_wp2
  go_ret
  exact ⟨ret_bool (by simp), unhide HB2⟩
set_option maxHeartbeats 1000000 in
theorem shows_export (p : PS) (kd : Int) (w : World) (h : PairOk w p) (hk : kd ≠ 7) :
    Calls Tryz.prog 51 #[.pointer (some ⟨p.pb, 0, none⟩), .int .i64 kd] w fun e w' => e = .returned (.bool true) ∧ Below w.heap.size w w' := by
  have hk7 : (kd == 7) = false := by simpa using hk
  have c0 := h.cell0
  have HE := hide (export_any p.L p.rb p.site p.v w h.rep)
  have HV := hide (fun W (hh : PairOk W p) => pview_any p W hh)
  have HH := hide h
  clear h hk
  have hbb : ((bs (textT (viewT (places p.L)))).toList == (bs (textT (viewT (places p.L)))).toList) = true := by simp
  generalize bs (textT (viewT (places p.L))) = tx at *
  go_enter Tryz.func51, Tryz.ntmps51
  go_wp2_with fail
  refine (unhide HE).mono ?_
  rintro e w1 ⟨rfl, hb1⟩
  have HH1 := hide ((unhide HH).kept (Keeps.of_below (S := fun _ => False) hb1 (fun k h1 h2 => by omega)) (fun _ _ e => e))
  clear c0
  go_wp2_with fail
  refine (unhide HV _ (by exact unhide HH1)).mono ?_
  rintro e w2 ⟨rfl, hb2⟩
  have HB2 := hide (hb1.trans (hb2.mono hb1.size))
  clear hb2
  go_wp2
  go_ret
  exact ⟨ret_bool (by simp), unhide HB2⟩
end Go.Proofs.YtdcjimlhaklhfabGreatDoor

namespace Go.Proofs.YtdcjimlhaklhfabGreatDoor
open Go.RowKit
theorem rep_trOf {ns : List Nd} {t : Tr} (h : Rep ns t) : trOf ns = t := funext h.look
theorem rep_step {ns : List Nd} {t : Tr} (h : Rep ns t) (hv : Valid t) {s : St} (hs : StOk s) (he : stepE t s = 0) : Rep (lastR ns s) (stepT t s) := by
  unfold lastR stepT
  rw [if_pos he]
  rcases hs with ⟨hk, hn⟩ | ⟨hk, _⟩
  · have h45 : ¬ s.kind = 45 := by rcases hk with e | e <;> (rw [e]; decide)
    rw [if_neg h45, decide_eq_true (show s.kind ≠ 45 from h45)]
    exact rep_put h hv.ok hn
  · rw [if_pos hk, decide_eq_false (fun hh => hh hk)]
    exact rep_remove h hv.ok s.node
set_option maxHeartbeats 2000000 in
set_option maxRecDepth 100000 in
theorem rapply_any (s sc : ByteArray) (w : World) :
    Calls Tryz.prog 78 #[.string s, .string sc] w fun e w' => e = .returned (.tuple #[.string (bs (applyT (sl s) (sl sc)).1), .int .i64 (applyT (sl s) (sl sc)).2.1, .int .i64 (applyT (sl s) (sl sc)).2.2]) ∧ Below w.heap.size w w' := by
  by_cases hL : 4000 < s.size ∨ 4000 < sc.size
  · have HA := hide (applyT_long (l := sl s) (sc := sl sc) (by rw [sl_length, sl_length]; exact hL))
    generalize applyT (sl s) (sl sc) = A at *
    have hL' : 4000 < s.size ∨ (¬ 4000 < s.size ∧ 4000 < sc.size) := by omega
    clear hL
    rcases hL' with h | ⟨h, h'⟩
    all_goals
      go_enter Tryz.func78, Tryz.ntmps78
      go_wp2
      go_ret3
      exact ⟨ret_sii (unhide HA), Below.refl _ _⟩
  · have hLl : ¬ (4000 < (sl s).length ∨ 4000 < (sl sc).length) := by rw [sl_length, sl_length]; exact hL
    have h4 : ¬ 4000 < s.size := by omega
    have h5 : ¬ 4000 < sc.size := by omega
    have HCK := hide (fun W => rcheck_any s W)
    rw [check_same] at HCK
    by_cases hC : (checkT (sl s)).1 ≠ 0
    · have HA := hide (applyT_check hLl hC)
      have hC' : ((checkT (sl s)).1 != 0) = true := by rw [bne_iff_ne]; exact hC
      generalize applyT (sl s) (sl sc) = A at *
      generalize checkT (sl s) = c at *
      clear hC hL hLl
      go_enter Tryz.func78, Tryz.ntmps78
      go_wp2_with fail
      refine (unhide HCK _).mono ?_
      rintro e w1 ⟨rfl, hb1⟩
      go_wp2
      go_ret3
      exact ⟨ret_sii (unhide HA), hb1⟩
    · have hc0 : (checkT (sl s)).1 = 0 := Classical.not_not.1 hC
      rw [hc0] at HCK
      have hfull := (check_parts hc0).2.2.1
      have HREP := hide (rep_read hc0)
      have HVAL := hide (valid_of_check hc0)
      have HND := hide (fun W => nodes_any s W (by omega))
      have HSR := hide (fun W => rsteps_any sc W (by omega))
      have HSO := hide (readSteps_ok (cut (sl sc)))
      have hsl := readSteps_length (cut (sl sc))
      have hcl : (cut (sl sc)).length ≤ 4000 := by have := cut_length_le (sl sc); rw [sl_length] at this; omega
      by_cases hS : (readSteps (cut (sl sc))).length < (cut (sl sc)).length
      · have HA := hide (applyT_step hLl hC hS)
        generalize applyT (sl s) (sl sc) = A at *
        generalize (checkT (sl s)).2 = c2 at *
        generalize readNodes (cut (sl s)) = ns at *
        generalize readSteps (cut (sl sc)) = ss at *
        clear hC hL hLl hc0
        go_enter Tryz.func78, Tryz.ntmps78
        go_wp2_with fail
        refine (unhide HCK _).mono ?_
        rintro e w1 ⟨rfl, hb1⟩
        go_wp2_with fail
        refine (unhide HND _).mono ?_
        rintro e w2 ⟨⟨hno, _⟩ | ⟨_, ao, cap, rfl, hrow, hcap⟩, hb2⟩
        · exact absurd hno hfull
        · clear hrow hcap
          go_wp2_with fail
          refine (unhide HSR _).mono ?_
          rintro e w3 ⟨⟨_, rfl⟩ | ⟨hno, _⟩, hb3⟩
          · have HB := hide ((hb1.trans (hb2.mono hb1.size)).trans (hb3.mono (hb1.trans (hb2.mono hb1.size)).size))
            clear hb1 hb2 hb3
            go_wp2
            go_ret3
            exact ⟨ret_sii (unhide HA), unhide HB⟩
          · exact absurd hS hno
      · have HA1 : Hid ((doAllE (readSteps (cut (sl sc))) (gather (readNodes (cut (sl s)))) 0).1 ≠ 0 → applyT (sl s) (sl sc) = ([], (doAllE (readSteps (cut (sl sc))) (gather (readNodes (cut (sl s)))) 0).2, (doAllE (readSteps (cut (sl sc))) (gather (readNodes (cut (sl s)))) 0).1)) := hide (fun h => applyT_do hLl hC hS h)
        have HA2 : Hid ((doAllE (readSteps (cut (sl sc))) (gather (readNodes (cut (sl s)))) 0).1 = 0 → applyT (sl s) (sl sc) = (textT (doAllT (readSteps (cut (sl sc))) (gather (readNodes (cut (sl s))))), 0, 0)) := hide (fun h => applyT_ok hLl hC hS (fun hh => hh h))
        generalize applyT (sl s) (sl sc) = A at *
        generalize (checkT (sl s)).2 = c2 at *
        generalize readNodes (cut (sl s)) = ns at *
        generalize readSteps (cut (sl sc)) = ss at *
        generalize gather ns = t at *
        have hssl : ss.length ≤ 4000 := by omega
        clear hC hL hLl hc0
        have HI0 : Hid (doAllE ss t 0 = doAllE (ss.drop 0) t 0 ∧ doAllT ss t = doAllT (ss.drop 0) t) := hide ⟨rfl, rfl⟩
        generalize doAllE ss t 0 = E at *
        generalize doAllT ss t = T at *
        go_enter Tryz.func78, Tryz.ntmps78
        go_wp2_with fail
        refine (unhide HCK _).mono ?_
        rintro e w1 ⟨rfl, hb1⟩
        go_wp2_with fail
        refine (unhide HND _).mono ?_
        rintro e w2 ⟨⟨hno, _⟩ | ⟨_, ao, cap, rfl, hrow, hcap⟩, hb2⟩
        · exact absurd hno hfull
        · have HROW := hide hrow
          clear hrow hcap
          go_wp2_with fail
          refine (unhide HSR _).mono ?_
          rintro e w3 ⟨⟨hyes, _⟩ | ⟨_, ao2, cap2, rfl, hrow2⟩, hb3⟩
          · exact absurd hyes hS
          · have HB := hide ((hb1.trans (hb2.mono hb1.size)).trans (hb3.mono (hb1.trans (hb2.mono hb1.size)).size))
            have HROW3 := hide ((unhide HROW).below hb3)
            have HSROW := hide hrow2
            clear hb1 hb2 hb3 hrow2 HROW HCK HND HSR
            go_wp2
            go_loopw [9, 13] (fun v i wr => ∃ k : Nat, ∃ ns' : List Nd, ∃ t' : Tr, ∃ ao' : Option Addr, ∃ cap' : Nat, k ≤ ss.length ∧ v = .slice ao' ns'.length cap' ∧ i = .int .i64 k ∧ Hid (Row wr ao' ns'.length 3 (ndCells ns')) ∧ Hid (Below w3.heap.size w3 wr) ∧ Hid (Rep ns' t' ∧ Valid t') ∧ Hid (E = doAllE (ss.drop k) t' k ∧ T = doAllT (ss.drop k) t')) (fun _ i _ => ss.length - (intOf i).toNat)
            case atStart => exact ⟨0, ns, t, ao, cap, Nat.zero_le _, rfl, rfl, HROW3, hide (Below.refl _ _), hide ⟨unhide HREP, unhide HVAL⟩, HI0⟩
            case round =>
              obtain ⟨k, ns', t', ao', cap', hk, rfl, rfl, HR, HBL, HRV, HI⟩ := hrel
              have hnl := rep_len (unhide HRV).1
              by_cases hlt : k < ss.length
              · obtain ⟨g, hao, hg, c0, c1, c2', c3⟩ := st_cells ((unhide HSROW).below (unhide HBL)) hlt
                have HSK := hide (unhide HSO _ (List.getElem_mem hlt))
                have HDO := hide (rdo_any ns' ss[k] ao' cap' wr (unhide HR) (by omega) (unhide HSK))
                rw [doR_same (unhide HRV).1 (unhide HRV).2 (unhide HSK)] at HDO
                rw [hao]
                clear hao
                by_cases hE : stepE t' ss[k] = 0
                · have HI2 := hide (doAll_cons hlt hE)
                  have HRV2 : Hid (Rep (lastR ns' ss[k]) (stepT t' ss[k]) ∧ Valid (stepT t' ss[k])) := hide ⟨rep_step (unhide HRV).1 (unhide HRV).2 (unhide HSK) hE, valid_step (unhide HRV).2 (unhide HSK)⟩
                  rw [hE] at HDO
                  clear hE
                  generalize lastR ns' ss[k] = L at *
                  generalize stepT t' ss[k] = t2 at *
                  generalize ss[k] = st at *
                  go_wp2_with fail
                  refine (unhide HDO).mono ?_
                  rintro e w4 ⟨⟨hne, _⟩ | ⟨_, ao3, cap3, rfl, hr⟩, hb4⟩
                  · exact absurd rfl hne
                  · have HR4 := hide hr
                    have HB4 := hide ((unhide HBL).trans (hb4.mono (unhide HBL).size))
                    clear hr hb4 c0 c1 c2' c3
                    go_wp2
                    go_roundw
                    case rel => exact ⟨k + 1, L, t2, ao3, cap3, by omega, rfl, by go_num, HR4, HB4, HRV2, hide ⟨(unhide HI).1.trans (unhide HI2).1, (unhide HI).2.trans (unhide HI2).2⟩⟩
                    case measure => simp [intOf]; omega
                · have HI2 := hide (doAll_stop hlt hE)
                  have hE' : (stepE t' ss[k] != 0) = true := by rw [bne_iff_ne]; exact hE
                  have HEN := hide hE
                  clear hE
                  generalize stepE t' ss[k] = ee at *
                  generalize ss[k] = st at *
                  go_wp2_with fail
                  refine (unhide HDO).mono ?_
                  rintro e w4 ⟨⟨_, rfl⟩ | ⟨h0, _⟩, hb4⟩
                  · have HB4 := hide ((unhide HBL).trans (hb4.mono (unhide HBL).size))
                    clear hb4 c0 c1 c2' c3
                    go_wp2
                    go_ret3
                    have hEE : E = (ee, k) := (unhide HI).1.trans (unhide HI2).1
                    exact ⟨ret_sii (by rw [unhide HA1 (by rw [hEE]; exact unhide HEN), hEE]), (unhide HB).trans ((unhide HB4).mono (unhide HB).size)⟩
                  · exact absurd h0 (unhide HEN)
              · have HE : Hid (E = (0, 0) ∧ T = t') := by
                  apply hide; rw [(unhide HI).1, (unhide HI).2, List.drop_eq_nil_of_le (by omega)]; exact ⟨rfl, rfl⟩
                have HPR := hide (print_any ns' ao' cap' wr (unhide HR) (by omega) (by rw [rep_trOf (unhide HRV).1]; exact (unhide HRV).2.ok))
                rw [rep_trOf (unhide HRV).1] at HPR
                go_wp2_with fail
                refine (unhide HPR).mono ?_
                rintro e w4 ⟨rfl, hb4⟩
                have HB4 := hide ((unhide HBL).trans (hb4.mono (unhide HBL).size))
                clear hb4
                go_wp2
                go_ret3
                refine ⟨ret_sii (by rw [unhide HA2 (by rw [(unhide HE).1]), (unhide HE).2]), (unhide HB).trans ((unhide HB4).mono (unhide HB).size)⟩
end Go.Proofs.YtdcjimlhaklhfabGreatDoor

namespace Go.Proofs.YtdcjimlhaklhfabGreatDoor
open Go.RowKit
/-! Scripts between two trees, as the document looks at them: lists of steps. -/
/-- the step home of a node of the second tree -/
def homeB (a : List Nd) (n : Nd) : List St := match lookR a n.id with
  | none => [⟨43, n⟩]
  | some m => if ndEq m n then [] else [⟨61, n⟩]
/-- the step home of a node of the first tree -/
def homeA (b : List Nd) (n : Nd) : List St := match lookR b n.id with
  | none => [⟨45, ⟨n.id, 0, []⟩⟩]
  | some _ => []
def homesR (a b : List Nd) : List St := b.flatMap (homeB a) ++ a.flatMap (homeA b)
theorem flat_take_succ {α : Type} (f : Nd → List α) (l : List Nd) (k : Nat) (h : k < l.length) : (l.take (k + 1)).flatMap f = (l.take k).flatMap f ++ f l[k] := by
  rw [List.take_succ_eq_append_getElem h, List.flatMap_append]; simp
theorem homeB_len (a : List Nd) (n : Nd) : (homeB a n).length ≤ 1 := by
  unfold homeB; split
  · simp
  · split <;> simp
theorem homeA_len (b : List Nd) (n : Nd) : (homeA b n).length ≤ 1 := by
  unfold homeA; split <;> simp
theorem flat_len {α : Type} (f : Nd → List α) (hf : ∀ n, (f n).length ≤ 1) : ∀ l : List Nd, (l.flatMap f).length ≤ l.length := by
  intro l
  induction l with
  | nil => simp
  | cons n l ih => rw [List.flatMap_cons, List.length_append, List.length_cons]; have := hf n; omega
theorem homesR_len (a b : List Nd) : (homesR a b).length ≤ a.length + b.length := by
  unfold homesR; rw [List.length_append]
  have h1 := flat_len (homeB a) (homeB_len a) b
  have h2 := flat_len (homeA b) (homeA_len b) a
  omega
/-- Where a step stands. -/
def atIs (l : List St) (s : St) (i : Nat) : Bool := match l[i]? with
  | none => false
  | some x => stEq x s
/-- Where 'without' stands behind i steps. -/
def WoInv (l : List St) (k i : Nat) (out : List St) : Prop := out = (l.take i).eraseIdx k
theorem woInv_yes {l : List St} {k i : Nat} {out : List St} (h : WoInv l k i out) (hi : i < l.length) (hk : i ≠ k) : WoInv l k (i + 1) (out ++ [l[i]]) := by
  unfold WoInv at *
  rw [List.take_succ_eq_append_getElem hi, h]
  have hl : (l.take i).length = i := by rw [List.length_take]; omega
  rcases Nat.lt_or_ge k i with hlt | hge
  · rw [List.eraseIdx_append_of_lt_length (by omega)]
  · rw [List.eraseIdx_of_length_le (by omega), List.eraseIdx_of_length_le (by rw [List.length_append, hl]; simp; omega)]
theorem woInv_no {l : List St} {k : Nat} {out : List St} (h : WoInv l k k out) (hi : k < l.length) : WoInv l k (k + 1) out := by
  unfold WoInv at *
  have hl : (l.take k).length = k := by rw [List.length_take]; omega
  rw [List.take_succ_eq_append_getElem hi, h, List.eraseIdx_of_length_le (by omega), List.eraseIdx_append_of_length_le (by omega), hl]
  simp
theorem woInv_end {l : List St} {k i : Nat} {out : List St} (h : WoInv l k i out) (hi : ¬ i < l.length) : l.eraseIdx k = out := by
  unfold WoInv at h
  rw [List.take_of_length_le (by omega)] at h; exact h.symm
theorem woInv_len {l : List St} {k i : Nat} {out : List St} (h : WoInv l k i out) : out.length ≤ i := by
  unfold WoInv at h; rw [h]
  have h1 := List.length_eraseIdx_le (l.take i) k
  have h2 : (l.take i).length ≤ i := by rw [List.length_take]; omega
  omega
/-- Where the first loop of 'homes' stands behind i nodes. -/
def HbInv (a b : List Nd) (i : Nat) (out : List St) : Prop := out = (b.take i).flatMap (homeB a)
def HaInv (a b : List Nd) (i : Nat) (out : List St) : Prop := out = b.flatMap (homeB a) ++ (a.take i).flatMap (homeA b)
theorem hbInv_next {a b : List Nd} {i : Nat} {out : List St} (h : HbInv a b i out) (hi : i < b.length) {x : List St} (hx : homeB a b[i] = x) : HbInv a b (i + 1) (out ++ x) := by
  unfold HbInv at *; rw [flat_take_succ _ _ _ hi, h, hx]
theorem hbInv_end {a b : List Nd} {i : Nat} {out : List St} (h : HbInv a b i out) (hi : ¬ i < b.length) : HaInv a b 0 out := by
  unfold HbInv at h; unfold HaInv
  rw [List.take_of_length_le (by omega)] at h; rw [h]; simp
theorem haInv_next {a b : List Nd} {i : Nat} {out : List St} (h : HaInv a b i out) (hi : i < a.length) {x : List St} (hx : homeA b a[i] = x) : HaInv a b (i + 1) (out ++ x) := by
  unfold HaInv at *; rw [flat_take_succ _ _ _ hi, h, hx, List.append_assoc]
theorem haInv_end {a b : List Nd} {i : Nat} {out : List St} (h : HaInv a b i out) (hi : ¬ i < a.length) : homesR a b = out := by
  unfold HaInv at h
  rw [List.take_of_length_le (by omega)] at h; rw [h]; rfl
theorem hbInv_len {a b : List Nd} {i : Nat} {out : List St} (h : HbInv a b i out) (hi : i ≤ b.length) : out.length ≤ i := by
  unfold HbInv at h; rw [h]
  have := flat_len (homeB a) (homeB_len a) (b.take i)
  rw [List.length_take] at this; omega
theorem haInv_len {a b : List Nd} {i : Nat} {out : List St} (h : HaInv a b i out) (hi : i ≤ a.length) : out.length ≤ b.length + i := by
  unfold HaInv at h; rw [h, List.length_append]
  have h1 := flat_len (homeB a) (homeB_len a) b
  have h2 := flat_len (homeA b) (homeA_len b) (a.take i)
  rw [List.length_take] at h2; omega
theorem homeB_new {a : List Nd} {n : Nd} (h : lookR a n.id = none) : homeB a n = [⟨43, n⟩] := by unfold homeB; rw [h]
theorem homeB_same {a : List Nd} {n m : Nd} (h : lookR a n.id = some m) (he : ndEq m n = true) : homeB a n = [] := by unfold homeB; rw [h]; exact if_pos he
theorem homeB_else {a : List Nd} {n m : Nd} (h : lookR a n.id = some m) (he : ndEq m n = false) : homeB a n = [⟨61, n⟩] := by unfold homeB; rw [h]; exact if_neg (by rw [he]; decide)
theorem homeA_gone {b : List Nd} {n : Nd} (h : lookR b n.id = none) : homeA b n = [⟨45, ⟨n.id, 0, []⟩⟩] := by unfold homeA; rw [h]
theorem homeA_kept {b : List Nd} {n m : Nd} (h : lookR b n.id = some m) : homeA b n = [] := by unfold homeA; rw [h]
end Go.Proofs.YtdcjimlhaklhfabGreatDoor

namespace Go.Proofs.YtdcjimlhaklhfabGreatDoor
open Go.RowKit
theorem news_four {w : World} (a b c d : Value) (t : TypeId) : ∀ j x, [a, b, c, d][j]? = some x → (w.alloc (.cells #[a, b, c, d] t)).cell? ((⟨w.heap.size, 0, none⟩ : Addr).add j) = some x := by
  intro j x hx
  exact World.news_of_block (cs := #[a, b, c, d]) (heap_alloc_new w _) j x hx
/-- What Compile refuses. -/
def refusalT (f t : Str) : Int := if 4000 < f.length ∨ 4000 < t.length then 1 else if (checkT f).1 ≠ 0 then (checkT f).1 else (checkT t).1
theorem refusalT_long {f t : Str} (h : 4000 < f.length ∨ 4000 < t.length) : refusalT f t = 1 := by unfold refusalT; rw [if_pos h]
theorem refusalT_from {f t : Str} (h : ¬ (4000 < f.length ∨ 4000 < t.length)) (h2 : (checkT f).1 ≠ 0) : refusalT f t = (checkT f).1 := by unfold refusalT; rw [if_neg h, if_pos h2]
theorem refusalT_to {f t : Str} (h : ¬ (4000 < f.length ∨ 4000 < t.length)) (h2 : (checkT f).1 = 0) : refusalT f t = (checkT t).1 := by unfold refusalT; rw [if_neg h, if_neg (fun hh => hh h2)]
set_option maxHeartbeats 1000000 in
theorem refusal_any (s t : ByteArray) (w : World) :
    Calls Tryz.prog 138 #[.string s, .string t] w fun e w' => e = .returned (.int .i64 (refusalT (sl s) (sl t))) ∧ Below w.heap.size w w' := by
  by_cases hL : 4000 < s.size ∨ 4000 < t.size
  · have HA := hide (refusalT_long (f := sl s) (t := sl t) (by rw [sl_length, sl_length]; exact hL))
    generalize refusalT (sl s) (sl t) = A at *
    have hL' : 4000 < s.size ∨ (¬ 4000 < s.size ∧ 4000 < t.size) := by omega
    clear hL
    rcases hL' with h | ⟨h, h'⟩
    all_goals
      go_enter Tryz.func138, Tryz.ntmps138
      go_wp2
      go_ret
      exact ⟨ret_int (unhide HA).symm, Below.refl _ _⟩
  · have hLl : ¬ (4000 < (sl s).length ∨ 4000 < (sl t).length) := by rw [sl_length, sl_length]; exact hL
    have h4 : ¬ 4000 < s.size := by omega
    have h5 : ¬ 4000 < t.size := by omega
    have HC1 := hide (fun W => rcheck_any s W)
    have HC2 := hide (fun W => rcheck_any t W)
    rw [check_same] at HC1 HC2
    by_cases hC : (checkT (sl s)).1 ≠ 0
    · have HA := hide (refusalT_from hLl hC)
      have hC' : ((checkT (sl s)).1 != 0) = true := by rw [bne_iff_ne]; exact hC
      generalize refusalT (sl s) (sl t) = A at *
      generalize checkT (sl s) = c at *
      clear hC hL hLl HC2
      go_enter Tryz.func138, Tryz.ntmps138
      go_wp2_with fail
      refine (unhide HC1 _).mono ?_
      rintro e w1 ⟨rfl, hb1⟩
      go_wp2
      go_ret
      exact ⟨ret_int (unhide HA).symm, hb1⟩
    · have hc0 : (checkT (sl s)).1 = 0 := Classical.not_not.1 hC
      have HA := hide (refusalT_to hLl hc0)
      rw [hc0] at HC1
      generalize refusalT (sl s) (sl t) = A at *
      generalize (checkT (sl s)).2 = c2 at *
      generalize checkT (sl t) = d at *
      clear hC hL hLl hc0
      go_enter Tryz.func138, Tryz.ntmps138
      go_wp2_with fail
      refine (unhide HC1 _).mono ?_
      rintro e w1 ⟨rfl, hb1⟩
      go_wp2_with fail
      refine (unhide HC2 _).mono ?_
      rintro e w2 ⟨rfl, hb2⟩
      go_wp2
      go_ret
      exact ⟨ret_int (unhide HA).symm, hb1.trans (hb2.mono hb1.size)⟩
set_option maxHeartbeats 2000000 in
theorem without_any (ss : List St) (m : Nat) (ao : Option Addr) (cap : Nat) (w : World) (hrow : Row w ao ss.length 4 (stCells ss)) (hl : ss.length ≤ 8000) :
    Calls Tryz.prog 154 #[.slice ao ss.length cap, .int .i64 m] w fun e w' => (∃ ao' cap', e = .returned (.slice ao' (ss.eraseIdx m).length cap') ∧ Row w' ao' (ss.eraseIdx m).length 4 (stCells (ss.eraseIdx m))) ∧ Below w.heap.size w w' := by
  obtain ⟨i0, hi, hz0, hz1, hz2⟩ := info_parts Tryz.infoRStep
  have HROW := hide hrow
  clear hrow
  go_enter Tryz.func154, Tryz.ntmps154
  go_wp2
  go_loopw [5, 6] (fun v i wr => ∃ k : Nat, ∃ out : List St, k ≤ ss.length ∧ i = .int .i64 k ∧ wr.ownsRow w.heap.size 157 4 v out.length (stCells out) ∧ Below w.heap.size w wr ∧ Hid (WoInv ss m k out)) (fun _ i _ => ss.length - (intOf i).toNat)
  case atStart => exact ⟨0, [], Nat.zero_le _, rfl, World.ownsRow_nil _ _ _ _, Below.refl _ _, hide (by simp [WoInv])⟩
  case round =>
    obtain ⟨k, out, hk, rfl, hown, hbel, HI⟩ := hrel
    have hnl := woInv_len (unhide HI)
    have hsz := hbel.size
    by_cases hlt : k < ss.length
    · obtain ⟨g, hao, hg, c0, c1, c2, c3⟩ := st_cells ((unhide HROW).below hbel) hlt
      rw [hao]
      clear hao
      by_cases hq : k = m
      · subst hq
        have HI2 := hide (woInv_no (unhide HI) hlt)
        generalize ss[k] = st at *
        go_wp2
        go_roundw
        case rel => exact ⟨k + 1, out, by omega, by go_num, hown, hbel, HI2⟩
        case measure => simp [intOf]; omega
      · have HI2 := hide (woInv_yes (unhide HI) hlt hq)
        have hq' : ((k : Int) != (m : Int)) = true := by rw [bne_iff_ne]; omega
        have hq2 : ¬ (k : Int) = (m : Int) := by omega
        generalize ss[k] = st at *
        go_wp2_with (first
          | (at_builtin; (refine wpList_append_own _ rfl _ _ 151 rfl w.heap.size 157 i0 (.agg #[.int .u8 0, .int .i64 0, .int .i64 0, .string ByteArray.empty]) 4 40 Tryz.underlying151 hi hz0 hz1 hz2 rfl (by decide) _ _ _ rfl (own_below hown ((Below.refl _ _).alloc (by simp) _)) ⟨wr.heap.size, 0, none⟩ 1 1 [.int .u8 st.kind.toNat, .int .i64 st.node.id, .int .i64 st.node.parent, .string (bs st.node.name)] rfl rfl (news_four _ _ _ _ _) (by simp [Value.oneCell']) (by unfold maxLen; omega) (by omega) (by simp; omega) ?_))
          | go_in)
        intro v' w4 hown' hgrow _
        have hb4 : Below w.heap.size w w4 := (hbel.alloc (by omega) _).grown hgrow (by simp; omega) (own_ge hown)
        have hown2 : w4.ownsRow w.heap.size 157 4 v' (out ++ [st]).length (stCells (out ++ [st])) := by rw [stCells_snoc, List.length_append]; exact hown'
        clear hgrow hown hbel hown'
        go_wp2
        go_roundw
        case rel => exact ⟨k + 1, _, by omega, by go_num, hown2, hb4, HI2⟩
        case measure => simp [intOf]; omega
    · have HF := hide (woInv_end (unhide HI) hlt)
      go_wp2
      go_ret
      rw [unhide HF]
      obtain ⟨ao', cap', rfl, hr⟩ := row_of_owns hown
      exact ⟨⟨ao', cap', rfl, hr⟩, hbel⟩
end Go.Proofs.YtdcjimlhaklhfabGreatDoor

namespace Go.Proofs.YtdcjimlhaklhfabGreatDoor
open Go.RowKit
theorem nd_neq (m n : Nd) : ((m.id == n.id) && ((m.parent == n.parent) && ((bs m.name).toList == (bs n.name).toList))) = ndEq m n := by
  unfold ndEq; rw [names_eq]
theorem Tryz.nodeGuard : Tryz.prog.eqGuardType Tryz.prog.depth 144 = false := by kernel_rfl
theorem Tryz.nodeHeld : Tryz.prog.stoodInHeld 144 = false := by kernel_rfl
theorem node_eq_run (m n : Nd) (W : World) : (Op.equalIn 10000 144 (.agg #[.int .i64 m.id, .int .i64 m.parent, .string (bs m.name)]) (.agg #[.int .i64 n.id, .int .i64 n.parent, .string (bs n.name)])).run Tryz.prog W = .ok (ndEq m n) W := by
  rw [run_equalIn_agg W 9999 144 _ _ (by simp [Program.fieldsOf, Tryz.underlying144]) Tryz.nodeHeld]
  simp [Program.fieldsOf, Tryz.underlying144, Op.eqFields, go_sem]
  rw [← nd_neq]
  by_cases h1 : m.id = n.id <;> by_cases h2 : m.parent = n.parent <;> by_cases h3 : (bs m.name).toList = (bs n.name).toList <;> simp [h1, h2, h3]
set_option maxHeartbeats 4000000 in
set_option maxRecDepth 100000 in
theorem homes_any (a b : List Nd) (ao bo : Option Addr) (ca cb : Nat) (w : World) (ha : Row w ao a.length 3 (ndCells a)) (hb : Row w bo b.length 3 (ndCells b)) (hla : a.length ≤ 4000) (hlb : b.length ≤ 4000) :
    Calls Tryz.prog 152 #[.slice ao a.length ca, .slice bo b.length cb] w fun e w' => (∃ ao' cap', e = .returned (.slice ao' (homesR a b).length cap') ∧ Row w' ao' (homesR a b).length 4 (stCells (homesR a b))) ∧ Below w.heap.size w w' := by
  obtain ⟨i0, hi, hz0, hz1, hz2⟩ := info_parts Tryz.infoRStep
  have HA := hide ha
  have HB := hide hb
  clear ha hb
  go_enter Tryz.func152, Tryz.ntmps152
  go_wp2
  go_loopw [5, 6] (fun v i wr => ∃ k : Nat, ∃ out : List St, k ≤ b.length ∧ i = .int .i64 k ∧ wr.ownsRow w.heap.size 157 4 v out.length (stCells out) ∧ Below w.heap.size w wr ∧ Hid (HbInv a b k out)) (fun _ i _ => b.length - (intOf i).toNat)
  case atStart => exact ⟨0, [], Nat.zero_le _, rfl, World.ownsRow_nil _ _ _ _, Below.refl _ _, hide rfl⟩
  case round =>
    obtain ⟨k, out, hk, rfl, hown, hbel, HI⟩ := hrel
    have hnl := hbInv_len (unhide HI) hk
    have hsz := hbel.size
    by_cases hlt : k < b.length
    · obtain ⟨g, hao, hg, c0, c1, c2⟩ := nd_cells (unhide HB) hbel hlt
      have HF := hide (find_any a (b[k]).id ao ca wr ((unhide HA).below hbel) hla)
      rw [hao]
      clear hao
      by_cases hf : findN a (b[k]).id < a.length
      · obtain ⟨q1, q2⟩ := lookR_some hf
        obtain ⟨g2, hao2, hg2, d0, d1, d2⟩ := nd_cells (unhide HA) hbel hf
        rw [q2] at HF
        rw [hao2] at HF ⊢
        clear hao2 q2
        cases hq : ndEq (a[findN a (b[k]).id]) (b[k])
        · have HI2 := hide (hbInv_next (unhide HI) hlt (homeB_else q1 hq))
          have hq3 := (nd_neq (a[findN a (b[k]).id]) (b[k])).trans hq
          clear q1
          generalize hfn : findN a (b[k]).id = fn at *
          clear hfn
          have hfn0 : (0 : Int) ≤ fn := by omega
          have hfn1 : (fn : Int) < a.length := by omega
          generalize a[fn] = m at *
          generalize b[k] = n at *
          have hne := node_eq_run m n
          have hgd := Tryz.nodeGuard
          rw [hq] at hne
          go_wp2_with fail
          refine (unhide HF).mono ?_
          rintro e w' ⟨rfl, rfl⟩
          go_wp2
          go_quiet (fail)
          go_wp2_with (first
            | (at_builtin; (refine wpList_append_own _ rfl _ _ 151 rfl w.heap.size 157 i0 (.agg #[.int .u8 0, .int .i64 0, .int .i64 0, .string ByteArray.empty]) 4 40 Tryz.underlying151 hi hz0 hz1 hz2 rfl (by decide) _ _ _ rfl (own_below hown ((below_drewN (Below.refl _ _) _).alloc (by simp) _)) ⟨w'.heap.size, 0, none⟩ 1 1 [.int .u8 61, .int .i64 n.id, .int .i64 n.parent, .string (bs n.name)] rfl rfl (news_four _ _ _ _ _) (by simp [Value.oneCell']) (by unfold maxLen; omega) (by omega) (by simp; omega) ?_))
            | go_in)
          intro v' w4 hown' hgrow _
          have hb4 : Below w.heap.size w w4 := ((below_drewN hbel _).alloc (by simp; omega) _).grown hgrow (by simp; omega) (own_ge hown)
          have hown2 : w4.ownsRow w.heap.size 157 4 v' (out ++ [(⟨61, n⟩ : St)]).length (stCells (out ++ [(⟨61, n⟩ : St)])) := by rw [stCells_snoc, List.length_append]; exact hown'
          clear hgrow hown hbel hown'
          go_wp2
          go_roundw
          case rel => exact ⟨k + 1, _, by omega, by go_num, hown2, hb4, HI2⟩
          case measure => simp [intOf]; omega
        · have HI2 := hide (hbInv_next (unhide HI) hlt (homeB_same q1 hq))
          rw [List.append_nil] at HI2
          clear q1
          generalize hfn : findN a (b[k]).id = fn at *
          clear hfn
          have hfn0 : (0 : Int) ≤ fn := by omega
          have hfn1 : (fn : Int) < a.length := by omega
          generalize a[fn] = m at *
          generalize b[k] = n at *
          have hne := node_eq_run m n
          have hgd := Tryz.nodeGuard
          rw [hq] at hne
          go_wp2_with fail
          refine (unhide HF).mono ?_
          rintro e w' ⟨rfl, rfl⟩
          go_wp2
          go_quiet (fail)
          go_wp2
          go_roundw
          case rel => exact ⟨k + 1, out, by omega, by go_num, own_below hown (below_drewN (Below.refl _ _) _), below_drewN hbel _, HI2⟩
          case measure => simp [intOf]; omega
      · obtain ⟨q1, q2⟩ := lookR_none hf
        have HI2 := hide (hbInv_next (unhide HI) hlt (homeB_new q1))
        rw [q2] at HF
        clear q1 q2 hf
        generalize b[k] = n at *
        go_wp2_with fail
        refine (unhide HF).mono ?_
        rintro e w' ⟨rfl, rfl⟩
        go_wp2_with (first
          | (at_builtin; (refine wpList_append_own _ rfl _ _ 151 rfl w.heap.size 157 i0 (.agg #[.int .u8 0, .int .i64 0, .int .i64 0, .string ByteArray.empty]) 4 40 Tryz.underlying151 hi hz0 hz1 hz2 rfl (by decide) _ _ _ rfl (own_below hown ((Below.refl _ _).alloc (by simp) _)) ⟨w'.heap.size, 0, none⟩ 1 1 [.int .u8 43, .int .i64 n.id, .int .i64 n.parent, .string (bs n.name)] rfl rfl (news_four _ _ _ _ _) (by simp [Value.oneCell']) (by unfold maxLen; omega) (by omega) (by simp; omega) ?_))
          | go_in)
        intro v' w4 hown' hgrow _
        have hb4 : Below w.heap.size w w4 := (hbel.alloc (by omega) _).grown hgrow (by simp; omega) (own_ge hown)
        have hown2 : w4.ownsRow w.heap.size 157 4 v' (out ++ [(⟨43, n⟩ : St)]).length (stCells (out ++ [(⟨43, n⟩ : St)])) := by rw [stCells_snoc, List.length_append]; exact hown'
        clear hgrow hown hbel hown'
        go_wp2
        go_roundw
        case rel => exact ⟨k + 1, _, by omega, by go_num, hown2, hb4, HI2⟩
        case measure => simp [intOf]; omega
    · have HI2 := hide (hbInv_end (unhide HI) hlt)
      clear HI hk
      go_wp2
      clear hlt
      go_loopw [5, 8] (fun v i wr => ∃ k : Nat, ∃ out : List St, k ≤ a.length ∧ i = .int .i64 k ∧ wr.ownsRow w.heap.size 157 4 v out.length (stCells out) ∧ Below w.heap.size w wr ∧ Hid (HaInv a b k out)) (fun _ i _ => a.length - (intOf i).toNat)
      case atStart => exact ⟨0, out, Nat.zero_le _, rfl, hown, hbel, HI2⟩
      case round =>
        clear HI2 hbel hown hnl hsz
        obtain ⟨k, out, hk, rfl, hown, hbel, HI⟩ := hrel
        have hnl := haInv_len (unhide HI) hk
        have hsz := hbel.size
        by_cases hlt : k < a.length
        · obtain ⟨g, hao, hg, c0, c1, c2⟩ := nd_cells (unhide HA) hbel hlt
          have HF := hide (find_any b (a[k]).id bo cb wr ((unhide HB).below hbel) hlb)
          rw [hao]
          clear hao
          by_cases hf : findN b (a[k]).id < b.length
          · obtain ⟨q1, q2⟩ := lookR_some hf
            have HI2 := hide (haInv_next (unhide HI) hlt (homeA_kept q1))
            rw [List.append_nil] at HI2
            rw [q2] at HF
            clear q1 q2
            generalize findN b (a[k]).id = fn at *
            generalize a[k] = n at *
            go_wp2_with fail
            refine (unhide HF).mono ?_
            rintro e w' ⟨rfl, rfl⟩
            go_wp2
            go_roundw
            case rel => exact ⟨k + 1, out, by omega, by go_num, hown, hbel, HI2⟩
            case measure => simp [intOf]; omega
          · obtain ⟨q1, q2⟩ := lookR_none hf
            have HI2 := hide (haInv_next (unhide HI) hlt (homeA_gone q1))
            rw [q2] at HF
            clear q1 q2 hf
            generalize a[k] = n at *
            go_wp2_with fail
            refine (unhide HF).mono ?_
            rintro e w' ⟨rfl, rfl⟩
            go_wp2_with (first
              | (at_builtin; (refine wpList_append_own _ rfl _ _ 151 rfl w.heap.size 157 i0 (.agg #[.int .u8 0, .int .i64 0, .int .i64 0, .string ByteArray.empty]) 4 40 Tryz.underlying151 hi hz0 hz1 hz2 rfl (by decide) _ _ _ rfl (own_below hown ((Below.refl _ _).alloc (by simp) _)) ⟨w'.heap.size, 0, none⟩ 1 1 [.int .u8 45, .int .i64 n.id, .int .i64 0, .string ⟨#[]⟩] rfl rfl (news_four _ _ _ _ _) (by simp [Value.oneCell']) (by unfold maxLen; omega) (by omega) (by simp; omega) ?_))
              | go_in)
            intro v' w4 hown' hgrow _
            have hb4 : Below w.heap.size w w4 := (hbel.alloc (by omega) _).grown hgrow (by simp; omega) (own_ge hown)
            have hown2 : w4.ownsRow w.heap.size 157 4 v' (out ++ [(⟨45, ⟨n.id, 0, []⟩⟩ : St)]).length (stCells (out ++ [(⟨45, ⟨n.id, 0, []⟩⟩ : St)])) := by rw [stCells_snoc, List.length_append]; exact hown'
            clear hgrow hown hbel hown'
            go_wp2
            go_roundw
            case rel => exact ⟨k + 1, _, by omega, by go_num, hown2, hb4, HI2⟩
            case measure => simp [intOf]; omega
        · have HE := hide (haInv_end (unhide HI) hlt)
          go_wp2
          go_ret
          rw [unhide HE]
          obtain ⟨ao', cap', rfl, hr⟩ := row_of_owns hown
          exact ⟨⟨ao', cap', rfl, hr⟩, hbel⟩
end Go.Proofs.YtdcjimlhaklhfabGreatDoor

namespace Go.Proofs.YtdcjimlhaklhfabGreatDoor
open Go.RowKit
def st0 : St := ⟨0, nd0⟩
def stAt (l : List St) (i : Nat) : St := l.getD i st0
theorem stAt_get (l : List St) (i : Nat) (h : i < l.length) : stAt l i = l[i] := by simp [stAt, h]
def isAt (l : List St) (s : St) (i : Nat) : Bool := stEq (stAt l i) s
def atN (l : List St) (s : St) : Nat := scan (isAt l s) 0 l.length
def atR (l : List St) (s : St) : Int := if atN l s < l.length then (atN l s : Int) else -1
def canDo (ns : List Nd) (l : List St) (i : Nat) : Bool := doR ns (stAt l i) == 0
def stuckR (ns : List Nd) (l : List St) : Bool := decide (¬ scan (canDo ns l) 0 l.length < l.length)
theorem Tryz.stepGuard : Tryz.prog.eqGuardType Tryz.prog.depth 157 = false := by kernel_rfl
theorem Tryz.stepHeld : Tryz.prog.stoodInHeld 157 = false := by kernel_rfl
theorem node_eq_run' (d : Nat) (m n : Nd) (W : World) : (Op.equalIn (d + 2) 144 (.agg #[.int .i64 m.id, .int .i64 m.parent, .string (bs m.name)]) (.agg #[.int .i64 n.id, .int .i64 n.parent, .string (bs n.name)])).run Tryz.prog W = .ok (ndEq m n) W := by
  rw [run_equalIn_agg W (d + 1) 144 _ _ (by simp [Program.fieldsOf, Tryz.underlying144]) Tryz.nodeHeld]
  simp [Program.fieldsOf, Tryz.underlying144, Op.eqFields, go_sem]
  rw [← nd_neq]
  by_cases h1 : m.id = n.id <;> by_cases h2 : m.parent = n.parent <;> by_cases h3 : (bs m.name).toList = (bs n.name).toList <;> simp [h1, h2, h3]
theorem step_eq_run (a b : St) (W : World) : (Op.equalIn 10000 157 (.agg #[.int .u8 a.kind.toNat, .int .i64 a.node.id, .int .i64 a.node.parent, .string (bs a.node.name)]) (.agg #[.int .u8 b.kind.toNat, .int .i64 b.node.id, .int .i64 b.node.parent, .string (bs b.node.name)])).run Tryz.prog W = .ok (stEq a b) W := by
  have hn := node_eq_run' 9997 a.node b.node
  rw [run_equalIn_agg W 9999 157 _ _ (by simp [Program.fieldsOf, Tryz.underlying157]) Tryz.stepHeld]
  simp [Program.fieldsOf, Tryz.underlying157, Op.eqFields, go_sem, hn]
  unfold stEq
  by_cases h1 : a.kind = b.kind
  · rw [if_pos (by rw [h1]), h1]
    cases ndEq a.node b.node <;> simp
  · rw [if_neg (fun h => h1 (UInt8.toNat_inj.1 (by exact_mod_cast h)))]
    simp [h1]
set_option maxHeartbeats 1000000 in
theorem stuck_any (ns : List Nd) (ss : List St) (ao bo : Option Addr) (ca cb : Nat) (w : World) (ha : Row w ao ns.length 3 (ndCells ns)) (hb : Row w bo ss.length 4 (stCells ss)) (hla : ns.length ≤ 4000) (hlb : ss.length ≤ 8000) (hs : ∀ s ∈ ss, StOk s) :
    Calls Tryz.prog 163 #[.slice ao ns.length ca, .slice bo ss.length cb] w fun e w' => e = .returned (.bool (stuckR ns ss)) ∧ Below w.heap.size w w' := by
  have HA := hide ha
  have HB := hide hb
  have HS := hide hs
  clear ha hb hs
  go_enter Tryz.func163, Tryz.ntmps163
  go_wp2
  go_loopw [5] (fun i wr => ∃ k : Nat, k ≤ ss.length ∧ i = .int .i64 k ∧ Below w.heap.size w wr ∧ Hid (NoIn (canDo ns ss) 0 k)) (fun i _ => ss.length - (intOf i).toNat)
  case atStart => exact ⟨0, Nat.zero_le _, rfl, Below.refl _ _, hide (fun j h1 h2 => by omega)⟩
  case round =>
    obtain ⟨k, hk, rfl, hbel, HN⟩ := hrel
    by_cases hlt : k < ss.length
    · obtain ⟨g, hao, hg, c0, c1, c2, c3⟩ := st_cells ((unhide HB).below hbel) hlt
      have HDO := hide (rdo_any ns ss[k] ao ca wr ((unhide HA).below hbel) hla (unhide HS _ (List.getElem_mem hlt)))
      have HU : Hid (canDo ns ss k = (doR ns ss[k] == 0)) := by apply hide; unfold canDo; rw [stAt_get _ _ hlt]
      rw [hao]
      clear hao
      generalize lastR ns ss[k] = L at *
      by_cases hE : doR ns ss[k] = 0
      · have HR : Hid (stuckR ns ss = false) := by
          apply hide
          have e : scan (canDo ns ss) 0 ss.length = k := scan_hit (by omega) hlt (by rw [unhide HU, hE]; rfl) (unhide HN)
          unfold stuckR; rw [e]; simp [hlt]
        rw [hE] at HDO
        clear hE
        generalize ss[k] = st at *
        go_wp2_with fail
        refine (unhide HDO).mono ?_
        rintro e w4 ⟨⟨hne, _⟩ | ⟨_, ao3, cap3, rfl, hr⟩, hb4⟩
        · exact absurd rfl hne
        · go_wp2
          go_ret
          exact ⟨ret_bool (unhide HR).symm, hbel.trans (hb4.mono hbel.size)⟩
      · have HN2 := hide (noIn_succ (unhide HN) (by rw [unhide HU]; simpa using hE))
        have hE' : (doR ns ss[k] == 0) = false := by simpa using hE
        have HEN := hide hE
        clear hE
        generalize doR ns ss[k] = ee at *
        generalize ss[k] = st at *
        go_wp2_with fail
        refine (unhide HDO).mono ?_
        rintro e w4 ⟨⟨_, rfl⟩ | ⟨h0, _⟩, hb4⟩
        · go_wp2
          go_roundw
          case rel => exact ⟨k + 1, by omega, by go_num, hbel.trans (hb4.mono hbel.size), HN2⟩
          case measure => simp [intOf]; omega
        · exact absurd h0 (unhide HEN)
    · have HR : Hid (stuckR ns ss = true) := by
        apply hide
        have e : scan (canDo ns ss) 0 ss.length = ss.length := scan_none (fun j h1 h2 => unhide HN j h1 (by omega))
        unfold stuckR; rw [e]; simp
      go_wp2
      go_ret
      exact ⟨ret_bool (unhide HR).symm, hbel⟩
set_option maxHeartbeats 1000000 in
theorem rat_any (ss : List St) (x : St) (ao : Option Addr) (cap : Nat) (w : World) (hrow : Row w ao ss.length 4 (stCells ss)) (hl : ss.length ≤ 8000) :
    Calls Tryz.prog 153 #[.slice ao ss.length cap, .agg #[.int .u8 x.kind.toNat, .int .i64 x.node.id, .int .i64 x.node.parent, .string (bs x.node.name)]] w fun e w' => e = .returned (.int .i64 (atR ss x)) ∧ Below w.heap.size w w' := by
  obtain ⟨w0, hw0⟩ : ∃ w0, w.alloc (Obj.cells #[.int .u8 x.kind.toNat, .int .i64 x.node.id, .int .i64 x.node.parent, .string (bs x.node.name)] 157) = w0 := ⟨_, rfl⟩
  have hbw : Below w.heap.size w w0 := by rw [← hw0]; exact (Below.refl _ _).alloc (Nat.le_refl _) _
  have HBW := hide hbw
  have HROW := hide (hrow.below hbw)
  have hlt0 : w.heap.size < w0.heap.size := by rw [← hw0]; simp
  have x0 : w0.cell? ⟨w.heap.size, 0, none⟩ = some (.int .u8 x.kind.toNat) := by rw [← hw0]; exact news_four _ _ _ _ _ 0 _ rfl
  have x1 : w0.cell? ⟨w.heap.size, 1, none⟩ = some (.int .i64 x.node.id) := by rw [← hw0]; exact news_four _ _ _ _ _ 1 _ rfl
  have x2 : w0.cell? ⟨w.heap.size, 2, none⟩ = some (.int .i64 x.node.parent) := by rw [← hw0]; exact news_four _ _ _ _ _ 2 _ rfl
  have x3 : w0.cell? ⟨w.heap.size, 3, none⟩ = some (.string (bs x.node.name)) := by rw [← hw0]; exact news_four _ _ _ _ _ 3 _ rfl
  have hgd := Tryz.stepGuard
  clear hrow hbw
  go_enter Tryz.func153, Tryz.ntmps153
  go_wp2
  try rw [hw0]
  clear hw0
  go_loopw [5] (fun i wr => ∃ k nq : Nat, k ≤ ss.length ∧ i = .int .i64 k ∧ wr = w0.drewN nq ∧ Hid (NoIn (isAt ss x) 0 k)) (fun i _ => ss.length - (intOf i).toNat)
  case atStart => exact ⟨0, 0, Nat.zero_le _, rfl, rfl, hide (fun j h1 h2 => by omega)⟩
  case round =>
    obtain ⟨k, nq, hk, rfl, rfl, HN⟩ := hrel
    by_cases hlt : k < ss.length
    · obtain ⟨g, hao, hg, c0, c1, c2, c3⟩ := st_cells (unhide HROW) hlt
      have HU : Hid (isAt ss x k = stEq ss[k] x) := by apply hide; unfold isAt; rw [stAt_get _ _ hlt]
      have hne := step_eq_run ss[k] x
      rw [hao]
      clear hao
      have hk0 : (0 : Int) ≤ k := by omega
      have hk1 : (k : Int) < ss.length := by omega
      cases hq : stEq ss[k] x
      · have HN2 := hide (noIn_succ (unhide HN) (by rw [unhide HU]; exact hq))
        rw [hq] at hne
        clear hq
        generalize ss[k] = st at *
        go_wp2
        go_quiet (fail)
        go_wp2
        go_roundw
        case rel => exact ⟨k + 1, _, by omega, by go_num, rfl, HN2⟩
        case measure => simp [intOf]; omega
      · have HR : Hid (atR ss x = k) := by
          apply hide
          have e : atN ss x = k := scan_hit (by omega) hlt (by rw [unhide HU]; exact hq) (unhide HN)
          unfold atR; rw [e, if_pos hlt]
        rw [hq] at hne
        clear hq
        generalize ss[k] = st at *
        go_wp2
        go_quiet (fail)
        go_wp2
        go_ret
        exact ⟨ret_int (unhide HR).symm, below_drewN (below_drewN (unhide HBW) _) _⟩
    · have HR : Hid (atR ss x = -1) := by
        apply hide
        have e : atN ss x = ss.length := scan_none (fun j h1 h2 => unhide HN j h1 (by omega))
        unfold atR; rw [e, if_neg (by omega)]
      go_wp2
      go_ret
      exact ⟨ret_int (unhide HR).symm, below_drewN (unhide HBW) _⟩
end Go.Proofs.YtdcjimlhaklhfabGreatDoor

namespace Go.Proofs.YtdcjimlhaklhfabGreatDoor
open Go.RowKit
/-! A tree that lies somewhere in a block. -/
def CellsAt (w : World) (b o : Nat) (t : Tr) : Prop := ∀ j, j < 400 → w.cell? ⟨b, o + j, none⟩ = (treeCells t)[j]?
theorem CellsAt.below {w w' : World} {b o : Nat} {t : Tr} (h : CellsAt w b o t) (hb : Below w.heap.size w w') (hlt : b < w.heap.size) : CellsAt w' b o t := by
  intro j hj
  rw [hb.cell (p := ⟨b, o + j, none⟩) hlt]; exact h j hj
theorem CellsAt.node {w : World} {b o : Nat} {t : Tr} (h : CellsAt w b o t) (m : Nat) (hm : m < 100) :
    w.cell? ⟨b, o + 100 + m * 3, none⟩ = some (.int .i64 ((t m).getD nd0).id) ∧ w.cell? ⟨b, o + 100 + m * 3 + 1, none⟩ = some (.int .i64 ((t m).getD nd0).parent) ∧ w.cell? ⟨b, o + 100 + m * 3 + 2, none⟩ = some (.string (bs ((t m).getD nd0).name)) := by
  obtain ⟨t1, t2, t3⟩ := treeCells_node t m hm
  refine ⟨?_, ?_, ?_⟩
  · rw [show o + 100 + m * 3 = o + (100 + m * 3) by omega, h _ (by omega), t1]
  · rw [show o + 100 + m * 3 + 1 = o + (100 + m * 3 + 1) by omega, h _ (by omega), t2]
  · rw [show o + 100 + m * 3 + 2 = o + (100 + m * 3 + 2) by omega, h _ (by omega), t3]
set_option maxHeartbeats 400000 in
theorem hasAt_nat (t : Tr) (b o m : Nat) (w : World) (ht : TrOk t) (hm : m ≤ 99) (hT : CellsAt w b o t) :
    Calls Tryz.prog 97 #[.pointer (some ⟨b, o, none⟩), .int .i64 m] w fun e w' => e = .returned (.bool (t m).isSome) ∧ w' = w := by
  have hcell := (hT m (by omega)).trans (treeCells_here t m (by omega))
  have HT0 := hide ht.1
  clear hT ht
  by_cases h1 : 1 ≤ m
  · go_enter Tryz.func97, Tryz.ntmps97
    go_wp2
    go_ret
    exact ⟨rfl, rfl⟩
  · have hm0 : m = 0 := by omega
    subst hm0
    go_enter Tryz.func97, Tryz.ntmps97
    go_wp2
    go_ret
    exact ⟨by rw [unhide HT0]; rfl, rfl⟩
def ndV (n : Nd) : Value := .agg #[.int .i64 n.id, .int .i64 n.parent, .string (bs n.name)]
set_option maxHeartbeats 400000 in
theorem get_nat (t : Tr) (b o m : Nat) (w : World) (ht : TrOk t) (hm : m ≤ 99) (hT : CellsAt w b o t) (hlt : b < w.heap.size) :
    Calls Tryz.prog 98 #[.pointer (some ⟨b, o, none⟩), .int .i64 m] w fun e w' => e = .returned (.agg #[.int .i64 ((t m).getD nd0).id, .int .i64 ((t m).getD nd0).parent, .string (bs ((t m).getD nd0).name)]) ∧ Below w.heap.size w w' := by
  have hb1 := (Below.refl w.heap.size w).alloc (Nat.le_refl _) (.cells #[.int .i64 0, .int .i64 0, .string ByteArray.empty] 75)
  have HH := hide (hasAt_nat t b o m _ ht hm (hT.below hb1 hlt))
  obtain ⟨c1, c2, c3⟩ := hT.node m (by omega)
  have hne : ¬ b = w.heap.size := by omega
  have hm0 : (0 : Int) ≤ m := by omega
  have HB := hide hb1
  clear hT ht hb1
  cases hq : t m with
  | none =>
    rw [hq] at HH c1 c2 c3
    clear hq
    go_enter Tryz.func98, Tryz.ntmps98
    go_wp2_with fail
    refine (unhide HH).mono ?_
    rintro e w1 ⟨rfl, rfl⟩
    go_wp2
    refine bodyPost_ret (v := .agg #[.int .i64 0, .int .i64 0, .string ByteArray.empty]) (by simp [results, Tryz.results98, go_sem]; rfl) rfl ⟨rfl, ?_⟩
    exact unhide HB
  | some n =>
    rw [hq] at HH c1 c2 c3
    clear hq
    go_enter Tryz.func98, Tryz.ntmps98
    go_wp2_with fail
    refine (unhide HH).mono ?_
    rintro e w1 ⟨rfl, rfl⟩
    go_wp2
    refine bodyPost_ret (v := .agg #[.int .i64 n.id, .int .i64 n.parent, .string (bs n.name)]) (by simp [results, Tryz.results98, go_sem]) rfl ⟨rfl, ?_⟩
    exact (Below.refl w.heap.size w).alloc (Nat.le_refl _) _
end Go.Proofs.YtdcjimlhaklhfabGreatDoor

namespace Go.Proofs.YtdcjimlhaklhfabGreatDoor
open Go.RowKit
/-! Compile: what the program does. -/
def getT (t : Tr) (id : Int) : Nd := (t id.toNat).getD nd0
/-- The step that brings a node home, if it is not there. -/
def homeS (a g : Tr) (id : Int) : Option St := match a id.toNat, g id.toNat with
  | none, none => none
  | some _, none => some ⟨45, ⟨id, 0, []⟩⟩
  | none, some n => some ⟨43, n⟩
  | some m, some n => if ndEq m n then none else some ⟨61, n⟩
structure Pl where
  now : Tr
  done : List St
def goOne (g : Tr) (p : Pl × Bool) (i : Nat) : Pl × Bool := match homeS p.1.now g i with
  | none => p
  | some s => if stepE p.1.now s = 0 then (⟨stepT p.1.now s, p.1.done ++ [s]⟩, true) else p
def goHomeT (g : Tr) (p : Pl) : Pl × Bool := (List.range' 1 99).foldl (goOne g) (p, false)
def fromAwayF (a g : Tr) : Nat → Int → Int
  | 0, _ => 0
  | f + 1, id => if (homeS a g id).isSome then id else fromAwayF a g f (getT a id).parent
def inWay (a g : Tr) (n : Nd) : Int := if !isParentT a n.parent then n.parent else if meetsT a n.parent n.id then fromAwayF a g 99 n.parent else atT a n.parent n.name
def blocker (a g : Tr) (id : Int) : Int := match homeS a g id with
  | none => 0
  | some s => if s.kind = 45 then kidT a id else inWay a g s.node
def awayIs (a g : Tr) (i : Nat) : Bool := (homeS a g i).isSome
def firstAway (a g : Tr) : Int := if scan (awayIs a g) 1 100 < 100 then (scan (awayIs a g) 1 100 : Int) else 0
def iter (f : Int → Int) : Nat → Int → Int
  | 0, x => x
  | n + 1, x => iter f n (f x)
def isMove (a g : Tr) (id : Int) : Bool := match homeS a g id with
  | none => false
  | some s => s.kind == 61
def seekF (a g : Tr) : Nat → Int → Int
  | 0, _ => 0
  | f + 1, id => if isMove a g id then id else seekF a g f (blocker a g id)
def knotT (a g : Tr) : Int := seekF a g 99 (iter (blocker a g) 99 (firstAway a g))
def parkN (id : Int) : Nd := ⟨id, 0, 116 :: 126 :: digs id⟩
def parkS (id : Int) : St := ⟨61, parkN id⟩
def parkT (g : Tr) (p : Pl) : Pl × Bool :=
  if knotT p.now g = 0 then (p, false) else
  if stepE p.now (parkS (knotT p.now g)) = 0 then (⟨stepT p.now (parkS (knotT p.now g)), p.done ++ [parkS (knotT p.now g)]⟩, true) else (p, false)
def makeF (g : Tr) : Nat → Pl → List St
  | 0, p => p.done
  | f + 1, p => if (goHomeT g p).2 then makeF g f (goHomeT g p).1 else if (parkT g (goHomeT g p).1).2 then makeF g f (parkT g (goHomeT g p).1).1 else (parkT g (goHomeT g p).1).1.done
def makeT (a g : Tr) : List St := makeF g 199 ⟨a, []⟩
/-! The document's way from tree to tree. -/
inductive Seg (g : Tr) : Tr → List St → Tr → Prop
  | nil (a : Tr) : Seg g a [] a
  | home {a b : Tr} {i : Int} {s : St} {ss : List St} (h1 : 1 ≤ i) (h2 : i ≤ 99) (hs : homeS a g i = some s) (he : stepE a s = 0) (k : Seg g (stepT a s) ss b) : Seg g a (s :: ss) b
  | park {a b : Tr} {i : Int} {n : Nd} {ss : List St} (h1 : 1 ≤ i) (h2 : i ≤ 99) (hno : ∀ (j : Int) (s : St), 1 ≤ j → j ≤ 99 → homeS a g j = some s → stepE a s ≠ 0) (hs : homeS a g i = some ⟨61, n⟩) (hp : a i.toNat ≠ some (parkN i)) (he : stepE a (parkS i) = 0) (k : Seg g (stepT a (parkS i)) ss b) : Seg g a (parkS i :: ss) b
theorem seg_trans {g a b c : Tr} {ss ts : List St} (h : Seg g a ss b) (k : Seg g b ts c) : Seg g a (ss ++ ts) c := by
  induction h with
  | nil a => exact k
  | home h1 h2 hs he _ ih => exact Seg.home h1 h2 hs he (ih k)
  | park h1 h2 hno hs hp he _ ih => exact Seg.park h1 h2 hno hs hp he (ih k)
/-! Steps home. -/
theorem home_cases {a g : Tr} {id : Int} {s : St} (h : homeS a g id = some s) :
    (s = ⟨45, ⟨id, 0, []⟩⟩ ∧ g id.toNat = none ∧ ∃ m, a id.toNat = some m) ∨ (∃ n, s = ⟨43, n⟩ ∧ g id.toNat = some n ∧ a id.toNat = none) ∨ ∃ n m, s = ⟨61, n⟩ ∧ g id.toNat = some n ∧ a id.toNat = some m ∧ m ≠ n := by
  unfold homeS at h
  cases ha : a id.toNat with
  | none =>
    cases hg : g id.toNat with
    | none => rw [ha, hg] at h; cases h
    | some n => rw [ha, hg] at h; cases h; exact .inr (.inl ⟨n, rfl, rfl, rfl⟩)
  | some m =>
    cases hg : g id.toNat with
    | none => rw [ha, hg] at h; cases h; exact .inl ⟨rfl, rfl, m, rfl⟩
    | some n =>
      rw [ha, hg] at h
      have h' : (if ndEq m n then none else some (⟨61, n⟩ : St)) = some s := h
      split at h'
      · cases h'
      · rename_i hne
        cases h'
        exact .inr (.inr ⟨n, m, rfl, rfl, rfl, fun e => hne (ndEq_iff.2 e)⟩)
theorem home_none {a g : Tr} {id : Int} : homeS a g id = none ↔ a id.toNat = g id.toNat := by
  unfold homeS
  cases ha : a id.toNat with
  | none => cases hg : g id.toNat <;> simp
  | some m =>
    cases hg : g id.toNat with
    | none => simp
    | some n =>
      simp only [Option.some.injEq]
      constructor
      · intro h
        split at h
        · exact ndEq_iff.1 (by assumption)
        · cases h
      · intro h; rw [if_pos (ndEq_iff.2 h)]
theorem home_del {a g : Tr} {id : Int} {m : Nd} (ha : a id.toNat = some m) (hg : g id.toNat = none) : homeS a g id = some ⟨45, ⟨id, 0, []⟩⟩ := by unfold homeS; rw [ha, hg]
theorem home_new {a g : Tr} {id : Int} {n : Nd} (ha : a id.toNat = none) (hg : g id.toNat = some n) : homeS a g id = some ⟨43, n⟩ := by unfold homeS; rw [ha, hg]
theorem home_move {a g : Tr} {id : Int} {m n : Nd} (ha : a id.toNat = some m) (hg : g id.toNat = some n) (h : m ≠ n) : homeS a g id = some ⟨61, n⟩ := by
  unfold homeS; rw [ha, hg]
  show (if ndEq m n then none else some (⟨61, n⟩ : St)) = _
  rw [if_neg (fun e => h (ndEq_iff.1 e))]
theorem home_congr {a a' g : Tr} {id : Int} (h : a id.toNat = a' id.toNat) : homeS a g id = homeS a' g id := by unfold homeS; rw [h]
theorem digs_inj : ∀ x : Nat, x < 100 → ∀ y : Nat, y < 100 → digs (x : Int) = digs (y : Int) → x = y := by decide +kernel
theorem plain_park (l : Str) : plainLen (116 :: 126 :: l) = 1 := by
  unfold plainLen
  rw [List.takeWhile_cons, if_pos (by decide), List.takeWhile_cons, if_neg (by decide)]; rfl
theorem park_name (id : Int) : isName (116 :: 126 :: digs id) id = true := by
  unfold isName; rw [plain_park]; simp
theorem park_own {x y : Int} (hx0 : 0 ≤ x) (hx : x ≤ 99) (hy0 : 0 ≤ y) (hy : y ≤ 99) (h : isName (116 :: 126 :: digs x) y = true) : x = y := by
  unfold isName at h; rw [plain_park] at h
  simp only [List.length_cons, List.drop_succ_cons, List.drop_zero, Bool.and_eq_true, Bool.or_eq_true, beq_iff_eq] at h
  rcases h.2 with h | h
  · omega
  · obtain ⟨a, rfl⟩ := Int.eq_ofNat_of_zero_le hx0
    obtain ⟨b, rfl⟩ := Int.eq_ofNat_of_zero_le hy0
    have := digs_inj a (by omega) b (by omega) (by simpa using h)
    rw [this]
theorem park_ok {id : Int} (h1 : 1 ≤ id) (h2 : id ≤ 99) : StOk (parkS id) := .inl ⟨.inr rfl, h1, h2, Int.le_refl 0, by show (0 : Int) ≤ 99; omega, park_name id⟩
theorem trOk_id {t : Tr} (h : TrOk t) {id : Int} (h1 : 0 ≤ id) {n : Nd} (hn : t id.toNat = some n) : n.id = id ∧ 1 ≤ id ∧ id ≤ 99 ∧ NdOk n := by
  have := h.2 _ n hn
  refine ⟨by omega, by omega, by omega, by omega, by omega, this.2.2.2.1, this.2.2.2.2.1, this.2.2.2.2.2⟩
theorem home_ok {a g : Tr} (hg : TrOk g) {id : Int} (h1 : 1 ≤ id) (h2 : id ≤ 99) {s : St} (h : homeS a g id = some s) : StOk s ∧ s.node.id = id := by
  rcases home_cases h with ⟨rfl, _⟩ | ⟨n, rfl, hn, _⟩ | ⟨n, _, rfl, hn, _⟩
  · exact ⟨.inr ⟨rfl, h1, h2⟩, rfl⟩
  · have := trOk_id hg (by omega) hn; exact ⟨.inl ⟨.inl rfl, this.2.2.2⟩, this.1⟩
  · have := trOk_id hg (by omega) hn; exact ⟨.inl ⟨.inr rfl, this.2.2.2⟩, this.1⟩
/-- A step home that is done: the node is home, all else is as it was. -/
theorem home_done {a g : Tr} (hg : TrOk g) {id : Int} (h1 : 1 ≤ id) {s : St} (h : homeS a g id = some s) (he : stepE a s = 0) (j : Nat) : stepT a s j = if (j : Int) = id then g j else a j := by
  unfold stepT
  rw [if_pos he]
  rcases home_cases h with ⟨rfl, hn, _⟩ | ⟨n, rfl, hn, _⟩ | ⟨n, _, rfl, hn, _⟩
  · rw [if_pos rfl]
    unfold trRemove
    by_cases e : (j : Int) = id
    · rw [if_pos e, if_pos e, ← hn]; congr 1; omega
    · rw [if_neg e, if_neg e]
  · rw [if_neg (show ¬ ((43 : UInt8) = 45) by decide), put_at]
    have := (trOk_id hg (by omega) hn).1
    simp only
    rw [this]
    by_cases e : (j : Int) = id
    · rw [if_pos e, if_pos e, ← hn]; congr 1; omega
    · rw [if_neg e, if_neg e]
  · rw [if_neg (show ¬ ((61 : UInt8) = 45) by decide), put_at]
    have := (trOk_id hg (by omega) hn).1
    simp only
    rw [this]
    by_cases e : (j : Int) = id
    · rw [if_pos e, if_pos e, ← hn]; congr 1; omega
    · rw [if_neg e, if_neg e]
theorem park_done {a : Tr} {id : Int} (he : stepE a (parkS id) = 0) (j : Nat) : stepT a (parkS id) j = if (j : Int) = id then some (parkN id) else a j := by
  unfold stepT
  rw [if_pos he, if_neg (show ¬ ((parkS id).kind = 45) by show ¬ ((61 : UInt8) = 45); decide), put_at]; rfl
theorem seg_valid {g a b : Tr} {ss : List St} (h : Seg g a ss b) (hg : TrOk g) : Valid a → Valid b ∧ ∀ s ∈ ss, StOk s := by
  induction h with
  | nil a => intro h; exact ⟨h, by simp⟩
  | home h1 h2 hs he _ ih =>
    intro h
    have hk := (home_ok hg h1 h2 hs).1
    obtain ⟨k1, k2⟩ := ih (valid_step h hk)
    refine ⟨k1, fun s hm => ?_⟩
    rcases List.mem_cons.1 hm with rfl | hm
    · exact hk
    · exact k2 s hm
  | park h1 h2 hno hs hp he _ ih =>
    intro h
    have hk := park_ok h1 h2
    obtain ⟨k1, k2⟩ := ih (valid_step h hk)
    refine ⟨k1, fun s hm => ?_⟩
    rcases List.mem_cons.1 hm with rfl | hm
    · exact hk
    · exact k2 s hm
theorem seg_does {g a b : Tr} {ss : List St} (h : Seg g a ss b) : ∀ i, doAllE ss a i = (0, 0) ∧ doAllT ss a = b := by
  induction h with
  | nil a => intro i; exact ⟨rfl, rfl⟩
  | home h1 h2 hs he _ ih => intro i; rw [doAllE, doAllT, if_pos he, if_pos he]; exact ih _
  | park h1 h2 hno hs hp he _ ih => intro i; rw [doAllE, doAllT, if_pos he, if_pos he]; exact ih _
/-! How much is to come. -/
def parkedB (a : Tr) (i : Nat) : Bool := match a i with
  | none => false
  | some m => ndEq m (parkN i)
theorem parkedB_iff {a : Tr} {i : Nat} : parkedB a i = true ↔ a i = some (parkN i) := by
  unfold parkedB
  cases a i with
  | none => simp
  | some m => simp [ndEq_iff]
def weight (a g : Tr) (i : Nat) : Nat := match homeS a g i with
  | none => 0
  | some s => if s.kind == 61 && !parkedB a i then 2 else 1
def toCome (a g : Tr) : Nat := ((List.range' 1 99).map (weight a g)).sum
theorem weight_le (a g : Tr) (i : Nat) : weight a g i ≤ 2 := by
  unfold weight; split
  · omega
  · split <;> omega
theorem sum_le {f h : Nat → Nat} : ∀ (l : List Nat), (∀ i ∈ l, f i ≤ h i) → (l.map f).sum ≤ (l.map h).sum := by
  intro l
  induction l with
  | nil => simp
  | cons x l ih =>
    intro hh
    have h1 := hh x (by simp)
    have h2 := ih (fun i hi => hh i (by simp [hi]))
    simp only [List.map_cons, List.sum_cons]; omega
theorem sum_lt {f h : Nat → Nat} : ∀ (l : List Nat) (k : Nat), k ∈ l → (∀ i ∈ l, f i ≤ h i) → f k < h k → (l.map f).sum < (l.map h).sum := by
  intro l
  induction l with
  | nil => intro k hk; simp at hk
  | cons x l ih =>
    intro k hk hh hlt
    have h1 := hh x (by simp)
    have h2 := sum_le l (fun i hi => hh i (by simp [hi]))
    simp only [List.map_cons, List.sum_cons]
    rcases List.mem_cons.1 hk with rfl | hk
    · omega
    · have := ih k hk (fun i hi => hh i (by simp [hi])) hlt; omega
theorem sum_bd {f : Nat → Nat} {c : Nat} : ∀ (l : List Nat), (∀ i ∈ l, f i ≤ c) → (l.map f).sum ≤ c * l.length := by
  intro l
  induction l with
  | nil => simp
  | cons x l ih =>
    intro hh
    have h1 := hh x (by simp)
    have h2 := ih (fun i hi => hh i (by simp [hi]))
    simp only [List.map_cons, List.sum_cons, List.length_cons, Nat.mul_add]; omega
theorem toCome_le (a g : Tr) : toCome a g ≤ 198 := by
  have := sum_bd (f := weight a g) (c := 2) (List.range' 1 99) (fun i _ => weight_le a g i)
  simpa [toCome] using this
theorem weight_congr {a b g : Tr} {i : Nat} (h : a i = b i) : weight a g i = weight b g i := by
  unfold weight parkedB
  rw [home_congr (a := a) (a' := b) (by simpa using h), h]
theorem weight_home {a g : Tr} {i : Nat} (h : a i = g i) : weight a g i = 0 := by
  unfold weight
  rw [home_none.2 (by simpa using h)]
theorem weight_pos {a g : Tr} {i : Nat} {s : St} (h : homeS a g i = some s) : 1 ≤ weight a g i := by
  unfold weight; rw [h]; simp only; split <;> omega
theorem come_home {a g : Tr} (hg : TrOk g) {id : Int} (h1 : 1 ≤ id) (h2 : id ≤ 99) {s : St} (h : homeS a g id = some s) (he : stepE a s = 0) : toCome (stepT a s) g < toCome a g := by
  obtain ⟨m, rfl⟩ := Int.eq_ofNat_of_zero_le (show 0 ≤ id by omega)
  have hd := home_done hg h1 h he
  have hz : weight (stepT a s) g m = 0 := weight_home (by rw [hd, if_pos rfl])
  refine sum_lt _ m (by rw [List.mem_range'_1]; omega) (fun i _ => ?_) (by rw [hz]; exact weight_pos h)
  by_cases e : (i : Int) = m
  · have : i = m := by omega
    subst this; rw [hz]; omega
  · rw [weight_congr (show stepT a s i = a i by rw [hd, if_neg e])]; omega
theorem come_park {a g : Tr} {id : Int} (h1 : 1 ≤ id) (h2 : id ≤ 99) {n : Nd} (h : homeS a g id = some ⟨61, n⟩) (hp : a id.toNat ≠ some (parkN id)) (he : stepE a (parkS id) = 0) : toCome (stepT a (parkS id)) g < toCome a g := by
  obtain ⟨m, rfl⟩ := Int.eq_ofNat_of_zero_le (show 0 ≤ id by omega)
  have hd := park_done he
  have hz : weight (stepT a (parkS m)) g m ≤ 1 := by
    unfold weight
    split
    · omega
    · rw [parkedB_iff.2 (by rw [hd, if_pos rfl])]; simp
  have hw : weight a g m = 2 := by
    unfold weight; rw [h]
    have : parkedB a m = false := by
      cases hq : parkedB a m
      · rfl
      · exact absurd (parkedB_iff.1 hq) (by simpa using hp)
    rw [this]; rfl
  refine sum_lt _ m (by rw [List.mem_range'_1]; omega) (fun i _ => ?_) (by omega)
  by_cases e : (i : Int) = m
  · have : i = m := by omega
    subst this; omega
  · rw [weight_congr (show stepT a (parkS m) i = a i by rw [hd, if_neg e])]; omega
theorem seg_come {g a b : Tr} {ss : List St} (h : Seg g a ss b) (hg : TrOk g) : toCome b g + ss.length ≤ toCome a g := by
  induction h with
  | nil a => simp
  | home h1 h2 hs he _ ih => have := come_home hg h1 h2 hs he; simp only [List.length_cons]; omega
  | park h1 h2 hno hs hp he _ ih => have := come_park h1 h2 hs hp he; simp only [List.length_cons]; omega
theorem come_none {a g : Tr} (ha : TrOk a) (hg : TrOk g) (h : toCome a g = 0) : a = g := by
  funext i
  by_cases hi : 1 ≤ i ∧ i ≤ 99
  · apply Classical.byContradiction
    intro hne
    cases hs : homeS a g i with
    | none => exact hne (by have := home_none.1 hs; simpa using this)
    | some s =>
      have h1 := weight_pos hs
      have h2 : (List.map (fun _ => 0) (List.range' 1 99)).sum < toCome a g := sum_lt (f := fun _ => 0) (h := weight a g) _ i (by rw [List.mem_range'_1]; omega) (fun _ _ => Nat.zero_le _) h1
      omega
  · have e1 : a i = none := by
      cases h : a i with
      | none => rfl
      | some n => have := ha.2 i n h; omega
    have e2 : g i = none := by
      cases h : g i with
      | none => rfl
      | some n => have := hg.2 i n h; omega
    rw [e1, e2]
/-! Rounds. -/
theorem goHome_fold (g : Tr) : ∀ (l : List Nat) (p : Pl) (m : Bool), (∀ i ∈ l, 1 ≤ i ∧ i ≤ 99) →
    ∃ ss, (l.foldl (goOne g) (p, m)).1.done = p.done ++ ss ∧ Seg g p.now ss (l.foldl (goOne g) (p, m)).1.now ∧ ((l.foldl (goOne g) (p, m)).2 = (m || !ss.isEmpty)) ∧ (ss = [] → (l.foldl (goOne g) (p, m)).1 = p ∧ ∀ i ∈ l, ∀ s, homeS p.now g i = some s → stepE p.now s ≠ 0) := by
  intro l
  induction l with
  | nil => intro p m _; exact ⟨[], by simp, Seg.nil _, by simp, fun _ => ⟨rfl, by simp⟩⟩
  | cons i l ih =>
    intro p m hl
    have hi := hl i (by simp)
    rw [List.foldl_cons]
    cases hs : homeS p.now g i with
    | none =>
      have e : goOne g (p, m) i = (p, m) := by unfold goOne; rw [hs]
      rw [e]
      obtain ⟨ss, k1, k2, k3, k4⟩ := ih p m (fun j hj => hl j (by simp [hj]))
      refine ⟨ss, k1, k2, k3, fun h => ⟨(k4 h).1, fun j hj s hs' => ?_⟩⟩
      rcases List.mem_cons.1 hj with rfl | hj
      · rw [hs] at hs'; cases hs'
      · exact (k4 h).2 j hj s hs'
    | some s =>
      by_cases he : stepE p.now s = 0
      · have e : goOne g (p, m) i = (⟨stepT p.now s, p.done ++ [s]⟩, true) := by
          unfold goOne; rw [hs]; simp only; rw [if_pos he]
        rw [e]
        obtain ⟨ss, k1, k2, k3, k4⟩ := ih ⟨stepT p.now s, p.done ++ [s]⟩ true (fun j hj => hl j (by simp [hj]))
        refine ⟨s :: ss, ?_, Seg.home (by omega) (by omega) hs he k2, ?_, fun h => by cases h⟩
        · rw [k1]; simp
        · rw [k3]; simp
      · have e : goOne g (p, m) i = (p, m) := by
          unfold goOne; rw [hs]; simp only; rw [if_neg he]
        rw [e]
        obtain ⟨ss, k1, k2, k3, k4⟩ := ih p m (fun j hj => hl j (by simp [hj]))
        refine ⟨ss, k1, k2, k3, fun h => ⟨(k4 h).1, fun j hj t hs' => ?_⟩⟩
        rcases List.mem_cons.1 hj with rfl | hj
        · rw [hs] at hs'; cases hs'; exact he
        · exact (k4 h).2 j hj t hs'
end Go.Proofs.YtdcjimlhaklhfabGreatDoor
