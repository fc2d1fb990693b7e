import Derived.Test.YtdcjimlhaklhfabGreatDoorHb12
namespace Go.Proofs.YtdcjimlhaklhfabGreatDoor
open Go.RowKit
theorem apart_new {w0 w : World} {b b' : Nat} {st : Int} {v : Value} {L : List Lo} (h : RS w0 w b st v L) (hb : w.heap.size ≤ b') : Apart2 b v b' (.slice none 0 0) := by
  intro k h1 h2
  have := h.lt h1
  rcases h2 with h2 | h2
  · have h2' : k = b' := h2
    omega
  · simp [Value.ownBlock] at h2
set_option maxHeartbeats 8000000 in
set_option maxRecDepth 100000 in
theorem copied_law (site other : Int) (ao : Option Addr) (la ca : Nat) (ops sc more : ByteArray) (w : World) (h : I64 site) (h' : I64 other) (ha : IntsAt w ao la) (hla : la ≤ 140737488355328) (hl : sc.size ≤ 1048576) (htab : Tab w) :
    Calls Tryz.prog 5 #[.int .i64 site, .int .i64 other, .slice ao la ca, .string ops, .string sc, .string more] w fun e w' => e = .returned (.bool true) ∧ Below w.heap.size w w' := by
  have HGA := hide (grown_any ao la ca w ha hla)
  have HTB := hide htab
  clear ha htab
  go_enter Tryz.func5, Tryz.ntmps5
  go_wp2_with fail
  refine (unhide HGA).mono ?_
  rintro e w1 ⟨⟨t, rfl, hvt⟩, hb1⟩
  have HPL := hide (planted_any site t w w1 h hvt hb1 (unhide HTB))
  clear hb1 HGA h hvt
  go_wp2_with fail
  refine (unhide HPL).mono ?_
  rintro e w2 ⟨rfl, v, L, hR2, hview, hb2⟩
  have HR2 := hide hR2
  have HB2 := hide hb2
  have HRP := hide (replica_site other w w2 h' hb2)
  clear hR2 hview hb2 HPL h'
  go_wp2_with fail
  refine (unhide HRP).mono ?_
  rintro e w3 ⟨rfl, hY3, hb3⟩
  have HX3 := hide ((unhide HR2).below hb3)
  have HY3 := hide hY3
  have HB3 := hide ((unhide HB2).trans (hb3.mono (unhide HB2).size))
  have HAP : Hid (Apart2 w1.heap.size v w2.heap.size (.slice none 0 0)) := hide (apart_new (unhide HR2) (Nat.le_refl _))
  clear hY3 hb3 HRP
  have HDX := hide (fun L s v W (hR : RS w W w1.heap.size (siteK site) v L) hb => kdeliver_any L s w1.heap.size (siteK site) v w W hR hb)
  have HDY := hide (fun L s v W (hR : RS w W w2.heap.size (siteK other) v L) hb => kdeliver_any L s w2.heap.size (siteK other) v w W hR hb)
  have HEX := hide (fun L v W (hR : RS w W w1.heap.size (siteK site) v L) => kexport_any L w1.heap.size (siteK site) v w W hR)
  have HLG := hide (fun L v W (hR : RS w W w1.heap.size (siteK site) v L) hb => klog_any L w1.heap.size (siteK site) v w W hR hb (unhide HTB))
  have HIN := hide (fun L s v W (hR : RS w W w1.heap.size (siteK site) v L) hb => kingest_any L s w1.heap.size (siteK site) v w W hR hb (unhide HTB))
  have HLK := hide (fun L vx vy W (hX : RS w W w1.heap.size (siteK site) vx L) (hY : RS w W w2.heap.size (siteK other) vy L) (hb : Below w.heap.size w W) => like_any L w1.heap.size w2.heap.size (siteK site) (siteK other) vx vy W hX.rep hY.rep (tab_below (unhide HTB) hb))
  generalize w1.heap.size = bx at *
  generalize w2.heap.size = bY at *
  generalize siteK site = sx at *
  generalize siteK other = sy at *
  go_wp2_with fail
  refine (unhide HDX _ _ _ _ (by exact unhide HX3) (by exact unhide HB3)).mono ?_
  rintro e w4 ⟨rfl, v4, hp4⟩
  have HX4 := hide hp4.rs
  have HY4 := hide ((unhide HY3).kept hp4.keeps (fun k h1 h2 => unhide HAP k h2 h1))
  have HB4 := hide hp4.bel
  have HAP4 := hide (apart_moved (unhide HAP) hp4.moved (unhide HY3))
  clear hp4 HX3 HY3 HB3 HAP
  generalize deliverT L (sl ops) = dt at *
  obtain ⟨L', n, er⟩ := dt
  simp only at HX4 ⊢
  go_wp2_with fail
  refine (unhide HEX _ _ _ (by exact unhide HX4)).mono ?_
  rintro e w5 ⟨rfl, hb5⟩
  have HX5 := hide ((unhide HX4).below hb5)
  have HY5 := hide ((unhide HY4).below hb5)
  have HB5 := hide ((unhide HB4).trans (hb5.mono (unhide HB4).size))
  have HED := hide (fun W => edited_any (viewT (places L')) (view_valid (places_ok (unhide HX4).rep.ok.2.1)) sc W hl)
  clear hb5 HX4 HY4 HB4
  go_wp2_with fail
  refine (unhide HED _).mono ?_
  rintro e w6 ⟨⟨u, tb, C, M, D, A, rfl, _, hE, _, _, _⟩, hb6⟩
  have HX6 := hide ((unhide HX5).below hb6)
  have HY6 := hide ((unhide HY5).below hb6)
  have HB6 := hide ((unhide HB5).trans (hb6.mono (unhide HB5).size))
  clear hb6 HX5 HY5 HB5 HED hE
  go_wp2_with fail
  refine (unhide HIN _ _ _ _ (by exact unhide HX6) (by exact unhide HB6)).mono ?_
  rintro e w7 ⟨rfl, v7, hp7⟩
  have HX7 := hide hp7.rs
  have HY7 := hide ((unhide HY6).kept hp7.keeps (fun k h1 h2 => unhide HAP4 k h2 h1))
  have HB7 := hide hp7.bel
  have HAP7 := hide (apart_moved (unhide HAP4) hp7.moved (unhide HY6))
  clear hp7 HX6 HY6 HB6 HAP4
  generalize ingestT L' sx (sl (bs (textT u))) = it at *
  obtain ⟨M', er'⟩ := it
  simp only at HX7 ⊢
  generalize hLL : L' ++ M' = LL at *
  clear hLL
  have hok := (unhide HX7).rep.ok
  have HCP := hide (copy_log hok)
  have hlt := logText_len25 LL hok.2.1
  have hll := hok.2.2
  have HCT := hide (fun W => kcut_any (bs (logText LL)) W (by rw [bs_size]; omega))
  rw [sl_bs, cut_log LL hok.2.1, List.length_map] at HCT
  clear hok
  go_wp2_with fail
  refine (unhide HLG _ _ _ (by exact unhide HX7) (by exact unhide HB7)).mono ?_
  rintro e w8 ⟨rfl, hb8⟩
  have HX8 := hide ((unhide HX7).below hb8)
  have HY8 := hide ((unhide HY7).below hb8)
  have HB8 := hide ((unhide HB7).trans (hb8.mono (unhide HB7).size))
  clear hb8 HX7 HY7 HB7
  go_wp2_with fail
  refine (unhide HCT _).mono ?_
  rintro e w9 ⟨ro, rc, rfl, _, hb9⟩
  have HX9 := hide ((unhide HX8).below hb9)
  have HY9 := hide ((unhide HY8).below hb9)
  have HB9 := hide ((unhide HB8).trans (hb9.mono (unhide HB8).size))
  clear hb9 HX8 HY8 HB8 HCT
  have HDY2 := hide (fun v W h1 h2 => unhide HDY [] (bs (logText LL)) v W h1 h2)
  rw [sl_bs, unhide HCP] at HDY2
  go_wp2_with fail
  refine (unhide HDY2 _ _ (by exact unhide HY9) (by exact unhide HB9)).mono ?_
  rintro e w10 ⟨rfl, v10, hp10⟩
  have HY10 := hide hp10.rs
  have HX10 := hide ((unhide HX9).kept hp10.keeps (fun k h1 h2 => unhide HAP7 k h1 h2))
  have HB10 := hide hp10.bel
  have HAP10 := hide (apart_moved (unhide HAP7).symm hp10.moved (unhide HX9))
  clear hp10 HX9 HY9 HB9 HAP7 HDY2
  simp only at HY10 ⊢
  have k1 : ((LL.length : Int) != (LL.length : Int)) = false := by simp
  go_wp2_with fail
  refine (unhide HLK _ _ _ _ (by exact unhide HX10) (by exact unhide HY10) (by exact unhide HB10)).mono ?_
  rintro e w11 ⟨rfl, hb11⟩
  have HX11 := hide ((unhide HX10).below hb11)
  have HY11 := hide ((unhide HY10).below hb11)
  have HB11 := hide ((unhide HB10).trans (hb11.mono (unhide HB10).size))
  clear hb11 HX10 HY10 HB10
  go_wp2_with fail
  refine (unhide HDX _ _ _ _ (by exact unhide HX11) (by exact unhide HB11)).mono ?_
  rintro e w12 ⟨rfl, v12, hp12⟩
  have HX12 := hide hp12.rs
  have HY12 := hide ((unhide HY11).kept hp12.keeps (fun k h1 h2 => unhide HAP10 k h1 h2))
  have HB12 := hide hp12.bel
  have HAP12 := hide (apart_moved (unhide HAP10).symm hp12.moved (unhide HY11))
  clear hp12 HX11 HY11 HB11 HAP10
  go_wp2_with fail
  refine (unhide HDY _ _ _ _ (by exact unhide HY12) (by exact unhide HB12)).mono ?_
  rintro e w13 ⟨rfl, v13, hp13⟩
  have HY13 := hide hp13.rs
  have HX13 := hide ((unhide HX12).kept hp13.keeps (fun k h1 h2 => unhide HAP12 k h1 h2))
  have HB13 := hide hp13.bel
  clear hp13 HX12 HY12 HB12 HAP12
  generalize deliverT LL (sl more) = dm at *
  obtain ⟨LM, m, f⟩ := dm
  simp only at HX13 HY13 ⊢
  go_wp2_with fail
  refine (unhide HLK _ _ _ _ (by exact unhide HX13) (by exact unhide HY13) (by exact unhide HB13)).mono ?_
  rintro e w14 ⟨rfl, hb14⟩
  have HB14 := hide ((unhide HB13).trans (hb14.mono (unhide HB13).size))
  clear hb14
  have y1 : ((m : Int) == (m : Int)) = true := by simp
  have y2 : (f == f) = true := by simp
  go_wp2
  go_ret
  exact ⟨by simp, unhide HB14⟩
end Go.Proofs.YtdcjimlhaklhfabGreatDoor
