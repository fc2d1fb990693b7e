import Derived.Test.YtkahmbpggdneoaaGreatDoorS5
import Derived.Test.YtkahmbpggdneoaaGreatDoorM9
namespace Go.Proofs.YtkahmbpggdneoaaGreatDoor
open Go.RowKit
theorem atR_in {l : List St} {s : St} (h : s ∈ l) : ∃ k, k < l.length ∧ atR l s = (k : Int) ∧ ∃ hk : k < l.length, l[k] = s := by
  obtain ⟨i, hi, e⟩ := List.mem_iff_getElem.1 h
  unfold atR atN
  rcases scan_cases (isAt l s) 0 l.length with ⟨h1, _, h3, _⟩ | ⟨_, h2⟩
  · rw [if_pos h1]
    generalize scan (isAt l s) 0 l.length = k at *
    refine ⟨k, h1, rfl, h1, ?_⟩
    unfold isAt at h3
    rw [stAt_get _ _ h1] at h3
    exact stEq_iff.1 h3
  · have := h2 i (by omega) hi
    unfold isAt at this
    rw [stAt_get _ _ hi, stEq_iff.2 e] at this; cases this
theorem atR_out {l : List St} {s : St} (h : s ∉ l) : atR l s = -1 := by
  unfold atR atN
  rcases scan_cases (isAt l s) 0 l.length with ⟨h1, _, h3, _⟩ | ⟨h1, _⟩
  · generalize scan (isAt l s) 0 l.length = k at *
    unfold isAt at h3
    rw [stAt_get _ _ h1] at h3
    exact absurd (by rw [← stEq_iff.1 h3]; exact List.getElem_mem h1) h
  · rw [h1, if_neg (by omega)]
theorem stuck_left {left : List St} {ns : List Nd} {t g : Tr} (hr : Rep ns t) (hv : Valid t) (hg : TrOk g) (hl : LeftInv left t g) (hst : Stuck t g) : stuckR ns left = true := by
  unfold stuckR
  rw [decide_eq_true]
  rcases scan_cases (canDo ns left) 0 left.length with ⟨h1, _, h3, _⟩ | ⟨h1, _⟩
  · exfalso
    generalize scan (canDo ns left) 0 left.length = k at *
    unfold canDo at h3
    rw [stAt_get _ _ h1] at h3
    have hm : left[k] ∈ left := List.getElem_mem h1
    obtain ⟨m1, m2, m3⟩ := (hl.mem _).1 hm
    rw [doR_same hr hv (left_ok hl hg _ hm)] at h3
    exact hst _ _ m1 m2 m3 (by simpa using h3)
  · omega
theorem park_in_left {left : List St} {t g : Tr} (hg : TrOk g) (hl : LeftInv left t g) {id : Int} (h1 : 1 ≤ id) (h2 : id ≤ 99) {n : Nd} (hs : homeS t g id = some ⟨61, n⟩) : ∃ j, j < left.length ∧ pkIs left id j = true := by
  have hoi := (home_ok hg h1 h2 hs).2
  have hm : (⟨61, n⟩ : St) ∈ left := (hl.mem _).2 ⟨by rw [hoi]; exact h1, by rw [hoi]; exact h2, by rw [hoi]; exact hs⟩
  obtain ⟨j, hj, e⟩ := List.mem_iff_getElem.1 hm
  refine ⟨j, hj, ?_⟩
  unfold pkIs
  rw [stAt_get _ _ hj, e]
  simp only at hoi
  simp [hoi]
set_option maxHeartbeats 4000000 in
set_option maxRecDepth 100000 in
theorem leads_yes (na nb : List Nd) (a g : Tr) (sc : Str) (ss : List St) (ao bo : Option Addr) (ca cb : Nat) (w : World) (hra : Row w ao na.length 3 (ndCells na)) (hrb : Row w bo nb.length 3 (ndCells nb))
    (ra : Rep na a) (rg : Rep nb g) (ha : Valid a) (hg : Valid g) (hsc : readSteps (cut sc) = ss) (hsl : (cut sc).length = ss.length) (hseg : Seg g a ss g) (hlen : ss.length ≤ 198) (hscl : sc.length ≤ 4000) :
    Calls Tryz.prog 71 #[.slice ao na.length ca, .slice bo nb.length cb, .string (bs sc)] w fun e w' => e = .returned (.bool true) ∧ Below w.heap.size w w' := by
  have HST := hide (fun W => rsteps_any (bs sc) W (by rw [bs_size]; exact hscl))
  rw [sl_bs, hsc, hsl] at HST
  have hla := rep_len ra
  have hlb := rep_len rg
  have HHO := hide (fun W (x1 : Row W ao na.length 3 (ndCells na)) (x2 : Row W bo nb.length 3 (ndCells nb)) => homes_any na nb ao bo ca cb W x1 x2 (by omega) (by omega))
  have HLI := hide (left_start ra rg ha.ok hg.ok)
  have HRA := hide hra
  have HRB := hide hrb
  have HREP := hide ra
  have HVA := hide ha
  have HVG := hide hg
  have HSEG := hide hseg
  have HCAN := hide (seg_can hseg hg.ok)
  clear hra hrb ra rg ha hg hseg hsc hsl
  generalize homesR na nb = L0 at *
  go_enter Tryz.func71, Tryz.ntmps71
  go_wp2_with fail
  refine (unhide HST _).mono ?_
  rintro e w1 ⟨⟨hno, _⟩ | ⟨_, so, scp, rfl, hsrow⟩, hb1⟩
  · exact absurd hno (Nat.lt_irrefl _)
  · have HSROW := hide hsrow
    have HRA1 := hide (Row.below (unhide HRA) hb1)
    have HRB1 := hide (Row.below (unhide HRB) hb1)
    have HB1 := hide hb1
    clear hsrow hb1
    go_wp2_with fail
    refine (unhide HHO _ (unhide HRA1) (unhide HRB1)).mono ?_
    rintro e w2 ⟨⟨lo, lc, rfl, hlrow⟩, hb2⟩
    have HL2 := hide hlrow
    have HRA2 := hide (Row.below (unhide HRA1) hb2)
    have HS2 := hide (Row.below (unhide HSROW) hb2)
    have HB2 := hide ((unhide HB1).trans (hb2.mono (unhide HB1).size))
    clear hlrow hb2
    go_wp2_with fail
    go_loopw [9, 10, 11] (fun x y i wr => ∃ k : Nat, ∃ left : List St, ∃ ns : List Nd, ∃ t : Tr, ∃ lo no : Option Addr, ∃ lc nc : Nat, k ≤ ss.length ∧ i = .int .i64 k ∧ x = .slice lo left.length lc ∧ y = .slice no ns.length nc ∧ Hid (Row wr lo left.length 4 (stCells left)) ∧ Hid (Row wr no ns.length 3 (ndCells ns)) ∧ Below w2.heap.size w2 wr ∧ Hid (Rep ns t) ∧ Hid (Valid t) ∧ Hid (LeftInv left t g) ∧ Hid (Seg g t (ss.drop k) g)) (fun _ _ i _ => ss.length - (intOf i).toNat)
    case atStart => exact ⟨0, L0, na, a, lo, ao, lc, ca, Nat.zero_le _, rfl, rfl, rfl, HL2, HRA2, Below.refl _ _, HREP, HVA, HLI, HSEG⟩
    case round =>
      obtain ⟨k, left, ns, t, lo, no, lc, nc, hk, rfl, rfl, rfl, HRL, HRN, hbel, HR, HV, HLV, HS⟩ := hrel
      have hsz := hbel.size
      have hnl := rep_len (unhide HR)
      have hll := left_len (unhide HLV)
      have HLOK := hide (left_ok (unhide HLV) (unhide HVG).ok)
      by_cases hlt : k < ss.length
      · obtain ⟨gb, hso, hgb, c0, c1, c2, c3⟩ := st_cells (Row.below (unhide HS2) hbel) hlt
        have hs := unhide HS
        rw [List.drop_eq_getElem_cons hlt] at hs
        have hcan := unhide HCAN _ (List.getElem_mem hlt)
        have HAT := hide (rat_any left ss[k] lo lc wr (unhide HRL) (by omega))
        rw [hso]
        clear hso
        generalize hst : ss[k] = s at *
        clear hst
        have HDO := hide (fun W (h : Row W no ns.length 3 (ndCells ns)) => rdo_any ns s no nc W h (by omega) hcan.1)
        rw [doR_same (unhide HR) (unhide HV) hcan.1] at HDO
        have hcells : ∀ W, Below wr.heap.size wr W → W.cell? ⟨gb, k * 4, none⟩ = some (.int .u8 s.kind.toNat) ∧ W.cell? ⟨gb, k * 4 + 1, none⟩ = some (.int .i64 s.node.id) ∧ W.cell? ⟨gb, k * 4 + 2, none⟩ = some (.int .i64 s.node.parent) ∧ W.cell? ⟨gb, k * 4 + 3, none⟩ = some (.string (bs s.node.name)) := fun W hW =>
          ⟨by rw [hW.cell (p := ⟨gb, _, none⟩) hgb]; exact c0, by rw [hW.cell (p := ⟨gb, _, none⟩) hgb]; exact c1, by rw [hW.cell (p := ⟨gb, _, none⟩) hgb]; exact c2, by rw [hW.cell (p := ⟨gb, _, none⟩) hgb]; exact c3⟩
        have HCELL := hide hcells
        clear hcells
        cases hs with
        | @home _ _ i _ _ h1 h2 hh he kk =>
          rw [he] at HDO
          have hoi := (home_ok (unhide HVG).ok h1 h2 hh).2
          have hmem : s ∈ left := ((unhide HLV).mem s).2 ⟨by rw [hoi]; exact h1, by rw [hoi]; exact h2, by rw [hoi]; exact hh⟩
          obtain ⟨j, hj, hat, hj', hjs⟩ := atR_in hmem
          rw [hat] at HAT
          have HWO := hide (without_any left j lo lc)
          have hLI2 := left_erase (unhide HLV) (unhide HVG).ok hj (by rw [hjs]; exact he)
          rw [hjs] at hLI2
          have HLI2 := hide hLI2
          have HR2 := hide (rep_step (unhide HR) (unhide HV) hcan.1 he)
          have HV2 := hide (valid_step (unhide HV) hcan.1)
          have HS3 := hide kk
          have hj0 : (0 : Int) ≤ j := by omega
          clear hh hmem hat hjs he hcan hLI2 kk hoi
          generalize lastR ns s = ns2 at *
          generalize stepT t s = t2 at *
          generalize left.eraseIdx j = left2 at *
          go_wp2_with fail
          refine (unhide HAT).mono ?_
          rintro e w3 ⟨rfl, hb3⟩
          have HRL3 := hide (Row.below (unhide HRL) hb3)
          have HRN3 := hide (Row.below (unhide HRN) hb3)
          have hb3' := hb3
          go_wp2_with fail
          refine (unhide HWO w3 (unhide HRL3) (by omega)).mono ?_
          rintro e w4 ⟨⟨lo2, lc2, rfl, hl2⟩, hb4⟩
          have hb34 := hb3.trans (hb4.mono hb3.size)
          obtain ⟨d0, d1, d2, d3⟩ := unhide HCELL w4 hb34
          have HRN4 := hide (Row.below (unhide HRN3) hb4)
          have HRL4 := hide hl2
          have hb5 := hbel.trans (hb34.mono hsz)
          clear hl2 hb3 hb4 hb34 hb3' c0 c1 c2 c3 hbel
          go_wp2_with fail
          refine (unhide HDO _ (unhide HRN4)).mono ?_
          rintro e w5 ⟨⟨hne, _⟩ | ⟨_, no2, nc2, rfl, hr2⟩, hb6⟩
          · exact absurd rfl hne
          · have HRN5 := hide hr2
            have HRL5 := hide (Row.below (unhide HRL4) hb6)
            have hb7 := hb5.trans (hb6.mono hb5.size)
            clear hr2 hb6 hb5 d0 d1 d2 d3
            go_wp2
            go_roundw
            case rel => exact ⟨k + 1, left2, ns2, t2, lo2, no2, lc2, nc2, by omega, by go_num, rfl, rfl, HRL5, HRN5, hb7, HR2, HV2, HLI2, HS3⟩
            case measure => simp [intOf]; omega
        | @park _ _ id n _ h1 h2 hno hh hp he kk =>
          rw [he] at HDO
          have hnot := park_not_left (unhide HLV) hno he
          have hat := atR_out hnot
          rw [hat] at HAT
          obtain ⟨m, hm⟩ : ∃ m, t id.toNat = some m := by
            rcases home_cases hh with ⟨e, _⟩ | ⟨_, e, _⟩ | ⟨_, m, _, _, hm, _⟩
            · cases e
            · cases e
            · exact ⟨m, hm⟩
          have hlook : lookR ns id = some m := by rw [rep_look (unhide HR) (unhide HV).ok]; exact hm
          have hmn : ndEq m (parkN id) = false := by
            cases hq : ndEq m (parkN id)
            · rfl
            · exact absurd (by rw [hm, ndEq_iff.1 hq]) hp
          have HPK := hide (fun W (x1 : Row W no ns.length 3 (ndCells ns)) (x2 : Row W lo left.length 4 (stCells left)) => parks_yes ns left id no lo nc lc W x1 x2 (by omega) (by omega) (unhide HLOK) h1 h2 m hlook hmn (park_in_left (unhide HVG).ok (unhide HLV) h1 h2 hh) (stuck_left (unhide HR) (unhide HV) (unhide HVG).ok (unhide HLV) hno))
          have HLI2 := hide (left_park (unhide HLV) h1 hh he hnot h2 (unhide HVG).ok)
          have HR2 := hide (rep_step (unhide HR) (unhide HV) hcan.1 he)
          have HV2 := hide (valid_step (unhide HV) hcan.1)
          have HS3 := hide kk
          clear hh hnot hat he hcan kk hm hlook hmn hp hno
          have ek : (parkS id).kind.toNat = 61 := rfl
          have ei : (parkS id).node.id = id := rfl
          have ep : (parkS id).node.parent = 0 := rfl
          have en : (parkS id).node.name = 116 :: 126 :: digs id := rfl
          generalize lastR ns (parkS id) = ns2 at *
          generalize stepT t (parkS id) = t2 at *
          rw [ek, ei, ep, en] at HAT HDO
          rw [ek] at c0
          rw [ei] at c1
          rw [ep] at c2
          rw [en] at c3
          simp only [ek, ei, ep, en] at HCELL
          go_wp2_with fail
          refine (unhide HAT).mono ?_
          rintro e w3 ⟨rfl, hb3⟩
          have HRL3 := hide (Row.below (unhide HRL) hb3)
          have HRN3 := hide (Row.below (unhide HRN) hb3)
          obtain ⟨d0, d1, d2, d3⟩ := unhide HCELL w3 hb3
          go_wp2_with fail
          refine (unhide HPK w3 (unhide HRN3) (unhide HRL3)).mono ?_
          rintro e w4 ⟨rfl, hb4⟩
          have hb34 := hb3.trans (hb4.mono hb3.size)
          obtain ⟨f0, f1, f2, f3⟩ := unhide HCELL w4 hb34
          have HRN4 := hide (Row.below (unhide HRN3) hb4)
          have HRL4 := hide (Row.below (unhide HRL3) hb4)
          have hb5 := hbel.trans (hb34.mono hsz)
          clear hb3 hb4 hb34 c0 c1 c2 c3 hbel d0 d1 d2 d3
          go_wp2_with fail
          refine (unhide HDO _ (unhide HRN4)).mono ?_
          rintro e w5 ⟨⟨hne, _⟩ | ⟨_, no2, nc2, rfl, hr2⟩, hb6⟩
          · exact absurd rfl hne
          · have HRN5 := hide hr2
            have HRL5 := hide (Row.below (unhide HRL4) hb6)
            have hb7 := hb5.trans (hb6.mono hb5.size)
            clear hr2 hb6 hb5 f0 f1 f2 f3
            go_wp2
            go_roundw
            case rel => exact ⟨k + 1, left, ns2, t2, lo, no2, lc, nc2, by omega, by go_num, rfl, rfl, HRL5, HRN5, hb7, HR2, HV2, HLI2, HS3⟩
            case measure => simp [intOf]; omega
      · have ht : t = g := by
          have hs := unhide HS
          rw [List.drop_eq_nil_of_le (by omega)] at hs
          cases hs; rfl
        subst ht
        have hl0 := left_end (unhide HLV)
        subst hl0
        have HB9 := hide ((unhide HB2).trans (hbel.mono (unhide HB2).size))
        go_wp2
        go_ret
        exact ⟨rfl, unhide HB9⟩
end Go.Proofs.YtkahmbpggdneoaaGreatDoor
