import Derived.Test.YtkahmbpggdneoaaDoorM18
import Derived.Test.YtkahmbpggdneoaaDoorM16
import Derived.Deep.RegionWith
import Derived.Test.YtkahmbpggdneoaaDoorM7
import Derived.Test.YtkahmbpggdneoaaDoorM13
namespace Go.Proofs.YtkahmbpggdneoaaDoor
open Go.RowKit
def freeR (na nb : List Nd) (left : List St) (s : St) : Bool := left.all (fun o => !waitsR na nb s o)
theorem freeR_iff {na nb : List Nd} {left : List St} {s : St} : freeR na nb left s = true ↔ FreeAt na nb left s := by
  unfold freeR FreeAt; rw [List.all_eq_true]
  exact ⟨fun h o ho => by simpa using h o ho, fun h o ho => by simpa using h o ho⟩
def NoWait (na nb : List Nd) (left : List St) (s : St) (k : Nat) : Prop := ∀ o ∈ left.take k, waitsR na nb s o = false
theorem noWait_succ {na nb : List Nd} {left : List St} {s : St} {k : Nat} (h : NoWait na nb left s k) (hk : k < left.length) (hw : waitsR na nb s left[k] = false) : NoWait na nb left s (k + 1) := by
  intro o ho
  rw [List.take_succ_eq_append_getElem hk] at ho
  rcases List.mem_append.1 ho with ho | ho
  · exact h o ho
  · rw [List.mem_singleton.1 ho]; exact hw
theorem noWait_hit {na nb : List Nd} {left : List St} {s : St} {k : Nat} (hk : k < left.length) (hw : waitsR na nb s left[k] = true) : freeR na nb left s = false := by
  cases h : freeR na nb left s
  · rfl
  · rw [freeR_iff.1 h _ (List.getElem_mem hk)] at hw; cases hw
theorem noWait_end {na nb : List Nd} {left : List St} {s : St} {k : Nat} (h : NoWait na nb left s k) (hk : ¬ k < left.length) : freeR na nb left s = true :=
  freeR_iff.2 (fun o ho => h o (by rw [List.take_of_length_le (by omega)]; exact ho))
set_option maxHeartbeats 4000000 in
set_option maxRecDepth 100000 in
theorem free_any (na nb : List Nd) (left : List St) (j : Nat) (hj : j < left.length) (ao bo lo : Option Addr) (ca cb lc : Nat) (w : World) (ha : Row w ao na.length 3 (ndCells na)) (hla : na.length ≤ 4000) (hb : Row w bo nb.length 3 (ndCells nb)) (hlb : nb.length ≤ 4000) (hl : Row w lo left.length 4 (stCells left)) (hll : left.length ≤ 8000) (hs : ∀ s ∈ left, StOk s) :
    Calls Tryd.prog 48 #[.slice ao na.length ca, .slice bo nb.length cb, .slice lo left.length lc, .int .i64 j] w fun e w' => e = .returned (.bool (freeR na nb left left[j])) ∧ Below w.heap.size w w' := by
  have HA := hide ha
  have HB := hide hb
  have HL := hide hl
  have HWT := hide (fun o W (x1 : Row W ao na.length 3 (ndCells na)) (x2 : Row W bo nb.length 3 (ndCells nb)) => waits_any na nb left[j] o (hs _ (List.getElem_mem hj)) ao bo ca cb W x1 hla x2 hlb)
  clear ha hb hl hs
  generalize hsj : left[j] = s at *
  have HSJ := hide hsj
  clear hsj
  go_enter Tryd.func48, Tryd.ntmps48
  go_wp2
  go_loopw [9] (fun i wr => ∃ k : Nat, k ≤ left.length ∧ i = .int .i64 k ∧ Below w.heap.size w wr ∧ Hid (NoWait na nb left s k)) (fun i _ => left.length - (intOf i).toNat)
  case atStart => exact ⟨0, Nat.zero_le _, rfl, Below.refl _ _, hide (fun o ho => by simp at ho)⟩
  case round =>
    obtain ⟨k, hk, rfl, hbel, HN⟩ := hrel
    have hsz := hbel.size
    by_cases hlt : k < left.length
    · have hl2 := Row.below (unhide HL) hbel
      obtain ⟨g, hlo, hg, c0, c1, c2, c3⟩ := st_cells hl2 hlt
      obtain ⟨g', hlo', _, d0, d1, d2, d3⟩ := st_cells hl2 hj
      rw [hlo] at hlo'
      have hgg : g = g' := by cases hlo'; rfl
      subst hgg
      rw [unhide HSJ] at d0 d1 d2 d3
      have HA2 := hide (Row.below (unhide HA) hbel)
      have HB2 := hide (Row.below (unhide HB) hbel)
      have HW := hide (fun W x1 x2 => unhide HWT left[k] W x1 x2)
      have hj0 : (0 : Int) ≤ j := by omega
      have hj1 : (j : Int) < left.length := by omega
      have hk0 : (0 : Int) ≤ k := by omega
      have hk1 : (k : Int) < left.length := by omega
      rw [hlo]
      clear hlo hlo' hl2
      cases hq : waitsR na nb s left[k]
      · have HN2 := hide (noWait_succ (unhide HN) hlt hq)
        rw [hq] at HW
        clear hq
        generalize left[k] = o at *
        go_wp2_with fail
        go_region_with (go_at_call 69; refine (unhide HW _ (Row.below (unhide HA2) (below_drewN (Below.refl _ _) 1)) (Row.below (unhide HB2) (below_drewN (Below.refl _ _) 1))).mono ?_; rintro e w1 ⟨rfl, hb1⟩; have hb2 : Below w.heap.size w w1 := hbel.trans (((below_drewN (Below.refl wr.heap.size wr) 1).trans hb1).mono hsz); clear hb1)
        all_goals
          go_wp2
          go_roundw
          case rel => exact ⟨k + 1, by omega, by go_num, hb2, HN2⟩
          case measure => simp [intOf]; omega
      · have HF := hide (noWait_hit (s := s) hlt hq)
        rw [hq] at HW
        clear hq
        generalize left[k] = o at *
        go_wp2_with fail
        go_region_with (go_at_call 69; refine (unhide HW _ (Row.below (unhide HA2) (below_drewN (Below.refl _ _) 1)) (Row.below (unhide HB2) (below_drewN (Below.refl _ _) 1))).mono ?_; rintro e w1 ⟨rfl, hb1⟩; have hb2 : Below w.heap.size w w1 := hbel.trans (((below_drewN (Below.refl wr.heap.size wr) 1).trans hb1).mono hsz); clear hb1)
        all_goals
          go_wp2
          go_ret
          exact ⟨ret_bool (unhide HF).symm, hb2⟩
    · have HF := hide (noWait_end (unhide HN) hlt)
      go_wp2
      go_ret
      exact ⟨ret_bool (unhide HF).symm, hbel⟩
def lenV : Value → Nat
  | .slice _ n _ => n
  | _ => 0
set_option maxHeartbeats 4000000 in
set_option maxRecDepth 100000 in
theorem ringless_any (s t : ByteArray) (w : World) (h1 : (checkT (sl s)).1 = 0) (h2 : (checkT (sl t)).1 = 0) (hs : s.size ≤ 4000) (ht : t.size ≤ 4000) :
    Calls Tryd.prog 26 #[.string s, .string t] w fun e w' => (∃ r, e = .returned (.bool r) ∧ (r = true → Elim (readNodes (cut (sl s))) (readNodes (cut (sl t))) (homesR (readNodes (cut (sl s))) (readNodes (cut (sl t)))))) ∧ Below w.heap.size w w' := by
  have HN1 := hide (fun W => nodes_any s W hs)
  have HN2 := hide (fun W => nodes_any t W ht)
  have hf1 := (check_parts h1).2.2.1
  have hf2 := (check_parts h2).2.2.1
  have ra := rep_read h1
  have rg := rep_read h2
  have hla := rep_len ra
  have hlb := rep_len rg
  have hli := left_start ra rg (valid_of_check h1).ok (valid_of_check h2).ok
  have HOK := hide (left_ok hli (valid_of_check h2).ok)
  have hl0 := left_len hli
  clear ra rg h1 h2 hli
  generalize readNodes (cut (sl s)) = na at *
  generalize readNodes (cut (sl t)) = nb at *
  have HHO := hide (fun ao bo ca cb W (x1 : Row W ao na.length 3 (ndCells na)) (x2 : Row W bo nb.length 3 (ndCells nb)) => homes_any na nb ao bo ca cb W x1 x2 (by omega) (by omega))
  generalize homesR na nb = L0 at *
  go_enter Tryd.func26, Tryd.ntmps26
  go_wp2_with fail
  refine (unhide HN1 _).mono ?_
  rintro e w1 ⟨⟨hno, _⟩ | ⟨_, ao, ca, rfl, hr1, _⟩, hb1⟩
  · exact absurd hno hf1
  · have HR1 := hide hr1
    have HB1 := hide hb1
    clear hr1 hb1
    go_wp2_with fail
    refine (unhide HN2 _).mono ?_
    rintro e w2 ⟨⟨hno, _⟩ | ⟨_, bo, cb, rfl, hr2, _⟩, hb2⟩
    · exact absurd hno hf2
    · have HR2 := hide hr2
      have HR1' := hide (Row.below (unhide HR1) hb2)
      have HB2 := hide ((unhide HB1).trans (hb2.mono (unhide HB1).size))
      clear hr2 hb2
      go_wp2_with fail
      refine (unhide HHO _ _ _ _ _ (unhide HR1') (unhide HR2)).mono ?_
      rintro e w3 ⟨⟨lo, lc, rfl, hlr⟩, hb3⟩
      have HL := hide hlr
      have HA := hide (Row.below (unhide HR1') hb3)
      have HB := hide (Row.below (unhide HR2) hb3)
      have HB3 := hide ((unhide HB2).trans (hb3.mono (unhide HB2).size))
      clear hlr hb3
      go_wp2_with fail
      go_loopw [9, 10] (fun x i wr => ∃ k : Nat, ∃ left : List St, ∃ lo : Option Addr, ∃ lc : Nat, k ≤ left.length ∧ left.length ≤ 99 ∧ i = .int .i64 k ∧ x = .slice lo left.length lc ∧ Hid (Row wr lo left.length 4 (stCells left)) ∧ Below w3.heap.size w3 wr ∧ Hid (∀ s ∈ left, StOk s) ∧ Hid (Elim na nb left → Elim na nb L0)) (fun x i _ => lenV x * 1000 - (intOf i).toNat)
      case atStart => exact ⟨0, L0, lo, lc, Nat.zero_le _, hl0, rfl, rfl, HL, Below.refl _ _, HOK, hide (fun h => h)⟩
      case round =>
        obtain ⟨k, left, lo, lc, hk, hll, rfl, rfl, HRL, hbel, HSO, HE⟩ := hrel
        have hsz := hbel.size
        by_cases hlt : k < left.length
        · have HFR := hide (free_any na nb left k hlt ao bo lo ca cb lc wr (Row.below (unhide HA) hbel) (by omega) (Row.below (unhide HB) hbel) (by omega) (unhide HRL) (by omega) (unhide HSO))
          cases hq : freeR na nb left left[k]
          · rw [hq] at HFR
            clear hq
            go_wp2_with fail
            refine (unhide HFR).mono ?_
            rintro e w4 ⟨rfl, hb4⟩
            have HRL4 := hide (Row.below (unhide HRL) hb4)
            have hb5 := hbel.trans (hb4.mono hsz)
            clear hb4 hbel
            go_wp2
            go_roundw
            case rel => exact ⟨k + 1, left, lo, lc, by omega, hll, by go_num, rfl, HRL4, hb5, HSO, HE⟩
            case measure => simp [intOf, lenV]; omega
          · rw [hq] at HFR
            have HE2 : Hid (Elim na nb (left.eraseIdx k) → Elim na nb L0) := hide (fun h => unhide HE (Elim.step hlt (freeR_iff.1 hq) h))
            have HSO2 : Hid (∀ s ∈ left.eraseIdx k, StOk s) := hide (fun s hs => unhide HSO s (List.mem_of_mem_eraseIdx hs))
            have hel := List.length_eraseIdx_of_lt hlt
            have HWO := hide (fun W (x : Row W lo left.length 4 (stCells left)) => without_any left k lo lc W x (by omega))
            clear hq
            generalize left.eraseIdx k = left2 at *
            go_wp2_with fail
            refine (unhide HFR).mono ?_
            rintro e w4 ⟨rfl, hb4⟩
            have HRL4 := hide (Row.below (unhide HRL) hb4)
            have hb5 := hbel.trans (hb4.mono hsz)
            clear hb4 hbel
            go_wp2_with fail
            refine (unhide HWO _ (unhide HRL4)).mono ?_
            rintro e w5 ⟨⟨lo2, lc2, rfl, hl2⟩, hb6⟩
            have HRL5 := hide hl2
            have hb7 := hb5.trans (hb6.mono hb5.size)
            clear hl2 hb6 hb5
            go_wp2
            go_roundw
            case rel => exact ⟨0, left2, lo2, lc2, Nat.zero_le _, by omega, by go_num, by first | rfl | rw [hel], HRL5, hb7, HSO2, HE2⟩
            case measure => simp [intOf, lenV]; omega
        · have HB9 := hide ((unhide HB3).trans (hbel.mono (unhide HB3).size))
          go_wp2
          go_ret
          refine ⟨⟨_, rfl, fun h => unhide HE ?_⟩, unhide HB9⟩
          have hz : left.length = 0 := by
            have := h; simp at this; first | omega | (rw [this]; rfl)
          rw [List.length_eq_zero_iff.1 hz]; exact Elim.nil
end Go.Proofs.YtkahmbpggdneoaaDoor

namespace Go.Proofs.YtkahmbpggdneoaaDoor
open Go.RowKit
theorem refusal_compile' (f t : Str) : refusalT f t = compileE f t := rfl
set_option maxHeartbeats 4000000 in
theorem unparked_any (s t : ByteArray) (w : World) :
    Calls Tryd.prog 12 #[.string s, .string t] w fun e w' => e = .returned (.bool true) ∧ Below w.heap.size w w' := by
  have HRF := hide (fun W => refusal_any s t W)
  rw [refusal_compile'] at HRF
  by_cases hE : compileE (sl s) (sl t) = 0
  · obtain ⟨h1, h2, h3, h4⟩ := compileE_parts hE
    have ha := valid_of_check h1
    have hg := valid_of_check h2
    have hCT : compileT (sl s) (sl t) = scriptText (makeT (gather (readNodes (cut (sl s)))) (gather (readNodes (cut (sl t))))) := by unfold compileT; rw [if_pos hE]
    have htl := make_text_len ha hg
    have hcl := (readSteps_script (seg_can (makeT_seg ha hg) hg.ok)).2
    rw [sl_length] at h3 h4
    have HRI := hide (fun W => ringless_any s t W h1 h2 h3 h4)
    have HC := hide (fun W => compile_any s t W)
    rw [hE] at HC
    have HCU := hide (fun W => rcut_any (bs (compileT (sl s) (sl t))) W (by rw [bs_size, hCT]; exact htl))
    rw [sl_bs] at HCU
    have HHO := hide (fun W => homesCount_any s t W h3 h4 (check_parts h1).2.2.1 (check_parts h2).2.2.1)
    have HEQ : Hid (Elim (readNodes (cut (sl s))) (readNodes (cut (sl t))) (homesR (readNodes (cut (sl s))) (readNodes (cut (sl t)))) → (cut (compileT (sl s) (sl t))).length = (homesR (readNodes (cut (sl s))) (readNodes (cut (sl t)))).length) := hide (fun hel => by
      rw [hCT, hcl]; exact make_nopark (rep_read h1) (rep_read h2) ha hg hel)
    rw [hE] at HRF
    clear ha hg hCT htl hcl h1 h2 hE
    generalize Elim (readNodes (cut (sl s))) (readNodes (cut (sl t))) (homesR (readNodes (cut (sl s))) (readNodes (cut (sl t)))) = PE at *
    generalize (homesR (readNodes (cut (sl s))) (readNodes (cut (sl t)))).length = nh at *
    generalize compileT (sl s) (sl t) = sc at *
    generalize cut sc = rs at *
    go_enter Tryd.func12, Tryd.ntmps12
    go_wp2_with fail
    refine (unhide HRF _).mono ?_
    rintro e w1 ⟨rfl, hb1⟩
    have HB1 := hide hb1
    clear hb1
    go_wp2_with fail
    refine (unhide HRI _).mono ?_
    rintro e w2 ⟨⟨r, rfl, hr⟩, hb2⟩
    have HB2 := hide ((unhide HB1).trans (hb2.mono (unhide HB1).size))
    have HRR := hide hr
    clear hb2 hr
    cases r
    · go_wp2
      go_ret
      exact ⟨rfl, unhide HB2⟩
    · have hlen := unhide HEQ (unhide HRR rfl)
      have hlen2 : ((rs.length : Int) == (nh : Int)) = true := by rw [hlen]; simp
      go_wp2_with fail
      refine (unhide HC _).mono ?_
      rintro e w3 ⟨rfl, hb3⟩
      have HB3 := hide ((unhide HB2).trans (hb3.mono (unhide HB2).size))
      clear hb3
      go_wp2_with fail
      refine (unhide HCU _).mono ?_
      rintro e w4 ⟨co, cc, rfl, _, hb4⟩
      have HB4 := hide ((unhide HB3).trans (hb4.mono (unhide HB3).size))
      clear hb4
      go_wp2_with fail
      refine (unhide HHO _).mono ?_
      rintro e w5 ⟨rfl, hb5⟩
      have HB5 := hide ((unhide HB4).trans (hb5.mono (unhide HB4).size))
      clear hb5 hlen
      go_wp2_with go_in
      go_ret
      exact ⟨ret_bool (by first | rfl | exact hlen2 | simpa using hlen2), unhide HB5⟩
  · have hE2 : (compileE (sl s) (sl t) != 0) = true := by simpa using hE
    generalize compileE (sl s) (sl t) = E at *
    go_enter Tryd.func12, Tryd.ntmps12
    go_wp2_with fail
    refine (unhide HRF _).mono ?_
    rintro e w1 ⟨rfl, hb1⟩
    have HB1 := hide hb1
    clear hb1
    go_wp2
    go_ret
    exact ⟨rfl, unhide HB1⟩
set_option maxHeartbeats 4000000 in
theorem unparked_all (ao : Option Addr) (len cap : Nat) (w : World) (hops : OpsAt w ao len) (hlen : len ≤ 140737488355328) :
    Calls Tryd.prog 4 #[.slice ao len cap] w fun e w' => e = .returned (.bool true) ∧ Below w.heap.size w w' := by
  have HO := hide hops; clear hops
  go_enter Tryd.func4, Tryd.ntmps4
  go_wp2
  go_loopw [3] (fun i wr => ∃ k : Nat, k ≤ len ∧ i = .int .i64 k ∧ Below w.heap.size w wr) (fun i _ => len - (intOf i).toNat)
  case atStart => exact ⟨0, Nat.zero_le _, rfl, Below.refl _ _⟩
  case round =>
    obtain ⟨k, hk, rfl, hbel⟩ := hrel
    have hsz := hbel.size
    by_cases hlt : k < len
    · obtain ⟨b, off, hao, hb, hcells⟩ := unhide HO (by omega)
      obtain ⟨kd, x, y, s, t, e0, e1, e2, e3, e4⟩ := hcells k hlt
      clear hcells
      rw [← hbel.cell (p := ⟨b, _, none⟩) hb] at e0 e1 e2 e3 e4
      rw [hao]
      clear hao
      have hk0 : (0 : Int) ≤ k := by omega
      have hk1 : (k : Int) < len := by omega
      by_cases h1 : kd = 3
      · subst h1
        have HS := hide (fun W => unparked_any s t W)
        go_wp2_with fail
        go_region_with (go_at_call 12; refine (unhide HS _).mono ?_; rintro e w1 ⟨rfl, hb1⟩; have hb2 : Below w.heap.size w w1 := hbel.trans (((below_drewN (Below.refl wr.heap.size wr) 1).trans hb1).mono hsz); clear hb1)
        all_goals
          go_wp2
          go_roundw
          case rel => exact ⟨k + 1, by omega, by go_num, hb2⟩
          case measure => simp [intOf]; omega
      · have h1' : (kd == 3) = false := by simpa using h1
        go_wp2
        go_roundw
        case rel => exact ⟨k + 1, by omega, by go_num, hbel⟩
        case measure => simp [intOf]; omega
    · go_wp2
      go_ret
      exact ⟨rfl, hbel⟩
end Go.Proofs.YtkahmbpggdneoaaDoor
