import Derived.Test.YtdcjimlhaklhfabDoorHs1
import Derived.Test.YtdcjimlhaklhfabDoorHs6
import Derived.Test.YtdcjimlhaklhfabDoorHs4
namespace Go.Proofs.YtdcjimlhaklhfabDoor
open Go.RowKit
def pickK (c : Int) (n : Nat) : Nat := ((if c < 0 then -(c + 1) else c) % n).toNat
theorem pickK_lt (c : Int) {n : Nat} (h : 0 < n) : pickK c n < n := by
  unfold pickK
  have h1 := Int.emod_nonneg (if c < 0 then -(c + 1) else c) (show (n : Int) ≠ 0 by omega)
  have h2 := Int.emod_lt_of_pos (if c < 0 then -(c + 1) else c) (show (0 : Int) < n by omega)
  omega
theorem pickK_int (c : Int) {n : Nat} (h : 0 < n) : ((pickK c n : Nat) : Int) = (if c < 0 then -(c + 1) else c) % n := by
  unfold pickK
  exact Int.toNat_of_nonneg (Int.emod_nonneg _ (show (n : Int) ≠ 0 by omega))
/-- An int of Go's. -/
abbrev I64 (c : Int) : Prop := -9223372036854775808 ≤ c ∧ c ≤ 9223372036854775807
set_option maxHeartbeats 1000000 in
theorem kpick_any (c : Int) (n : Nat) (w : World) (hn : 0 < n) (hn2 : n ≤ 10000000000000) (h0 : I64 c) :
    Calls Tryd.prog 11 #[.int .i64 c, .int .i64 n] w fun e w' => e = .returned (.int .i64 (pickK c n)) ∧ w' = w := by
  obtain ⟨h0, h1⟩ := h0
  have HP := hide (pickK_int c hn)
  generalize pickK c n = p at *
  by_cases hc : c < 0
  · have hd : decide (c < 0) = true := by simpa using hc
    have HP2 : Hid ((p : Int) = -((c + 1).tmod n)) := by apply hide; rw [unhide HP, if_pos hc, ← Int.neg_tmod]; exact (Int.tmod_eq_emod_of_nonneg (by omega)).symm
    go_enter Tryd.func11, Tryd.ntmps11
    go_wp2
    go_ret
    exact ⟨ret_int (by rw [unhide HP2]), rfl⟩
  · have hd : decide (c < 0) = false := by simpa using hc
    have HP2 : Hid ((p : Int) = c % n) := by apply hide; rw [unhide HP, if_neg hc]
    have hc0 : 0 ≤ c := by omega
    go_enter Tryd.func11, Tryd.ntmps11
    go_wp2
    go_ret
    exact ⟨ret_int (by rw [unhide HP2]), rfl⟩
set_option maxHeartbeats 1000000 in
theorem replica_any (site : Int) (w : World) (h : I64 site) :
    Calls Tryd.prog 6 #[.int .i64 site] w fun e w' => e = .returned (.pointer (some ⟨w.heap.size, 0, none⟩)) ∧ (∃ st, Repl w' w.heap.size st (.slice none 0 0) []) ∧ Below w.heap.size w w' := by
  have HP := hide (fun W => kpick_any site 9 W (by omega) (by omega) h)
  have hp := pickK_lt site (show 0 < 9 by omega)
  generalize pickK site 9 = p at *
  have HN := hide (new_ok (1 + (p : Int)) w (by omega) (by omega))
  clear h
  go_enter Tryd.func6, Tryd.ntmps6
  go_wp2_with fail
  refine (unhide HP _).mono ?_
  rintro e w1 ⟨rfl, rfl⟩
  go_wp2_with fail
  refine (unhide HN).mono ?_
  rintro e w2 ⟨rfl, hR, hb⟩
  have HR := hide hR
  have HB := hide hb
  clear hR hb
  go_wp2
  go_ret
  exact ⟨rfl, ⟨_, unhide HR⟩, unhide HB⟩
set_option maxHeartbeats 1000000 in
theorem right_any (t : Tr) (w : World) (hv : Valid t) :
    Calls Tryd.prog 24 #[.string (bs (textT t))] w fun e w' => e = .returned (.bool true) ∧ Below w.heap.size w w' := by
  have HC := hide (fun W => check_any (bs (textT t)) W)
  rw [sl_bs, (check_text hv).1] at HC
  go_enter Tryd.func24, Tryd.ntmps24
  go_wp2_with fail
  refine (unhide HC _).mono ?_
  rintro e w1 ⟨rfl, hb1⟩
  go_wp2
  go_ret
  exact ⟨rfl, hb1⟩
set_option maxHeartbeats 2000000 in
theorem like_any (L : List Lo) (bx b' : Nat) (sx sy : Int) (vx vy : Value) (w : World) (hX : Repl w bx sx vx L) (hY : Repl w b' sy vy L) (htab : Tab w) :
    Calls Tryd.prog 13 #[.pointer (some ⟨bx, 0, none⟩), .pointer (some ⟨b', 0, none⟩)] w fun e w' => e = .returned (.bool true) ∧ Below w.heap.size w w' := by
  have HL1 := hide (fun W (h : Repl W bx sx vx L) (t : Tab W) => log_any L bx sx vx W h t)
  have HL2 := hide (fun W (h : Repl W b' sy vy L) (t : Tab W) => log_any L b' sy vy W h t)
  have HE1 := hide (fun W (h : Repl W bx sx vx L) => export_any L bx sx vx W h)
  have HE2 := hide (fun W (h : Repl W b' sy vy L) => export_any L b' sy vy W h)
  have HRT := hide (fun W => right_any (viewT (places L)) W (view_valid (places_ok hX.ok.2.1)))
  have HX := hide hX
  have HY := hide hY
  have HT := hide htab
  clear hX hY htab
  have hb1 : ((bs (logText L)).toList == (bs (logText L)).toList) = true := by simp
  have hb2 : ((bs (textT (viewT (places L)))).toList == (bs (textT (viewT (places L)))).toList) = true := by simp
  generalize bs (logText L) = tl at *
  generalize bs (textT (viewT (places L))) = tv at *
  go_enter Tryd.func13, Tryd.ntmps13
  go_wp2_with fail
  refine (unhide HL1 _ (by exact unhide HX) (by exact unhide HT)).mono ?_
  rintro e w1 ⟨rfl, c1⟩
  have HX1 := hide ((unhide HX).below c1)
  have HY1 := hide ((unhide HY).below c1)
  have HT1 := hide (tab_below (unhide HT) c1)
  have HB1 := hide c1
  clear c1
  go_wp2_with fail
  refine (unhide HL2 _ (by exact unhide HY1) (by exact unhide HT1)).mono ?_
  rintro e w2 ⟨rfl, c2⟩
  have HX2 := hide ((unhide HX1).below c2)
  have HY2 := hide ((unhide HY1).below c2)
  have HB2 := hide ((unhide HB1).trans (c2.mono (unhide HB1).size))
  clear c2
  go_wp2_with fail
  refine (unhide HE1 _ (by exact unhide HX2)).mono ?_
  rintro e w3 ⟨rfl, c3⟩
  have HY3 := hide ((unhide HY2).below c3)
  have HB3 := hide ((unhide HB2).trans (c3.mono (unhide HB2).size))
  clear c3
  go_wp2_with fail
  refine (unhide HE2 _ (by exact unhide HY3)).mono ?_
  rintro e w4 ⟨rfl, c4⟩
  have HB4 := hide ((unhide HB3).trans (c4.mono (unhide HB3).size))
  clear c4
  go_wp2_with fail
  refine (unhide HRT _).mono ?_
  rintro e w5 ⟨rfl, c5⟩
  have HB5 := hide ((unhide HB4).trans (c5.mono (unhide HB4).size))
  clear c5
  go_wp2
  go_ret
  exact ⟨by simp, unhide HB5⟩
end Go.Proofs.YtdcjimlhaklhfabDoor

namespace Go.Proofs.YtdcjimlhaklhfabDoor
open Go.RowKit
def oneOp : Lo := ⟨1, 1, ⟨2, 0, [97]⟩⟩
theorem one_deliver : deliverT [] [49, 32, 49, 32, 50, 32, 48, 32, 97, 59] = ([oneOp], 1, 0) := by
  unfold deliverT
  rw [if_neg (by decide), show readOps (cut [49, 32, 49, 32, 50, 32, 48, 32, 97, 59]) = some [oneOp] from rfl]
  rfl
theorem one_view : textT (viewT (places [oneOp])) = [50, 32, 48, 32, 97, 59] := by decide +kernel
theorem one_text : sl (ByteArray.mk #[49, 32, 49, 32, 50, 32, 48, 32, 97, 59]) = [49, 32, 49, 32, 50, 32, 48, 32, 97, 59] := rfl
set_option maxHeartbeats 1000000 in
theorem takes_any (site : Int) (w : World) (h : I64 site) :
    Calls Tryd.prog 5 #[.int .i64 site] w fun e w' => e = .returned (.bool true) ∧ Below w.heap.size w w' := by
  have HR := hide (replica_any site w h)
  clear h
  go_enter Tryd.func5, Tryd.ntmps5
  go_wp2_with fail
  refine (unhide HR).mono ?_
  rintro e w1 ⟨rfl, ⟨st, hR⟩, hb1⟩
  have HD := hide (deliver_any [] ⟨#[49, 32, 49, 32, 50, 32, 48, 32, 97, 59]⟩ w.heap.size st (.slice none 0 0) w1 hR)
  rw [one_text, one_deliver] at HD
  have hlt := hR.lt
  clear hR
  go_wp2_with fail
  refine (unhide HD).mono ?_
  rintro e w2 ⟨rfl, v', hR2, hK2, hM2⟩
  have HB2 : Hid (Below w.heap.size w w2) := hide (hb1.trans (hK2.below (by omega) (fun k hk hf => by
    rcases hf with hf | hf
    · omega
    · simp [Value.ownBlock] at hf)))
  have HE := hide (export_any _ w.heap.size st v' w2 hR2)
  try simp only at HE
  rw [one_view] at HE
  clear hR2 hK2 hM2
  go_wp2_with fail
  refine (unhide HE).mono ?_
  rintro e w3 ⟨rfl, hb3⟩
  have HB3 := hide ((unhide HB2).trans (hb3.mono (unhide HB2).size))
  clear hb3
  have hbb : ((bs [50, 32, 48, 32, 97, 59]).toList == [50, 32, 48, 32, 97, 59]) = true := by rw [tl_sl, sl_bs]; rfl
  have hbc : ((bs [50, 32, 48, 32, 97, 59]).toList == (⟨#[50, 32, 48, 32, 97, 59]⟩ : ByteArray).toList) = true := by rw [tl_sl, tl_sl, sl_bs]; rfl
  generalize bs [50, 32, 48, 32, 97, 59] = tx at *
  go_wp2
  go_ret
  exact ⟨by simp, unhide HB3⟩
end Go.Proofs.YtdcjimlhaklhfabDoor

namespace Go.Proofs.YtdcjimlhaklhfabDoor
open Go.RowKit
theorem turn_up (n f i : Nat) : ((f : Int) + (i : Int)) % (n : Int) = ((turnAt n f true i : Nat) : Int) := by
  unfold turnAt; simp only [if_true]; norm_cast
theorem turn_down {n f i : Nat} (h : i ≤ f + n) : ((f : Int) + (n : Int) - (i : Int)) % (n : Int) = ((turnAt n f false i : Nat) : Int) := by
  unfold turnAt; simp only [Bool.false_eq_true, if_false]
  rw [show (f : Int) + (n : Int) - (i : Int) = ((f + n - i : Nat) : Int) by omega]; norm_cast
theorem turned_take {list : List Lo} {f : Nat} {up : Bool} {i : Nat} (h : i < list.length) : ((turned list f up).take (i + 1)).foldl nextS [] = nextS (((turned list f up).take i).foldl nextS []) (list[turnAt list.length f up i]'(turnAt_lt (by omega))) := by
  rw [List.take_succ_eq_append_getElem (by rw [turned_length]; exact h), List.foldl_append, turned_get h]; rfl
theorem take_le (l : List Lo) (i : Nat) : ((l.take i).foldl nextS []).length ≤ (l.foldl nextS []).length := by
  conv => rhs; rw [← List.take_append_drop i l]
  rw [List.foldl_append]; exact fold_mono _ _
set_option maxHeartbeats 4000000 in
set_option maxRecDepth 100000 in
theorem single_any (s : Str) (list : List Lo) (f : Nat) (up : Bool) (b' : Nat) (st : Int) (ao : Option Addr) (cap : Nat) (w : World) (hs : s.length ≤ 4000) (hq : readOps (cut s) = some list) (hrow : Row w ao (cut s).length 1 ((cut s).map strV)) (hY : Repl w b' st (.slice none 0 0) []) (hf : f < (cut s).length ∨ f = 0) (hfit : ((turned list f up).foldl nextS []).length ≤ 150) :
    Calls Tryd.prog 12 #[.pointer (some ⟨b', 0, none⟩), .slice ao (cut s).length cap, .int .i64 f, .bool up] w fun e w' => e = .returned (.tuple #[.int .i64 ((turned list f up).foldl nextS []).length, .bool true]) ∧ (∃ v', Repl w' b' st v' ((turned list f up).foldl nextS []) ∧ Moved w (.slice none 0 0) v') ∧ Keeps (fun k => k = b') w w' := by
  have HH := hide (readOps_len _ _ hq)
  have HAT : Hid (∀ k (h : k < (cut s).length), readOp (cut s)[k] = some (loAt list k)) := hide (fun k h => by
    have hk : k < list.length := by have := unhide HH; omega
    rw [readOps_at _ _ hq k h hk]; simp [loAt, hk])
  have hcl := cut_length_le s
  have hn : (cut s).length ≤ 4000 := by omega
  have HML : Hid (∀ r ∈ cut s, r.length ≤ 4000) := hide (fun r hr => by have := cut_mem_len s r hr; omega)
  have HDO : Hid (∀ k (h : k < (cut s).length) (Y : List Lo), (nextS Y (loAt list k)).length ≤ 150 → deliverT Y (cut s)[k] = (nextS Y (loAt list k), (if hasStamp Y (loAt list k) then 0 else 1), 0)) := hide (fun k h Y hfit => deliver_one (List.getElem_mem h) (unhide HAT k h) (unhide HML _ (List.getElem_mem h)) hfit)
  have HTT : Hid (∀ i, i < (cut s).length → ((turned list f up).take (i + 1)).foldl nextS [] = nextS (((turned list f up).take i).foldl nextS []) (loAt list (turnAt (cut s).length f up i))) := hide (fun i h => by
    have hi : i < list.length := by have := unhide HH; omega
    rw [turned_take hi, ← unhide HH]
    have ht : turnAt list.length f up i < list.length := turnAt_lt (by omega)
    simp [loAt, ht])
  have HTL := hide (fun i => Nat.le_trans (take_le (turned list f up) i) hfit)
  have HTE : Hid (∀ i, ¬ i < (cut s).length → (turned list f up).take i = turned list f up) := hide (fun i h => List.take_of_length_le (by rw [turned_length]; have := unhide HH; omega))
  clear hq hcl HAT
  have HROW := hide hrow; clear hrow
  have HY := hide hY; clear hY
  generalize cut s = rs at *
  generalize turned list f up = tu at *
  have HUP : Hid (∀ i, i < rs.length → turnAt rs.length f up i < rs.length) := hide (fun i h => turnAt_lt (by omega))
  have HKX : Hid (∀ i : Nat, up = true → ((f : Int) + (i : Int)) % (rs.length : Int) = ((turnAt rs.length f up i : Nat) : Int)) := hide (fun i h => by subst h; exact turn_up _ _ _)
  have HKY : Hid (∀ i : Nat, i ≤ f + rs.length → up = false → ((f : Int) + (rs.length : Int) - (i : Int)) % (rs.length : Int) = ((turnAt rs.length f up i : Nat) : Int)) := hide (fun i hi h => by subst h; exact turn_down hi)
  have hf4 : f ≤ 4000 := by omega
  go_enter Tryd.func12, Tryd.ntmps12
  go_wp2
  go_loopw [10, 11] (fun m j wr => ∃ i : Nat, ∃ v : Value, i ≤ rs.length ∧ j = .int .i64 i ∧ m = .int .i64 ((tu.take i).foldl nextS []).length ∧ Hid (Repl wr b' st v ((tu.take i).foldl nextS [])) ∧ Hid (Moved w (.slice none 0 0) v) ∧ Hid (Keeps (fun k => k = b') w wr)) (fun _ j _ => rs.length - (intOf j).toNat)
  case atStart => exact ⟨0, _, Nat.zero_le _, rfl, rfl, by simpa using HY, hide (.inl rfl), hide (Keeps.refl _ _)⟩
  case round =>
    obtain ⟨i, v, hi, rfl, rfl, HR, HM, HK⟩ := hrel
    have hyl := unhide HTL i
    by_cases hlt : i < rs.length
    · have htk := unhide HUP i hlt
      have HST := hide (unhide HTT i hlt)
      have hnext := unhide HTL (i + 1)
      have HDE : Hid (deliverT ((tu.take i).foldl nextS []) (rs[turnAt rs.length f up i]) = (((tu.take (i + 1)).foldl nextS []), ((tu.take (i + 1)).foldl nextS []).length - ((tu.take i).foldl nextS []).length, 0)) := by
        apply hide
        rw [unhide HDO _ htk _ (by rw [← unhide HST]; exact hnext), unhide HST]
        have := (next_mono ((tu.take i).foldl nextS []) (loAt list (turnAt rs.length f up i))).2
        rw [this, Nat.add_sub_cancel_left]
      have HLE : Hid (((tu.take i).foldl nextS []).length ≤ ((tu.take (i + 1)).foldl nextS []).length ∧ ((tu.take (i + 1)).foldl nextS []).length ≤ ((tu.take i).foldl nextS []).length + 1) := by
        apply hide; rw [unhide HST]
        have := next_mono ((tu.take i).foldl nextS []) (loAt list (turnAt rs.length f up i))
        refine ⟨this.1, ?_⟩
        rw [this.2]; split <;> omega
      obtain ⟨g, h1, h2, h3⟩ := (unhide HROW).2 (by omega)
      have hgb : g ≠ b' := by
        intro e; subst e
        have h0 : 0 < rs.length := by omega
        have ha := h3 0 (.string (bs rs[0])) (by simp [strV, h0])
        have hb := (unhide HY).at'.cell0
        rw [ha] at hb; cases hb
      have hcell : wr.cell? ⟨g, turnAt rs.length f up i, none⟩ = some (.string (bs rs[turnAt rs.length f up i])) := by
        rw [World.cell?_of_block (a := ⟨g, _, none⟩) ((unhide HK).block g h2 hgb)]
        exact h3 _ _ (by simp [htk, strV])
      rw [h1]
      have HD := hide (deliver_any _ (bs rs[turnAt rs.length f up i]) b' st v wr (unhide HR))
      rw [sl_bs, unhide HDE] at HD
      have kx := unhide HKX i
      have ky := unhide HKY i (by omega)
      have hpos : (0 : Int) < (rs.length : Int) := by omega
      have hi0 : (0 : Int) ≤ i := by omega
      have hi1 : (i : Int) < rs.length := by omega
      have hm0 : (0 : Int) ≤ ((f : Int) + (i : Int)) % (rs.length : Int) := Int.emod_nonneg _ (by omega)
      have htk0 : (0 : Int) ≤ (turnAt rs.length f up i : Nat) := by omega
      have htk1 : ((turnAt rs.length f up i : Nat) : Int) < rs.length := by omega
      generalize turnAt rs.length f up i = tk at *
      generalize rs[tk] = rk at *
      obtain ⟨hle1, hle2⟩ := unhide HLE
      obtain ⟨D, hD⟩ : ∃ D, D = ((tu.take (i + 1)).foldl nextS []).length - ((tu.take i).foldl nextS []).length := ⟨_, rfl⟩
      try simp only at HD
      rw [← hD] at HD
      have HSUM : Hid ((((tu.take i).foldl nextS []).length : Int) + (D : Int) = (((tu.take (i + 1)).foldl nextS []).length : Int)) := by apply hide; omega
      have hD1 : decide ((1 : Int) < (D : Int)) = false := by rw [decide_eq_false_iff_not]; omega
      have hA : ((tu.take i).foldl nextS []).length ≤ 150 := hyl
      have hD2 : D ≤ 1 := by omega
      have hfi : (0 : Int) ≤ (f : Int) + (i : Int) := by omega
      have hfn : (0 : Int) ≤ (f : Int) + (rs.length : Int) - (i : Int) := by omega
      have hN0 : ((rs.length : Int) == 0) = false := by rw [beq_eq_false_iff_ne]; omega
      have HNX : Hid (∀ w2 v2, Repl w2 b' st v2 ((tu.take (i + 1)).foldl nextS []) → Keeps (Foot b' v) wr w2 → Moved wr v v2 → Hid (Repl w2 b' st v2 ((tu.take (i + 1)).foldl nextS [])) ∧ Hid (Moved w (.slice none 0 0) v2) ∧ Hid (Keeps (fun k => k = b') w w2)) := by
        apply hide; intro w2 v2 r1 r2 r3
        have hsz := (unhide HK).size
        have hvb : ∀ k, v.ownBlock = some k → w.heap.size ≤ k := by
          intro k hk
          rcases unhide HM with hm | ⟨q, hm, hq⟩
          · rw [hm] at hk; simp [Value.ownBlock] at hk
          · rw [hm] at hk; cases hk; exact hq
        refine ⟨hide r1, hide ?_, hide ((unhide HK).trans r2 (fun k hk h => ?_))⟩
        · rcases r3 with h | ⟨q, h, hq⟩
          · rcases unhide HM with hm | ⟨q, hm, hq⟩
            · exact .inl (h.trans hm)
            · exact .inr ⟨q, h.trans hm, hq⟩
          · exact .inr ⟨q, h, by omega⟩
        · rcases h with h | h
          · exact h
          · have := hvb k h; omega
      clear hD hle1 hle2 hyl hnext h1 h2 h3 HDE HLE HST
      generalize ((tu.take i).foldl nextS []).length = A at *
      cases up with
      | true =>
        have kx' := kx rfl
        clear kx ky
        go_wp2_with fail
        refine (unhide HD).mono ?_
        rintro e w2 ⟨rfl, v2, r1, r2, r3⟩
        obtain ⟨n1, n2, n3⟩ := unhide HNX w2 v2 r1 r2 r3
        clear r1 r2 r3
        go_wp2
        go_roundw
        case rel => exact ⟨i + 1, v2, by omega, by go_num, by rw [← unhide HSUM], n1, n2, n3⟩
        case measure => simp [intOf]; omega
      | false =>
        have ky' := ky rfl
        clear kx ky
        go_wp2_with fail
        refine (unhide HD).mono ?_
        rintro e w2 ⟨rfl, v2, r1, r2, r3⟩
        obtain ⟨n1, n2, n3⟩ := unhide HNX w2 v2 r1 r2 r3
        clear r1 r2 r3
        go_wp2
        go_roundw
        case rel => exact ⟨i + 1, v2, by omega, by go_num, by rw [← unhide HSUM], n1, n2, n3⟩
        case measure => simp [intOf]; omega
    · have hE := unhide HTE i hlt
      rw [hE]
      go_wp2
      go_ret2
      rw [hE] at HR
      exact ⟨rfl, ⟨v, unhide HR, unhide HM⟩, unhide HK⟩
end Go.Proofs.YtdcjimlhaklhfabDoor

namespace Go.Proofs.YtdcjimlhaklhfabDoor
open Go.RowKit
theorem deliver_cases (s : Str) : (∃ e : Int, (e = 1 ∨ e = 12 ∨ e = 13) ∧ deliverT [] s = ([], 0, e)) ∨ ∃ list, s.length ≤ 4000 ∧ readOps (cut s) = some list ∧ deliverT [] s = (list.foldl nextS [], (list.foldl nextS []).length, 0) ∧ (list.foldl nextS []).length ≤ 150 ∧ (fresh [] list).length = (list.foldl nextS []).length := by
  by_cases h : 4000 < s.length
  · exact .inl ⟨1, .inl rfl, deliverT_long h⟩
  · cases hq : readOps (cut s) with
    | none => exact .inl ⟨12, .inr (.inl rfl), deliverT_none h hq⟩
    | some list =>
      have e : (list.foldl nextS []).length = (fresh [] list).length := by rw [next_fresh, joinAll_len]; simp
      by_cases hb : 150 < ([] : List Lo).length + (fresh [] list).length
      · exact .inl ⟨13, .inr (.inr rfl), deliverT_full h hq hb⟩
      · refine .inr ⟨list, by omega, rfl, ?_, ?_, e.symm⟩
        · rw [deliverT_ok h hq hb, ← next_fresh, e]
        · rw [e]; simp at hb; omega
theorem deliver_again {s : Str} {list : List Lo} (h : s.length ≤ 4000) (hq : readOps (cut s) = some list) (hl : (list.foldl nextS []).length ≤ 150) : deliverT (list.foldl nextS []) s = (list.foldl nextS [], 0, 0) := by
  have e : fresh (list.foldl nextS []) list = [] := fresh_none (fold_has [] list)
  rw [deliverT_ok (by omega) hq (by rw [e]; simp; omega), e]; rfl
theorem loText_len26 {x : Lo} (h : LoOk x) : (loText x).length ≤ 26 := by
  have h1 := dec_len x.count.toNat (by have := h.2.1; omega)
  have h2 : (dec x.site.toNat).length = 1 := by rw [dec_small (by have := h.2.2.2.1; omega)]; rfl
  have h3 : (dec x.node.id.toNat).length ≤ 2 := by
    have := h.2.2.2.2.2.1
    by_cases hn : x.node.id.toNat < 10
    · rw [dec_small hn]; simp
    · rw [dec_big hn, dec_small (by omega)]; simp
  have h4 : (dec x.node.parent.toNat).length ≤ 3 := by
    have := h.2.2.2.2.2.2.2.1
    by_cases hn : x.node.parent.toNat < 10
    · rw [dec_small hn]; simp
    · rw [dec_big hn]
      by_cases hm : x.node.parent.toNat / 10 < 10
      · rw [dec_small hm]; simp
      · rw [dec_big hm, dec_small (by omega)]; simp
  have h5 := ndW_name h.2.2.2.2
  simp only [loText, List.length_append, List.length_cons, List.length_nil]; omega
theorem logText_len26 : ∀ (L : List Lo), (∀ x ∈ L, LoOk x) → (logText L).length ≤ 26 * L.length := by
  intro L
  induction L with
  | nil => intro _; simp [logText]
  | cons x L ih =>
    intro h
    have h1 := ih (fun y hy => h y (by simp [hy]))
    have h2 := loText_len26 (h x (by simp))
    unfold logText at h1 ⊢
    rw [List.flatMap_cons, List.length_append, List.length_cons]; omega
theorem tyAt_lt' {w : World} {base : Nat} {e : TypeId} {size : Nat} {v : Value} {n : Nat} {xs : List Value} (h : w.ownsRow base e size v n xs) : ∀ k, v.ownBlock = some k → k < w.heap.size := fun k hk => (h.lt k hk).2
theorem nil_view : textT (viewT (places [])) = [] := by decide +kernel
theorem bs_nil : bs ([] : Str) = ⟨#[]⟩ := rfl
/-- What the orders may be. -/
theorem turn_fine {list : List Lo} {n f : Nat} {up : Bool} (hf : (fresh [] list).length = n) (h : (n = list.length ∧ f < n) ∨ (f = 0 ∧ up = true)) : (turned list f up).foldl nextS [] = list.foldl nextS [] := by
  rcases h with ⟨h1, h2⟩ | ⟨h1, h2⟩
  · exact turned_end (.inr ⟨by omega, fresh_all (by omega)⟩)
  · exact turned_end (.inl ⟨h1, h2⟩)
set_option maxHeartbeats 4000000 in
set_option maxRecDepth 100000 in
theorem shuffled_no (site other turn : Int) (s : ByteArray) (w : World) (h1 : I64 site) (h2 : I64 other) (htab : Tab w) (e0 : Int) (he : e0 = 1 ∨ e0 = 12 ∨ e0 = 13) (hd : deliverT [] (sl s) = ([], 0, e0)) :
    Calls Tryd.prog 3 #[.int .i64 site, .int .i64 other, .string s, .int .i64 turn] w fun e w' => e = .returned (.bool true) ∧ Below w.heap.size w w' := by
  have HTK := hide (takes_any site w h1)
  have HRX := hide (fun W => replica_any site W h1)
  have HRY := hide (fun W => replica_any other W h2)
  have HT := hide htab
  have HDT := hide hd
  have hne : (e0 != 0) = true := by rcases he with rfl | rfl | rfl <;> rfl
  clear htab hd h1 h2
  go_enter Tryd.func3, Tryd.ntmps3
  go_wp2_with fail
  refine (unhide HTK).mono ?_
  rintro e w1 ⟨rfl, c1⟩
  have HB1 := hide c1; clear c1
  go_wp2_with fail
  refine (unhide HRX _).mono ?_
  rintro e w2 ⟨rfl, ⟨sx, hX2⟩, c2⟩
  have HX2 := hide hX2
  have HB2 := hide ((unhide HB1).trans (c2.mono (unhide HB1).size))
  clear c2 hX2
  go_wp2_with fail
  refine (unhide HRY _).mono ?_
  rintro e w3 ⟨rfl, ⟨sy, hY3⟩, c3⟩
  have hX3 := (unhide HX2).below c3
  have HB3 := hide ((unhide HB2).trans (c3.mono (unhide HB2).size))
  have HD := hide (deliver_any [] s w1.heap.size sx (.slice none 0 0) w3 hX3)
  rw [unhide HDT] at HD
  have hb1 := (unhide HB1).size
  clear c3 hY3 hX3
  go_wp2_with fail
  refine (unhide HD).mono ?_
  rintro e w4 ⟨rfl, vx, hX4, hK4, hM4⟩
  have HB4 : Hid (Below w.heap.size w w4) := hide ((unhide HB3).trans (hK4.below (unhide HB3).size (fun k hk hf => by
    rcases hf with hf | hf
    · omega
    · simp [Value.ownBlock] at hf)))
  have HL := hide (log_any _ w1.heap.size sx vx w4 hX4 (tab_below (unhide HT) (unhide HB4)))
  have HX4 := hide hX4
  try simp only at HL
  rw [show logText [] = [] from rfl, bs_nil] at HL
  clear hX4 hK4 hM4
  go_wp2_with fail
  refine (unhide HL).mono ?_
  rintro e w5 ⟨rfl, c5⟩
  have HB5 := hide ((unhide HB4).trans (c5.mono (unhide HB4).size))
  have HE := hide (export_any _ w1.heap.size sx vx w5 ((unhide HX4).below c5))
  try simp only at HE
  rw [nil_view, bs_nil] at HE
  clear c5
  go_wp2_with fail
  refine (unhide HE).mono ?_
  rintro e w6 ⟨rfl, c6⟩
  have HB6 := hide ((unhide HB5).trans (c6.mono (unhide HB5).size))
  clear c6
  rcases he with rfl | rfl | rfl
  all_goals
    go_wp2
    go_ret
    exact ⟨rfl, unhide HB6⟩
end Go.Proofs.YtdcjimlhaklhfabDoor

namespace Go.Proofs.YtdcjimlhaklhfabDoor
open Go.RowKit
set_option maxHeartbeats 8000000 in
set_option maxRecDepth 100000 in
theorem shuffled_yes (site other turn : Int) (s : ByteArray) (w : World) (h1 : I64 site) (h2 : I64 other) (h3 : I64 turn) (htab : Tab w) (list : List Lo) (hs : (sl s).length ≤ 4000) (hq : readOps (cut (sl s)) = some list) (hd : deliverT [] (sl s) = (list.foldl nextS [], (list.foldl nextS []).length, 0)) (hl : (list.foldl nextS []).length ≤ 150) (hfr : (fresh [] list).length = (list.foldl nextS []).length) :
    Calls Tryd.prog 3 #[.int .i64 site, .int .i64 other, .string s, .int .i64 turn] w fun e w' => e = .returned (.bool true) ∧ Below w.heap.size w w' := by
  have HTK := hide (takes_any site w h1)
  have HRX := hide (fun W => replica_any site W h1)
  have HRY := hide (fun W => replica_any other W h2)
  have HT := hide htab
  have hll := readOps_len _ _ hq
  have hfl := fresh_len [] list
  have HCUT := hide (fun W => kcut_any s W (by rw [← sl_length]; exact hs))
  have HDA := hide (deliver_again hs hq hl)
  have HTF : Hid (∀ f up, ((list.foldl nextS []).length = (cut (sl s)).length ∧ f < (list.foldl nextS []).length) ∨ (f = 0 ∧ up = true) → (turned list f up).foldl nextS [] = list.foldl nextS []) := hide (fun f up h => turn_fine hfr (by rcases h with ⟨a, b⟩ | h; exact .inl ⟨by omega, b⟩; exact .inr h))
  have HSG := hide (fun f up b' st ao cap W hr hY hf hfit => single_any (sl s) list f up b' st ao cap W hs hq hr hY hf hfit)
  have hnc : (list.foldl nextS []).length ≤ (cut (sl s)).length := by omega
  have hcl : (cut (sl s)).length ≤ 4000 := by have := cut_length_le (sl s); omega
  have HDT := hide hd
  have HPN := hide (fun n W (hp : 0 < n) (hm : n ≤ 10000000000000) => kpick_any turn n W hp hm h3)
  clear htab hd h1 h2 h3 hq hll hfl hfr
  go_enter Tryd.func3, Tryd.ntmps3
  go_wp2_with fail
  refine (unhide HTK).mono ?_
  rintro e w1 ⟨rfl, c1⟩
  have HB1 := hide c1; clear c1
  go_wp2_with fail
  refine (unhide HRX _).mono ?_
  rintro e w2 ⟨rfl, ⟨sx, hX2⟩, c2⟩
  have HX2 := hide hX2
  have hx2 := hX2.lt
  have HB2 := hide ((unhide HB1).trans (c2.mono (unhide HB1).size))
  clear c2 hX2
  go_wp2_with fail
  refine (unhide HRY _).mono ?_
  rintro e w3 ⟨rfl, ⟨sy, hY3⟩, c3⟩
  have hX3 := (unhide HX2).below c3
  have HB3 := hide ((unhide HB2).trans (c3.mono (unhide HB2).size))
  have HD := hide (deliver_any [] s w1.heap.size sx (.slice none 0 0) w3 hX3)
  rw [unhide HDT] at HD
  have hb1 := (unhide HB1).size
  have hy3 := hY3.lt
  have HY3 := hide hY3
  clear c3 hY3 hX3
  go_wp2_with fail
  refine (unhide HD).mono ?_
  rintro e w4 ⟨rfl, vx, hX4, hK4, hM4⟩
  try simp only at hX4
  have HK4 : Hid (Keeps (fun k => k = w1.heap.size) w3 w4) := hide (hK4.mono (fun k _ hf => by
    rcases hf with hf | hf
    · exact hf
    · simp [Value.ownBlock] at hf))
  have HVX : Hid (∀ k, vx.ownBlock = some k → w3.heap.size ≤ k ∧ k < w4.heap.size) := hide (fun k hk => by
    refine ⟨?_, tyAt_lt' hX4.own k hk⟩
    rcases hM4 with h | ⟨q, h, hq⟩
    · rw [h] at hk; simp [Value.ownBlock] at hk
    · rw [h] at hk; cases hk; exact hq)
  have HB4 : Hid (Below w.heap.size w w4) := hide ((unhide HB3).trans ((unhide HK4).below (unhide HB3).size (fun k hk hf => by omega)))
  have HY4 := hide ((unhide HY3).kept (unhide HK4) (fun k hf e => by
    rcases hf with hf | hf
    · omega
    · simp [Value.ownBlock] at hf))
  have HX4 := hide hX4
  have h34 := (unhide HK4).size
  clear hX4 hK4 hM4
  go_wp2_with fail
  refine (unhide HCUT _).mono ?_
  rintro e w5 ⟨lo, lc, rfl, hr5, c5⟩
  have HR5 := hide hr5
  have HX5 := hide ((unhide HX4).below c5)
  have HY5 := hide ((unhide HY4).below c5)
  have HB5 := hide ((unhide HB4).trans (c5.mono (unhide HB4).size))
  have h45 := c5.size
  have HL := hide (log_any _ w1.heap.size sx vx w5 (unhide HX5) (tab_below (unhide HT) (unhide HB5)))
  clear c5 hr5
  go_wp2_with fail
  refine (unhide HL).mono ?_
  rintro e w6 ⟨rfl, c6⟩
  have HX6 := hide ((unhide HX5).below c6)
  have HY6 := hide ((unhide HY5).below c6)
  have HR6 := hide ((unhide HR5).below c6)
  have HB6 := hide ((unhide HB5).trans (c6.mono (unhide HB5).size))
  have h56 := c6.size
  have hlog26 := logText_len26 _ (unhide HX6).ok.2.1
  have HCL := hide (cut_log _ (unhide HX6).ok.2.1)
  have HC2 := hide (kcut_any (bs (logText (list.foldl nextS []))) w6 (by rw [bs_size]; omega))
  rw [sl_bs, unhide HCL, List.length_map] at HC2
  clear c6 hlog26
  go_wp2_with fail
  refine (unhide HC2).mono ?_
  rintro e w7 ⟨zo, zc, rfl, _, c7⟩
  have HX7 := hide ((unhide HX6).below c7)
  have HY7 := hide ((unhide HY6).below c7)
  have HR7 := hide ((unhide HR6).below c7)
  have HB7 := hide ((unhide HB6).trans (c7.mono (unhide HB6).size))
  have h67 := c7.size
  clear c7
  obtain ⟨n, hn⟩ : ∃ n, n = (list.foldl nextS []).length := ⟨_, rfl⟩
  obtain ⟨m, hm⟩ : ∃ m, m = (cut (sl s)).length := ⟨_, rfl⟩
  have hg1 : decide ((m : Int) < (n : Int)) = false := by rw [decide_eq_false_iff_not]; omega
  have hg2 : ((n : Int) != (n : Int)) = false := by simp
  -- behind the choice of the order
  have HEND : Hid (∀ (f : Nat) (up : Bool), ((n = m ∧ f < n) ∨ (f = 0 ∧ up = true)) → ∀ P : Ending → World → Prop, (∀ e' w8, e' = Ending.returned (.tuple #[.int .i64 n, .bool true]) → (∃ vy, Repl w8 w2.heap.size sy vy (list.foldl nextS []) ∧ Repl w8 w1.heap.size sx vx (list.foldl nextS []) ∧ (∀ k, vy.ownBlock = some k → w7.heap.size ≤ k) ∧ Below w.heap.size w w8 ∧ w7.heap.size ≤ w8.heap.size) → P e' w8) → Calls Tryd.prog 12 #[.pointer (some ⟨w2.heap.size, 0, none⟩), .slice lo m lc, .int .i64 f, .bool up] w7 P) := by
    apply hide
    intro f up hfu P hP
    have hT := unhide HTF f up (by rw [← hn, ← hm]; exact hfu)
    have hS := unhide HSG f up w2.heap.size sy lo lc w7 (unhide HR7) (unhide HY7) (by rcases hfu with ⟨a, b⟩ | ⟨a, b⟩; exact .inl (by omega); exact .inr a) (by rw [hT]; exact hl)
    rw [hT, ← hn, ← hm] at hS
    refine hS.mono ?_
    rintro e' w8 ⟨he, ⟨vy, r1, r2⟩, r3⟩
    refine hP e' w8 he ⟨vy, r1, ?_, ?_, ?_, r3.size⟩
    · refine (unhide HX7).kept r3 (fun k hf e => ?_)
      have e2 : k = w2.heap.size := e
      rcases hf with hf | hf
      · have hf' : k = w1.heap.size := hf
        omega
      · have := (unhide HVX k hf).1; omega
    · intro k hk
      rcases r2 with h | ⟨q, h, hq⟩
      · rw [h] at hk; simp [Value.ownBlock] at hk
      · rw [h] at hk; cases hk; exact hq
    · have hs2 := (unhide HB2).size
      exact (unhide HB7).trans (r3.below (unhide HB7).size (fun k hk e => by have e2 : k = w2.heap.size := e; omega))
  have HAFT : Hid (∀ w8 vy, Repl w8 w2.heap.size sy vy (list.foldl nextS []) → Repl w8 w1.heap.size sx vx (list.foldl nextS []) → (∀ k, vy.ownBlock = some k → w7.heap.size ≤ k) → Below w.heap.size w w8 → w7.heap.size ≤ w8.heap.size → Calls Tryd.prog 7 #[.pointer (some ⟨w2.heap.size, 0, none⟩), .string s] w8 fun e w9 => e = .returned (.tuple #[.int .i64 0, .int .i64 0]) ∧ (∃ vz, Repl w9 w2.heap.size sy vz (list.foldl nextS [])) ∧ Repl w9 w1.heap.size sx vx (list.foldl nextS []) ∧ Below w.heap.size w w9) := by
    apply hide
    intro w8 vy r1 r2 r3 r4 r5
    have hD := deliver_any (list.foldl nextS []) s w2.heap.size sy vy w8 r1
    rw [unhide HDA] at hD
    refine hD.mono ?_
    rintro e w9 ⟨rfl, vz, q1, q2, q3⟩
    refine ⟨rfl, ⟨vz, q1⟩, ?_, ?_⟩
    · refine r2.kept q2 (fun k hf e => ?_)
      rcases hf with hf | hf
      · have hf' : k = w1.heap.size := hf
        rcases e with e | e
        · omega
        · have := r3 k e; omega
      · have hv := unhide HVX k hf
        rcases e with e | e
        · omega
        · have := r3 k e; omega
    · have hs2 := (unhide HB2).size
      have hs7 := (unhide HB7).size
      refine r4.trans (q2.below r4.size (fun k hk e => ?_))
      rcases e with e | e
      · omega
      · have := r3 k e; omega
  have HLK : Hid (∀ w9 vz, Repl w9 w1.heap.size sx vx (list.foldl nextS []) → Repl w9 w2.heap.size sy vz (list.foldl nextS []) → Below w.heap.size w w9 → Calls Tryd.prog 13 #[.pointer (some ⟨w1.heap.size, 0, none⟩), .pointer (some ⟨w2.heap.size, 0, none⟩)] w9 fun e w' => e = .returned (.bool true) ∧ Below w9.heap.size w9 w') := hide (fun w9 vz r1 r2 r3 => like_any _ _ _ _ _ _ _ w9 r1 r2 (tab_below (unhide HT) r3))
  have hnm : n ≤ m := by omega
  have hm4 : m ≤ 4000 := by omega
  rw [← hn, ← hm]
  clear HX2 HY3 HX4 HY4 HX5 HY5 HX6 HY6 HX7 HY7 HR5 HR6 HR7 HB1 HB2 HB3 HB4 HB5 HB6 HK4 HVX HDA HTF HSG HDT HCUT HTK HRX HRY HD HL HC2 HCL
  clear hn hm hnc hcl hl hs
  rcases (show (n = m ∧ 0 < n) ∨ (n = m ∧ n = 0) ∨ n ≠ m by omega) with ⟨he, hp⟩ | ⟨he, hp⟩ | he
  · subst he
    have k1 : decide ((0 : Int) < (n : Int)) = true := by rw [decide_eq_true_eq]; omega
    have HP1 := hide (fun W => unhide HPN n W hp (by omega))
    have HP2 := hide (fun W => unhide HPN 2 W (by omega) (by omega))
    have hlt := pickK_lt turn hp
    generalize pickK turn n = f at *
    generalize pickK turn 2 = q2 at *
    have HSI := hide (fun up => unhide HEND f up (.inl ⟨rfl, hlt⟩))
    go_wp2_with fail
    refine (unhide HP1 _).mono ?_
    rintro e w' ⟨rfl, rfl⟩
    go_wp2_with fail
    refine (unhide HP2 _).mono ?_
    rintro e w' ⟨rfl, rfl⟩
    go_wp2_with fail
    refine unhide HSI _ _ ?_
    intro e' w8 he' hx8
    subst he'
    obtain ⟨vy, r1, r2, r3, r4, r5⟩ := hx8
    have HA := hide (unhide HAFT w8 vy r1 r2 r3 r4 r5)
    clear r1 r2 r3 r4 r5
    go_wp2_with fail
    refine (unhide HA).mono ?_
    rintro e w9 ⟨rfl, ⟨vz, q1⟩, q2', q3⟩
    have HK9 := hide (unhide HLK w9 vz q2' q1 q3)
    have HB9 := hide q3
    clear q1 q2' q3
    go_wp2_with fail
    refine (unhide HK9).mono ?_
    rintro e w10 ⟨rfl, c10⟩
    have HB10 := hide ((unhide HB9).trans (c10.mono (unhide HB9).size))
    clear c10
    go_wp2
    go_ret
    exact ⟨by simp, unhide HB10⟩
  · subst he
    subst hp
    have HSI := hide (unhide HEND 0 true (.inr ⟨rfl, rfl⟩))
    go_wp2_with fail
    refine unhide HSI _ ?_
    intro e' w8 he' hx8
    subst he'
    obtain ⟨vy, r1, r2, r3, r4, r5⟩ := hx8
    have HA := hide (unhide HAFT w8 vy r1 r2 r3 r4 r5)
    clear r1 r2 r3 r4 r5
    go_wp2_with fail
    refine (unhide HA).mono ?_
    rintro e w9 ⟨rfl, ⟨vz, q1⟩, q2', q3⟩
    have HK9 := hide (unhide HLK w9 vz q2' q1 q3)
    have HB9 := hide q3
    clear q1 q2' q3
    go_wp2_with fail
    refine (unhide HK9).mono ?_
    rintro e w10 ⟨rfl, c10⟩
    have HB10 := hide ((unhide HB9).trans (c10.mono (unhide HB9).size))
    clear c10
    go_wp2
    go_ret
    exact ⟨by simp, unhide HB10⟩
  · have k1 : ((n : Int) == (m : Int)) = false := by rw [beq_eq_false_iff_ne]; omega
    have HSI := hide (unhide HEND 0 true (.inr ⟨rfl, rfl⟩))
    clear he
    go_wp2_with fail
    refine unhide HSI _ ?_
    intro e' w8 he' hx8
    subst he'
    obtain ⟨vy, r1, r2, r3, r4, r5⟩ := hx8
    have HA := hide (unhide HAFT w8 vy r1 r2 r3 r4 r5)
    clear r1 r2 r3 r4 r5
    go_wp2_with fail
    refine (unhide HA).mono ?_
    rintro e w9 ⟨rfl, ⟨vz, q1⟩, q2', q3⟩
    have HK9 := hide (unhide HLK w9 vz q2' q1 q3)
    have HB9 := hide q3
    clear q1 q2' q3
    go_wp2_with fail
    refine (unhide HK9).mono ?_
    rintro e w10 ⟨rfl, c10⟩
    have HB10 := hide ((unhide HB9).trans (c10.mono (unhide HB9).size))
    clear c10
    go_wp2
    go_ret
    exact ⟨by simp, unhide HB10⟩
theorem shuffled_any (site other turn : Int) (s : ByteArray) (w : World) (h1 : I64 site) (h2 : I64 other) (h3 : I64 turn) (htab : Tab w) :
    Calls Tryd.prog 3 #[.int .i64 site, .int .i64 other, .string s, .int .i64 turn] w fun e w' => e = .returned (.bool true) ∧ Below w.heap.size w w' := by
  rcases deliver_cases (sl s) with ⟨e0, he, hd⟩ | ⟨list, hs, hq, hd, hl, hfr⟩
  · exact shuffled_no site other turn s w h1 h2 htab e0 he hd
  · exact shuffled_yes site other turn s w h1 h2 h3 htab list hs hq hd hl hfr
end Go.Proofs.YtdcjimlhaklhfabDoor
