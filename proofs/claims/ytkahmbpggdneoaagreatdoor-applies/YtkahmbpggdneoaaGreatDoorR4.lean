import Derived.Test.YtkahmbpggdneoaaGreatDoorR3
namespace Go.Proofs.YtkahmbpggdneoaaGreatDoor
open Go.RowKit
attribute [local go_sem ↓] Go.wp_at_zero Go.wp_at_succ
set_option maxHeartbeats 1000000 in
theorem rcut_any (s : ByteArray) (w : World) (hs : s.size ≤ 4000) :
    Calls Tryz.prog 33 #[.string s] w fun e w' => ∃ ao cap, e = .returned (.slice ao (cut (sl s)).length cap) ∧ Row w' ao (cut (sl s)).length 1 ((cut (sl s)).map strV) ∧ Below w.heap.size w w' := by
  obtain ⟨i0, hi, hz0, hz1, hz2⟩ := info_parts Tryz.infoStr
  have hsz : (0 : Int) ≤ s.size := by omega
  go_enter Tryz.func33, Tryz.ntmps33
  go_wp2
  go_loopw [3, 4, 5] (fun v st i wr => ∃ k t n : Nat, ∃ xs : List Value, k ≤ s.size ∧ t ≤ k ∧ n ≤ k ∧ i = .int .i64 k ∧ st = .int .i64 t ∧ wr.ownsRow w.heap.size 9 1 v n xs ∧ Below w.heap.size w wr ∧ Hid (CutInv s k t n xs)) (fun _ _ i _ => s.size - (intOf i).toNat)
  case atStart => exact ⟨0, 0, 0, [], Nat.zero_le _, Nat.le_refl _, Nat.le_refl _, rfl, rfl, World.ownsRow_nil _ _ _ _, Below.refl _ _, hide ⟨by simp [cutTo], by simp [cutTo], by simp [cutTo]⟩⟩
  case round =>
    obtain ⟨k, t, n, xs, hk, ht, hn, rfl, rfl, hown, hbel, HI⟩ := hrel
    by_cases hlt : k < s.size
    · by_cases hc : s[k] = 59
      · have HN := hide (cutInv_hit (unhide HI) hlt hc)
        go_wp2_with (first
          | (at_builtin; refine wpList_append_own _ rfl _ _ 74 rfl w.heap.size 9 i0 (.string ByteArray.empty) 1 16 Tryz.underlying74 hi hz0 hz1 hz2 rfl (by decide) _ _ _ rfl (hown.alloc _) ⟨wr.heap.size, 0, none⟩ 1 1 [.string (s.extract t (k + 1))] rfl rfl (news_one _ _) (by simp [Value.oneCell']) (by unfold maxLen; omega) (by omega) (by have := hbel.size; simp; omega) ?_)
          | go_in)
        intro v' w1 hown' hgrow _
        have hb1 := below_app hbel (by have := hbel.size; omega) hown hgrow
        clear hgrow hown hbel
        go_wp2
        go_roundw
        case rel => exact ⟨k + 1, k + 1, n + 1, _, by omega, by omega, by omega, by go_num, by go_num, hown', hb1, HN⟩
        case measure => simp [intOf]; omega
      · have HN := hide (cutInv_miss (unhide HI) hlt hc)
        have hc' : (((s[k]).toNat : Int) == 59) = false := by
          rw [beq_eq_false_iff_ne]; intro h; exact hc (UInt8.toNat_inj.1 (by simpa using (by omega : (s[k]).toNat = 59)))
        have HC := hide hc; clear hc
        go_wp2
        go_roundw
        case rel => exact ⟨k + 1, t, n, _, by omega, by omega, by omega, by go_num, rfl, hown, hbel, HN⟩
        case measure => simp [intOf]; omega
    · have hks : k = s.size := by omega
      subst hks
      by_cases hts : t < s.size
      · have HN := hide (cutInv_last (unhide HI) hts)
        go_wp2_with (first
          | (at_builtin; refine wpList_append_own _ rfl _ _ 74 rfl w.heap.size 9 i0 (.string ByteArray.empty) 1 16 Tryz.underlying74 hi hz0 hz1 hz2 rfl (by decide) _ _ _ rfl (hown.alloc _) ⟨wr.heap.size, 0, none⟩ 1 1 [.string (s.extract t s.size)] rfl rfl (news_one _ _) (by simp [Value.oneCell']) (by unfold maxLen; omega) (by omega) (by have := hbel.size; simp; omega) ?_)
          | go_in)
        intro v' w1 hown' hgrow _
        have hb1 := below_app hbel (by have := hbel.size; omega) hown hgrow
        clear hgrow hown hbel
        go_wp2
        go_ret
        obtain ⟨e1, e2⟩ := unhide HN
        obtain ⟨ao, cap, rfl, hr⟩ := row_of_owns hown'
        rw [e1, e2] at hr
        exact ⟨ao, cap, by rw [← e1]; rfl, hr, hb1⟩
      · have HN := hide (cutInv_end (unhide HI) hts)
        go_wp2
        go_ret
        obtain ⟨e1, e2⟩ := unhide HN
        obtain ⟨ao, cap, rfl, hr⟩ := row_of_owns hown
        rw [e1, e2] at hr
        exact ⟨ao, cap, by rw [← e1]; rfl, hr, hbel⟩

def rparts (l : Str) : List Str := if bodyB l then parts (bodyS l) else []
theorem rparts_no {l : Str} (h : bodyB l = false) : rparts l = [] := by unfold rparts; rw [h]; rfl
theorem rparts_yes {l : Str} (h : bodyB l = true) : rparts l = parts l.dropLast := by unfold rparts bodyS; rw [h]; rfl
theorem rpart_last {s : ByteArray} {st n : Nat} {xs : List Value} (h0 : 0 < s.size) (h : PartInv s (s.size - 1) st n xs) (hb : bodyB (sl s) = true) : n + 1 = (rparts (sl s)).length ∧ xs ++ [.string (s.extract st (s.size - 1))] = (rparts (sl s)).map strV := by
  obtain ⟨h1, h2, h3⟩ := h
  have hcur := part_cur s (s.size - 1) st (by omega) h3
  have e1 : s.extract st (s.size - 1) = bs (partTo ((sl s).take (s.size - 1))).2 := by rw [bs_extract, hcur]
  have ed : (sl s).dropLast = (sl s).take (s.size - 1) := by rw [List.dropLast_eq_take, sl_length]
  rw [rparts_yes hb, ed]
  unfold parts; rw [e1, h1, h2]; exact ⟨by simp, by simp [strV]⟩
set_option maxHeartbeats 2000000 in
theorem rparts_any (s : ByteArray) (w : World) (hs : s.size ≤ 4000) :
    Calls Tryz.prog 63 #[.string s] w fun e w' => ∃ ao cap, e = .returned (.slice ao (rparts (sl s)).length cap) ∧ Row w' ao (rparts (sl s)).length 1 ((rparts (sl s)).map strV) ∧ Below w.heap.size w w' := by
  obtain ⟨i0, hi, hz0, hz1, hz2⟩ := info_parts Tryz.infoStr
  have hsz : (0 : Int) ≤ s.size := by omega
  by_cases h0 : 0 < s.size
  · have HB := hide (bodyB_at s h0)
    by_cases hc : s[s.size - 1] = 59
    · have HBT : Hid (bodyB (sl s) = true) := by apply hide; rw [unhide HB, hc]; rfl
      have h0' : ((s.size : Int) == 0) = false := by rw [beq_eq_false_iff_ne]; omega
      go_enter Tryz.func63, Tryz.ntmps63
      go_wp2
      go_loopw [4, 5, 6] (fun v st i wr => (∃ k t n : Nat, ∃ xs : List Value, k < s.size ∧ t ≤ k ∧ n ≤ k ∧ i = .int .i64 k ∧ st = .int .i64 t ∧ wr.ownsRow w.heap.size 9 1 v n xs ∧ Below w.heap.size w wr ∧ Hid (PartInv s k t n xs)) ∨ (i = .int .i64 s.size ∧ ∃ t : Int, st = .int .i64 t ∧ wr.ownsRow w.heap.size 9 1 v (rparts (sl s)).length ((rparts (sl s)).map strV) ∧ Below w.heap.size w wr)) (fun _ _ i _ => s.size - (intOf i).toNat)
      case atStart => exact .inl ⟨0, 0, 0, [], h0, Nat.le_refl _, Nat.le_refl _, rfl, rfl, World.ownsRow_nil _ _ _ _, Below.refl _ _, hide ⟨by simp [partTo], by simp [partTo], by simp [partTo]⟩⟩
      case round =>
        rcases hrel with ⟨k, t, n, xs, hk, ht, hn, rfl, rfl, hown, hbel, HI⟩ | ⟨rfl, t, rfl, hown, hbel⟩
        · by_cases hl : k = s.size - 1
          · have HL : Hid (n + 1 = (rparts (sl s)).length ∧ xs ++ [.string (s.extract t k)] = (rparts (sl s)).map strV) := by
              apply hide; rw [hl]; rw [hl] at HI; exact rpart_last h0 (unhide HI) (unhide HBT)
            have h59 : s[k].toNat = 59 := by
              have : s[k] = s[s.size - 1] := by congr 1
              rw [this, hc]; rfl
            have e32 : ((s[k].toNat : Int) == 32) = false := by rw [beq_eq_false_iff_ne]; omega
            have elast : ((k : Int) == (s.size : Int) - 1) = true := by rw [beq_iff_eq]; omega
            have hk1 : k + 1 = s.size := by omega
            have HK1 := hide hk1
            clear hl h59 hc hk1
            go_wp2_with (first
              | (at_builtin; refine wpList_append_own _ rfl _ _ 74 rfl w.heap.size 9 i0 (.string ByteArray.empty) 1 16 Tryz.underlying74 hi hz0 hz1 hz2 rfl (by decide) _ _ _ rfl (hown.alloc _) ⟨wr.heap.size, 0, none⟩ 1 1 [.string (s.extract t k)] rfl rfl (news_one _ _) (by simp [Value.oneCell']) (by unfold maxLen; omega) (by omega) (by have := hbel.size; simp; omega) ?_)
              | go_in)
            intro v' w1 hown' hgrow _
            have hb1 := below_app hbel (by have := hbel.size; omega) hown hgrow
            rw [(unhide HL).1, (unhide HL).2] at hown'
            clear hgrow hown hbel
            go_wp2
            go_roundw
            case rel => exact .inr ⟨by have := unhide HK1; go_num, (k : Int) + 1, rfl, hown', hb1⟩
            case measure => have := unhide HK1; simp [intOf]; omega
          · by_cases hc2 : s[k] = 32
            · have HN := hide (partInv_hit (unhide HI) hk hc2)
              have e32 : ((s[k].toNat : Int) == 32) = true := by rw [hc2]; rfl
              have HC2 := hide hc2
              clear hc2
              go_wp2_with (first
                | (at_builtin; refine wpList_append_own _ rfl _ _ 74 rfl w.heap.size 9 i0 (.string ByteArray.empty) 1 16 Tryz.underlying74 hi hz0 hz1 hz2 rfl (by decide) _ _ _ rfl (hown.alloc _) ⟨wr.heap.size, 0, none⟩ 1 1 [.string (s.extract t k)] rfl rfl (news_one _ _) (by simp [Value.oneCell']) (by unfold maxLen; omega) (by omega) (by have := hbel.size; simp; omega) ?_)
                | go_in)
              intro v' w1 hown' hgrow _
              have hb1 := below_app hbel (by have := hbel.size; omega) hown hgrow
              clear hgrow hown hbel
              go_wp2
              go_roundw
              case rel => exact .inl ⟨k + 1, k + 1, n + 1, _, by omega, by omega, by omega, by go_num, by go_num, hown', hb1, HN⟩
              case measure => simp [intOf]; omega
            · have HN := hide (partInv_miss (unhide HI) hk hc2)
              have e32 : ((s[k].toNat : Int) == 32) = false := by
                rw [beq_eq_false_iff_ne]; intro h; exact hc2 (UInt8.toNat_inj.1 (by simpa using (by omega : (s[k]).toNat = 32)))
              have elast : ((k : Int) == (s.size : Int) - 1) = false := by rw [beq_eq_false_iff_ne]; omega
              have HC := hide hc2; clear hc2
              go_wp2
              go_roundw
              case rel => exact .inl ⟨k + 1, t, n, _, by omega, by omega, by omega, by go_num, rfl, hown, hbel, HN⟩
              case measure => simp [intOf]; omega
        · go_wp2
          go_ret
          obtain ⟨ao, cap, rfl, hr⟩ := row_of_owns hown
          exact ⟨ao, cap, rfl, hr, hbel⟩
    · have HBF : Hid (bodyB (sl s) = false) := by apply hide; rw [unhide HB]; exact beq_eq_false_iff_ne.2 hc
      have hc' : (((s[s.size - 1]).toNat : Int) != 59) = true := by
        rw [bne_iff_ne]; intro h; exact hc (UInt8.toNat_inj.1 (by simpa using (by omega : (s[s.size - 1]).toNat = 59)))
      have h0' : ((s.size : Int) == 0) = false := by rw [beq_eq_false_iff_ne]; omega
      clear hc hz0 hz1 hz2 hi
      go_enter Tryz.func63, Tryz.ntmps63
      go_wp2
      go_ret
      rw [rparts_no (unhide HBF)]
      exact ⟨none, 0, rfl, ⟨rfl, fun h => by simp at h⟩, Below.refl _ _⟩
  · have HBF := hide (bodyB_nil s (by omega))
    have h0' : ((s.size : Int) == 0) = true := by rw [beq_iff_eq]; omega
    go_enter Tryz.func63, Tryz.ntmps63
    go_wp2
    go_ret
    rw [rparts_no (unhide HBF)]
    exact ⟨none, 0, rfl, ⟨rfl, fun h => by simp at h⟩, Below.refl _ _⟩
end Go.Proofs.YtkahmbpggdneoaaGreatDoor
