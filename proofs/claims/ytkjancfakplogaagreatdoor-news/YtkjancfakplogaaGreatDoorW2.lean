import Derived.Test.YtkjancfakplogaaGreatDoorW1
import Derived.Deep.AppendLies
namespace Go.Proofs.YtkjancfakplogaaGreatDoor
open Go.RowKit
theorem small_one (m : Nat) (h : m < 10) : (ByteArray.mk #[48, 49, 50, 51, 52, 53, 54, 55, 56, 57, 97, 98, 99, 100, 101, 102, 103, 104, 105, 106, 107, 108, 109, 110, 111, 112, 113, 114, 115, 116, 117, 118, 119, 120, 121, 122]).extract m (m + 1) = bs (digs m) := by
  have : ∀ m, m < 10 → (ByteArray.mk #[48, 49, 50, 51, 52, 53, 54, 55, 56, 57, 97, 98, 99, 100, 101, 102, 103, 104, 105, 106, 107, 108, 109, 110, 111, 112, 113, 114, 115, 116, 117, 118, 119, 120, 121, 122]).extract m (m + 1) = bs (digs m) := by decide +kernel
  exact this m h
theorem small_two (m : Nat) (h0 : 10 ≤ m) (h : m ≤ 99) : (ByteArray.mk #[48, 48, 48, 49, 48, 50, 48, 51, 48, 52, 48, 53, 48, 54, 48, 55, 48, 56, 48, 57, 49, 48, 49, 49, 49, 50, 49, 51, 49, 52, 49, 53, 49, 54, 49, 55, 49, 56, 49, 57, 50, 48, 50, 49, 50, 50, 50, 51, 50, 52, 50, 53, 50, 54, 50, 55, 50, 56, 50, 57, 51, 48, 51, 49, 51, 50, 51, 51, 51, 52, 51, 53, 51, 54, 51, 55, 51, 56, 51, 57, 52, 48, 52, 49, 52, 50, 52, 51, 52, 52, 52, 53, 52, 54, 52, 55, 52, 56, 52, 57, 53, 48, 53, 49, 53, 50, 53, 51, 53, 52, 53, 53, 53, 54, 53, 55, 53, 56, 53, 57, 54, 48, 54, 49, 54, 50, 54, 51, 54, 52, 54, 53, 54, 54, 54, 55, 54, 56, 54, 57, 55, 48, 55, 49, 55, 50, 55, 51, 55, 52, 55, 53, 55, 54, 55, 55, 55, 56, 55, 57, 56, 48, 56, 49, 56, 50, 56, 51, 56, 52, 56, 53, 56, 54, 56, 55, 56, 56, 56, 57, 57, 48, 57, 49, 57, 50, 57, 51, 57, 52, 57, 53, 57, 54, 57, 55, 57, 56, 57, 57]).extract (m * 2) (m * 2 + 2) = bs (digs m) := by
  have : ∀ m, m < 100 → 10 ≤ m → (ByteArray.mk #[48, 48, 48, 49, 48, 50, 48, 51, 48, 52, 48, 53, 48, 54, 48, 55, 48, 56, 48, 57, 49, 48, 49, 49, 49, 50, 49, 51, 49, 52, 49, 53, 49, 54, 49, 55, 49, 56, 49, 57, 50, 48, 50, 49, 50, 50, 50, 51, 50, 52, 50, 53, 50, 54, 50, 55, 50, 56, 50, 57, 51, 48, 51, 49, 51, 50, 51, 51, 51, 52, 51, 53, 51, 54, 51, 55, 51, 56, 51, 57, 52, 48, 52, 49, 52, 50, 52, 51, 52, 52, 52, 53, 52, 54, 52, 55, 52, 56, 52, 57, 53, 48, 53, 49, 53, 50, 53, 51, 53, 52, 53, 53, 53, 54, 53, 55, 53, 56, 53, 57, 54, 48, 54, 49, 54, 50, 54, 51, 54, 52, 54, 53, 54, 54, 54, 55, 54, 56, 54, 57, 55, 48, 55, 49, 55, 50, 55, 51, 55, 52, 55, 53, 55, 54, 55, 55, 55, 56, 55, 57, 56, 48, 56, 49, 56, 50, 56, 51, 56, 52, 56, 53, 56, 54, 56, 55, 56, 56, 56, 57, 57, 48, 57, 49, 57, 50, 57, 51, 57, 52, 57, 53, 57, 54, 57, 55, 57, 56, 57, 57]).extract (m * 2) (m * 2 + 2) = bs (digs m) := by decide +kernel
  exact this m (by omega) h0
set_option maxRecDepth 100000 in
set_option maxHeartbeats 400000 in
theorem small_any (m : Nat) (w : World) (h1 : m ≤ 99) :
    Calls Tryz.prog 130 #[.int .i64 m] w fun e w' => e = .returned (.string (bs (digs m))) ∧ w' = w := by
  by_cases h : m < 10
  · go_enter Tryz.func130, Tryz.ntmps130
    go_wp2
    go_ret
    exact ⟨ret_str (small_one m h), rfl⟩
  · go_enter Tryz.func130, Tryz.ntmps130
    go_wp2
    go_ret
    exact ⟨ret_str (small_two m (by omega) h1), rfl⟩
set_option maxHeartbeats 400000 in
theorem itoa_nat (m : Nat) (w : World) (h1 : m ≤ 99) :
    Calls Tryz.prog 100 #[.int .i64 m] w fun e w' => e = .returned (.string (bs (digs m))) ∧ w' = w := by
  go_enter Tryz.func100, Tryz.ntmps100
  go_wp2_with (first | (go_at_call 130; refine (small_any _ _ h1).mono ?_; rintro e w' ⟨rfl, rfl⟩) | go_in)
  go_ret
  exact ⟨rfl, rfl⟩
theorem itoa_any (n : Int) (w : World) (h0 : 0 ≤ n) (h1 : n ≤ 99) :
    Calls Tryz.prog 100 #[.int .i64 n] w fun e w' => e = .returned (.string (bs (digs n))) ∧ w' = w := by
  obtain ⟨m, rfl⟩ := Int.eq_ofNat_of_zero_le h0
  exact itoa_nat m w (by omega)

/-! Rows of cells. -/
def Row (w : World) (ao : Option Addr) (n size : Nat) (xs : List Value) : Prop :=
  xs.length = n * size ∧ (0 < n → ∃ g, ao = some ⟨g, 0, none⟩ ∧ g < w.heap.size ∧ ∀ j u, xs[j]? = some u → w.cell? ⟨g, j, none⟩ = some u)
theorem row_of_owns {w : World} {base : Nat} {e : TypeId} {size : Nat} {v : Value} {n : Nat} {xs : List Value} (h : w.ownsRow base e size v n xs) : ∃ ao cap, v = .slice ao n cap ∧ Row w ao n size xs := by
  obtain ⟨h1, h2⟩ := h
  rcases h2 with ⟨rfl, rfl⟩ | ⟨g, cap, cur, rfl, hb, hg, hn, _, hs, ht⟩
  · exact ⟨none, 0, rfl, h1, fun h => by omega⟩
  · refine ⟨_, cap, rfl, h1, fun _ => ⟨g, rfl, lt_of_block hg, fun j u hu => ?_⟩⟩
    rw [cell_of_row w g j cur e (0, 0) hg]
    rw [← ht, List.getElem?_take] at hu
    split at hu
    · simpa using hu
    · cases hu
theorem own_ge {w : World} {base : Nat} {e : TypeId} {size : Nat} {v : Value} {n : Nat} {xs : List Value} (h : w.ownsRow base e size v n xs) : ∀ k, v.ownBlock = some k → base ≤ k := by
  intro k hk
  rcases h.2 with ⟨rfl, rfl⟩ | ⟨g, cap, cur, rfl, hb, _⟩
  · simp [Value.ownBlock] at hk
  · simp [Value.ownBlock] at hk; omega
theorem Row.below {w w' : World} {ao : Option Addr} {n size : Nat} {xs : List Value} (h : Row w ao n size xs) (hb : Below w.heap.size w w') : Row w' ao n size xs := by
  refine ⟨h.1, fun hn => ?_⟩
  obtain ⟨g, hg, hlt, hc⟩ := h.2 hn
  exact ⟨g, hg, by have := hb.size; omega, fun j u hu => by rw [hb.cell (p := ⟨g, j, none⟩) hlt]; exact hc j u hu⟩
theorem below_app {B : Nat} {w wr w1 : World} {e : TypeId} {size : Nat} {v : Value} {n : Nat} {xs : List Value} {o : Obj} (hb : Below B w wr) (hB : B ≤ wr.heap.size) (hown : wr.ownsRow B e size v n xs) (hg : (wr.alloc o).grownBy w1 v.ownBlock) : Below B w w1 :=
  (hb.alloc hB o).grown hg (by simp; omega) (own_ge hown)
theorem news_one {w : World} (u : Value) (t : TypeId) : ∀ j x, [u][j]? = some x → (w.alloc (.cells #[u] t)).cell? ((⟨w.heap.size, 0, none⟩ : Addr).add j) = some x := by
  intro j x hx
  exact World.news_of_block (cs := #[u]) (heap_alloc_new w _) j x hx

def strV (l : Str) : Value := .string (bs l)
theorem Tryz.infoStr : (Tryz.prog.info? 9).map (fun i => (i.zero, i.size, i.bytes)) = some (some (.string ByteArray.empty), 1, 16) := by kernel_rfl

/-! Cut. -/
def CutInv (s : ByteArray) (k st n : Nat) (xs : List Value) : Prop :=
  n = (cutTo ((sl s).take k)).1.length ∧ xs = (cutTo ((sl s).take k)).1.map strV ∧ st + (cutTo ((sl s).take k)).2.length = k
theorem cutInv_le {s : ByteArray} {k st n : Nat} {xs : List Value} (h : CutInv s k st n xs) : n ≤ k ∧ st ≤ k := by
  have h1 := cutTo_len ((sl s).take k)
  have h2 : ((sl s).take k).length ≤ k := List.length_take_le _ _
  obtain ⟨h3, _, h4⟩ := h
  omega
theorem cut_cur (s : ByteArray) (k st : Nat) (hk : k ≤ s.size) (h : st + (cutTo ((sl s).take k)).2.length = k) : (cutTo ((sl s).take k)).2 = ((sl s).take k).drop st := by
  obtain ⟨a, ha⟩ := cutTo_suf ((sl s).take k)
  have hl : ((sl s).take k).length = k := by rw [List.length_take, sl_length]; omega
  have := (suf_drop ha).1
  rw [hl] at this
  rw [show st = k - (cutTo ((sl s).take k)).2.length by omega]
  exact this
theorem cutInv_hit {s : ByteArray} {k st n : Nat} {xs : List Value} (h : CutInv s k st n xs) (hk : k < s.size) (hc : s[k] = 59) : CutInv s (k + 1) (k + 1) (n + 1) (xs ++ [.string (s.extract st (k + 1))]) := by
  obtain ⟨h1, h2, h3⟩ := h
  have hcur := cut_cur s k st (by omega) h3
  unfold CutInv
  rw [take_snoc s k hk, cutTo_snoc, cutStep, if_pos hc]
  refine ⟨by simp [h1], ?_, by simp⟩
  rw [List.map_append, ← h2]
  have hst : st ≤ k := by omega
  have : s.extract st (k + 1) = bs ((cutTo ((sl s).take k)).2 ++ [s[k]]) := by
    rw [bs_extract, take_snoc s k hk, hcur, List.drop_append_of_le_length (by rw [List.length_take, sl_length]; omega)]
  rw [this]; rfl
theorem cutInv_miss {s : ByteArray} {k st n : Nat} {xs : List Value} (h : CutInv s k st n xs) (hk : k < s.size) (hc : ¬ s[k] = 59) : CutInv s (k + 1) st n xs := by
  obtain ⟨h1, h2, h3⟩ := h
  unfold CutInv
  rw [take_snoc s k hk, cutTo_snoc, cutStep, if_neg hc]
  exact ⟨h1, h2, by simp; omega⟩
theorem cutInv_end {s : ByteArray} {st n : Nat} {xs : List Value} (h : CutInv s s.size st n xs) (hk : ¬ st < s.size) : n = (cut (sl s)).length ∧ xs = (cut (sl s)).map strV := by
  obtain ⟨h1, h2, h3⟩ := h
  rw [List.take_of_length_le (by rw [sl_length]; omega)] at h1 h2 h3
  have : (cutTo (sl s)).2 = [] := List.length_eq_zero_iff.1 (by omega)
  unfold cut; rw [if_pos this]; exact ⟨h1, h2⟩
theorem cutInv_last {s : ByteArray} {st n : Nat} {xs : List Value} (h : CutInv s s.size st n xs) (hk : st < s.size) : n + 1 = (cut (sl s)).length ∧ xs ++ [.string (s.extract st s.size)] = (cut (sl s)).map strV := by
  have h' := h
  obtain ⟨h1, h2, h3⟩ := h
  have hcur := cut_cur s s.size st (by omega) h3
  have e1 : s.extract st s.size = bs (cutTo ((sl s).take s.size)).2 := by rw [bs_extract, hcur]
  rw [List.take_of_length_le (by rw [sl_length]; omega)] at h1 h2 h3 e1
  have : ¬ (cutTo (sl s)).2 = [] := by intro e; rw [e] at h3; simp at h3; omega
  unfold cut; rw [if_neg this, e1, h1, h2]; exact ⟨by simp, by simp [strV]⟩
set_option maxHeartbeats 1000000 in
theorem cut_any (s : ByteArray) (w : World) (hs : s.size ≤ 4000) :
    Calls Tryz.prog 65 #[.string s] w fun e w' => ∃ ao cap, e = .returned (.slice ao (cut (sl s)).length cap) ∧ Row w' ao (cut (sl s)).length 1 ((cut (sl s)).map strV) ∧ Below w.heap.size w w' := by
  obtain ⟨i0, hi, hz0, hz1, hz2⟩ := info_parts Tryz.infoStr
  have hsz : (0 : Int) ≤ s.size := by omega
  go_enter Tryz.func65, Tryz.ntmps65
  go_wp2
  go_loopw [3, 4, 5] (fun v st i wr => ∃ k t n : Nat, ∃ xs : List Value, k ≤ s.size ∧ t ≤ k ∧ n ≤ k ∧ i = .int .i64 k ∧ st = .int .i64 t ∧ wr.ownsRow w.heap.size 9 1 v n xs ∧ Below w.heap.size w wr ∧ Hid (CutInv s k t n xs)) (fun _ _ i _ => s.size - (intOf i).toNat)
  case atStart => exact ⟨0, 0, 0, [], Nat.zero_le _, Nat.le_refl _, Nat.le_refl _, rfl, rfl, World.ownsRow_nil _ _ _ _, Below.refl _ _, hide ⟨by simp [cutTo], by simp [cutTo], by simp [cutTo]⟩⟩
  case round =>
    obtain ⟨k, t, n, xs, hk, ht, hn, rfl, rfl, hown, hbel, HI⟩ := hrel
    by_cases hlt : k < s.size
    · by_cases hc : s[k] = 59
      · have HN := hide (cutInv_hit (unhide HI) hlt hc)
        go_wp2_with (first
          | (at_builtin; refine wpList_append_own _ rfl _ _ 74 rfl w.heap.size 9 i0 (.string ByteArray.empty) 1 16 Tryz.underlying74 hi hz0 hz1 hz2 rfl (by decide) _ _ _ rfl (hown.alloc _) ⟨wr.heap.size, 0, none⟩ 1 1 [.string (s.extract t (k + 1))] rfl rfl (news_one _ _) (by simp [Value.oneCell']) (by unfold maxLen; omega) (by omega) (by have := hbel.size; simp; omega) ?_)
          | go_in)
        intro v' w1 hown' hgrow _
        have hb1 := below_app hbel (by have := hbel.size; omega) hown hgrow
        clear hgrow hown hbel
        go_wp2
        go_roundw
        case rel => exact ⟨k + 1, k + 1, n + 1, _, by omega, by omega, by omega, by go_num, by go_num, hown', hb1, HN⟩
        case measure => simp [intOf]; omega
      · have HN := hide (cutInv_miss (unhide HI) hlt hc)
        have hc' : (((s[k]).toNat : Int) == 59) = false := by
          rw [beq_eq_false_iff_ne]; intro h; exact hc (UInt8.toNat_inj.1 (by simpa using (by omega : (s[k]).toNat = 59)))
        have HC := hide hc; clear hc
        go_wp2
        go_roundw
        case rel => exact ⟨k + 1, t, n, _, by omega, by omega, by omega, by go_num, rfl, hown, hbel, HN⟩
        case measure => simp [intOf]; omega
    · have hks : k = s.size := by omega
      subst hks
      by_cases hts : t < s.size
      · have HN := hide (cutInv_last (unhide HI) hts)
        go_wp2_with (first
          | (at_builtin; refine wpList_append_own _ rfl _ _ 74 rfl w.heap.size 9 i0 (.string ByteArray.empty) 1 16 Tryz.underlying74 hi hz0 hz1 hz2 rfl (by decide) _ _ _ rfl (hown.alloc _) ⟨wr.heap.size, 0, none⟩ 1 1 [.string (s.extract t s.size)] rfl rfl (news_one _ _) (by simp [Value.oneCell']) (by unfold maxLen; omega) (by omega) (by have := hbel.size; simp; omega) ?_)
          | go_in)
        intro v' w1 hown' hgrow _
        have hb1 := below_app hbel (by have := hbel.size; omega) hown hgrow
        clear hgrow hown hbel
        go_wp2
        go_ret
        obtain ⟨e1, e2⟩ := unhide HN
        obtain ⟨ao, cap, rfl, hr⟩ := row_of_owns hown'
        rw [e1, e2] at hr
        exact ⟨ao, cap, by rw [← e1]; rfl, hr, hb1⟩
      · have HN := hide (cutInv_end (unhide HI) hts)
        go_wp2
        go_ret
        obtain ⟨e1, e2⟩ := unhide HN
        obtain ⟨ao, cap, rfl, hr⟩ := row_of_owns hown
        rw [e1, e2] at hr
        exact ⟨ao, cap, by rw [← e1]; rfl, hr, hbel⟩
end Go.Proofs.YtkjancfakplogaaGreatDoor
