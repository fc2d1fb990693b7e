import Derived.Test.YtkahmbpggdneoaaDoorC15
import Derived.Test.YtkahmbpggdneoaaDoorM4
import Derived.Test.YtkahmbpggdneoaaDoorC16
namespace Go.Proofs.YtkahmbpggdneoaaDoor
open Go.RowKit
def TallyAt (w : World) (b : Nat) (c m d a : Nat) : Prop := w.heap[b]? = some (.cells #[.int .i64 c, .int .i64 m, .int .i64 d, .int .i64 a] 50 (0, 0))
theorem TallyAt.lt {w : World} {b c m d a : Nat} (h : TallyAt w b c m d a) : b < w.heap.size := lt_of_block h
theorem TallyAt.cells {w : World} {b c m d a : Nat} (h : TallyAt w b c m d a) : w.cell? ⟨b, 0, none⟩ = some (.int .i64 c) ∧ w.cell? ⟨b, 1, none⟩ = some (.int .i64 m) ∧ w.cell? ⟨b, 2, none⟩ = some (.int .i64 d) ∧ w.cell? ⟨b, 3, none⟩ = some (.int .i64 a) ∧ ∀ o, w.frozen? ⟨b, o, none⟩ = false := by
  refine ⟨?_, ?_, ?_, ?_, fun o => ?_⟩
  · rw [cell_of_row w b 0 _ _ (0, 0) h]; rfl
  · rw [cell_of_row w b 1 _ _ (0, 0) h]; rfl
  · rw [cell_of_row w b 2 _ _ (0, 0) h]; rfl
  · rw [cell_of_row w b 3 _ _ (0, 0) h]; rfl
  · simp [World.frozen?, show w.heap[b]? = _ from h]
theorem tally_0 {w : World} {b c m d a : Nat} (h : TallyAt w b c m d a) : TallyAt (w.setCell ⟨b, 0, none⟩ (.int .i64 ((c : Int) + 1))) b (c + 1) m d a := by
  unfold TallyAt; rw [heap_setCell_same w b 0 _ _ _ h]; rfl
theorem tally_1 {w : World} {b c m d a : Nat} (h : TallyAt w b c m d a) : TallyAt (w.setCell ⟨b, 1, none⟩ (.int .i64 ((m : Int) + 1))) b c (m + 1) d a := by
  unfold TallyAt; rw [heap_setCell_same w b 1 _ _ _ h]; rfl
theorem tally_2 {w : World} {b c m d a : Nat} (h : TallyAt w b c m d a) : TallyAt (w.setCell ⟨b, 2, none⟩ (.int .i64 ((d : Int) + 1))) b c m (d + 1) a := by
  unfold TallyAt; rw [heap_setCell_same w b 2 _ _ _ h]; rfl
theorem tally_3 {w : World} {b c m d a : Nat} (h : TallyAt w b c m d a) : TallyAt (w.setCell ⟨b, 3, none⟩ (.int .i64 ((a : Int) + 1))) b c m d (a + 1) := by
  unfold TallyAt; rw [heap_setCell_same w b 3 _ _ _ h]; rfl
theorem tally_new (w : World) : TallyAt (w.alloc (.cells #[.int .i64 0, .int .i64 0, .int .i64 0, .int .i64 0] 50)) w.heap.size 0 0 0 0 := heap_alloc_new w _
theorem grown_set {w : World} {b o : Nat} {v : Value} : w.grownBy (w.setCell ⟨b, o, none⟩ v) (some b) := by
  refine ⟨rfl, rfl, rfl, by simp, fun k hk hne => ?_⟩
  have hne' : k ≠ b := fun e => hne (by rw [e])
  rw [heap_setCell_other _ _ _ _ hne']
def kN (k : UInt8) (r : Str) : Nat := if r.head? = some k then 1 else 0
def hitB (r : Str) (k : Nat) : Bool := (r.take (k + 5)).drop k == [32, 48, 32, 116, 126]
def PkText (r : Str) : Prop := r.head? = some 61 ∧ ∃ p, p + 5 ≤ r.length ∧ hitB r p = true
theorem ext_list (r : Str) (a b : Nat) : ((bs r).extract a b).toList = (r.take b).drop a := by rw [bs_extract, tl_sl, sl_bs, sl_bs]
theorem head_at (k : UInt8) (r : Str) (h : 0 < (bs (k :: r)).size) : (bs (k :: r))[0] = k := rfl
theorem kne (k : UInt8) (n : Nat) (hn : n < 256) (h : ¬ k = UInt8.ofNat n) : ((k.toNat : Int) == (n : Int)) = false := by
  rw [beq_eq_false_iff_ne]; intro e
  exact h (UInt8.toNat_inj.1 (by rw [UInt8.toNat_ofNat_of_lt' (by simpa using hn)]; omega))
theorem kind_ne43 {k : UInt8} (h : ¬ k = 43) : ((k.toNat : Int) == 43) = false := kne k 43 (by omega) h
theorem kind_ne45 {k : UInt8} (h : ¬ k = 45) : ((k.toNat : Int) == 45) = false := kne k 45 (by omega) h
theorem kind_ne61 {k : UInt8} (h : ¬ k = 61) : ((k.toNat : Int) == 61) = false := kne k 61 (by omega) h
set_option maxHeartbeats 4000000 in
theorem add_any (r : Str) (b c m d a : Nat) (w : World) (hT : TallyAt w b c m d a) (hl : r.length ≤ 140737488355328) (ha : a ≤ 1000000000000000000) (hc : c ≤ 1000000000000000000) (hm : m ≤ 1000000000000000000) (hd : d ≤ 1000000000000000000) :
    Calls Tryd.prog 36 #[.pointer (some ⟨b, 0, none⟩), .string (bs r)] w fun e w' => e = .returned (.tuple #[]) ∧ (∃ a', TallyAt w' b (c + kN 43 r) (m + kN 61 r) (d + kN 45 r) a' ∧ a ≤ a' ∧ a' ≤ a + r.length ∧ (PkText r → a + 1 ≤ a')) ∧ w.grownBy w' (some b) := by
  cases r with
  | nil =>
    have hz : (bs ([] : Str)).size = 0 := rfl
    have HT := hide hT
    go_enter Tryd.func36, Tryd.ntmps36
    go_wp2
    refine bodyPost_ret (v := .tuple #[]) (by simp [results, Tryd.results36]) rfl ?_
    exact ⟨rfl, ⟨a, unhide HT, Nat.le_refl _, by simp, fun h => by cases h.1⟩, grown_refl _ _⟩
  | cons h tl =>
    have hsz : (bs (h :: tl)).size = tl.length + 1 := by rw [bs_size]; rfl
    have hl' : tl.length + 1 ≤ 140737488355328 := by simpa using hl
    clear hl
    have hpos : 0 < (bs (h :: tl)).size := by omega
    have hne := ne_nil_at (bs (h :: tl)) hpos
    have hhead := head_at h tl hpos
    obtain ⟨c0, c1, c2, c3, f0⟩ := hT.cells
    have HT := hide hT
    have hlt := hT.lt
    clear hT
    by_cases h43 : h = 43
    · subst h43
      have HTs : Hid (TallyAt (w.setCell ⟨b, 0, none⟩ (.int .i64 ((c : Int) + 1))) b (c + 1) (m) (d) a) := hide (tally_0 (unhide HT))
      have HGs : Hid (w.grownBy (w.setCell ⟨b, 0, none⟩ (.int .i64 ((c : Int) + 1))) (some b)) := hide (grown_set)
      have k1 : kN 43 (43 :: tl) = 1 := rfl
      have k2 : kN 61 (43 :: tl) = 0 := rfl
      have k3 : kN 45 (43 :: tl) = 0 := rfl
      have hNP : Hid (¬ PkText (43 :: tl)) := hide (fun h => by cases h.1)
      go_enter Tryd.func36, Tryd.ntmps36
      go_wp2_with fail
      generalize hW : w.setCell ⟨b, 0, none⟩ (.int .i64 ((c : Int) + 1)) = W at *
      go_loop [4] (fun i => ∃ k : Nat, k ≤ tl.length + 1 ∧ i = .int .i64 k) (fun i => tl.length + 1 - (intOf i).toNat)
      case atStart => exact ⟨0, by omega, rfl⟩
      case round =>
        obtain ⟨k, hk, rfl⟩ := hrel
        by_cases hlt2 : k + 5 ≤ tl.length + 1
        · have hle : decide ((k : Int) + 5 ≤ (tl.length : Int) + 1) = true := by simp; omega
          go_wp2
          go_round
          case rel => exact ⟨k + 1, by omega, by go_num⟩
          case measure => simp [intOf]; omega
        · have hle : decide ((k : Int) + 5 ≤ (tl.length : Int) + 1) = false := by simp; omega
          go_wp2
          go_end0
          exact ⟨rfl, ⟨a, unhide HTs, Nat.le_refl _, by omega, fun hh => absurd hh (unhide hNP)⟩, unhide HGs⟩
    · by_cases h45 : h = 45
      · subst h45
        have HTs : Hid (TallyAt (w.setCell ⟨b, 2, none⟩ (.int .i64 ((d : Int) + 1))) b (c) (m) (d + 1) a) := hide (tally_2 (unhide HT))
        have HGs : Hid (w.grownBy (w.setCell ⟨b, 2, none⟩ (.int .i64 ((d : Int) + 1))) (some b)) := hide (grown_set)
        have k1 : kN 43 (45 :: tl) = 0 := rfl
        have k2 : kN 61 (45 :: tl) = 0 := rfl
        have k3 : kN 45 (45 :: tl) = 1 := rfl
        have hNP : Hid (¬ PkText (45 :: tl)) := hide (fun h => by cases h.1)
        go_enter Tryd.func36, Tryd.ntmps36
        go_wp2_with fail
        generalize hW : w.setCell ⟨b, 2, none⟩ (.int .i64 ((d : Int) + 1)) = W at *
        go_loop [4] (fun i => ∃ k : Nat, k ≤ tl.length + 1 ∧ i = .int .i64 k) (fun i => tl.length + 1 - (intOf i).toNat)
        case atStart => exact ⟨0, by omega, rfl⟩
        case round =>
          obtain ⟨k, hk, rfl⟩ := hrel
          by_cases hlt2 : k + 5 ≤ tl.length + 1
          · have hle : decide ((k : Int) + 5 ≤ (tl.length : Int) + 1) = true := by simp; omega
            go_wp2
            go_round
            case rel => exact ⟨k + 1, by omega, by go_num⟩
            case measure => simp [intOf]; omega
          · have hle : decide ((k : Int) + 5 ≤ (tl.length : Int) + 1) = false := by simp; omega
            go_wp2
            go_end0
            exact ⟨rfl, ⟨a, unhide HTs, Nat.le_refl _, by omega, fun hh => absurd hh (unhide hNP)⟩, unhide HGs⟩
      · by_cases h61 : h = 61
        · subst h61
          have k1 : kN 43 (61 :: tl) = 0 := rfl
          have k2 : kN 61 (61 :: tl) = 1 := rfl
          have k3 : kN 45 (61 :: tl) = 0 := rfl
          have HTs : Hid (TallyAt (w.setCell ⟨b, 1, none⟩ (.int .i64 ((m : Int) + 1))) b c (m + 1) d a) := hide (tally_1 (unhide HT))
          have HGs : Hid (w.grownBy (w.setCell ⟨b, 1, none⟩ (.int .i64 ((m : Int) + 1))) (some b)) := hide grown_set
          go_enter Tryd.func36, Tryd.ntmps36
          go_wp2_with fail
          generalize hW : w.setCell ⟨b, 1, none⟩ (.int .i64 ((m : Int) + 1)) = W at *
          go_loopw [4] (fun i wr => ∃ k a' : Nat, k ≤ tl.length + 1 ∧ i = .int .i64 k ∧ Hid (TallyAt wr b c (m + 1) d a') ∧ Hid (w.grownBy wr (some b)) ∧ a ≤ a' ∧ a' ≤ a + k ∧ Hid (∀ p, p < k → hitB (61 :: tl) p = true → a + 1 ≤ a')) (fun i _ => tl.length + 1 - (intOf i).toNat)
          case atStart => exact ⟨0, a, by omega, rfl, HTs, HGs, by omega, by omega, hide (fun p hp => by omega)⟩
          case round =>
            obtain ⟨k, a', hk, rfl, HTr, HGr, ha1, ha2, HP⟩ := hrel
            by_cases hlt2 : k + 5 ≤ tl.length + 1
            · have hle : decide ((k : Int) + 5 ≤ (tl.length : Int) + 1) = true := by simp; omega
              have hk0 : (0 : Int) ≤ k := by omega
              have hk5 : ((k : Int) + 5).toNat = k + 5 := by omega
              have hk6 : (k : Int) ≤ (k : Int) + 5 := by omega
              have hk7 : (k : Int) + 5 ≤ (tl.length : Int) + 1 := by omega
              have hx := ext_list (61 :: tl) k (k + 5)
              obtain ⟨_, _, _, d3, g0⟩ := (unhide HTr).cells
              have hltr := (unhide HTr).lt
              cases hq : hitB (61 :: tl) k
              · have HP2 : Hid (∀ p, p < k + 1 → hitB (61 :: tl) p = true → a + 1 ≤ a') := hide (fun p hp hh => by
                  by_cases e : p = k
                  · subst e; rw [hq] at hh; cases hh
                  · exact unhide HP p (by omega) hh)
                unfold hitB at hq
                rw [← hx] at hq
                clear hx
                go_wp2
                go_roundw
                case rel => exact ⟨k + 1, a', by omega, by go_num, HTr, HGr, ha1, by omega, HP2⟩
                case measure => simp [intOf]; omega
              · have HP2 : Hid (∀ p, p < k + 1 → hitB (61 :: tl) p = true → a + 1 ≤ a' + 1) := hide (fun p _ _ => by omega)
                have HT2 := hide (tally_3 (unhide HTr))
                have HG2 := hide (grown_trans (unhide HGr) (grown_set (w := wr) (b := b) (o := 3) (v := .int .i64 ((a' : Int) + 1))))
                unfold hitB at hq
                rw [← hx] at hq
                clear hx
                go_wp2
                go_roundw
                case rel => exact ⟨k + 1, a' + 1, by omega, by go_num, HT2, HG2, by omega, by omega, HP2⟩
                case measure => simp [intOf]; omega
            · have hle : decide ((k : Int) + 5 ≤ (tl.length : Int) + 1) = false := by simp; omega
              go_wp2
              go_end0
              refine ⟨rfl, ⟨a', unhide HTr, ha1, by omega, fun hh => ?_⟩, unhide HGr⟩
              obtain ⟨_, p, hp, hpp⟩ := hh
              exact unhide HP p (by simp at hp; omega) hpp
        · skip
          have HTs : Hid (TallyAt (w) b (c) (m) (d) a) := hide (unhide HT)
          have HGs : Hid (w.grownBy (w) (some b)) := hide (grown_refl _ _)
          have k1 : kN 43 (h :: tl) = 0 := by unfold kN; rw [if_neg (by simp; assumption)]
          have k2 : kN 61 (h :: tl) = 0 := by unfold kN; rw [if_neg (by simp; assumption)]
          have k3 : kN 45 (h :: tl) = 0 := by unfold kN; rw [if_neg (by simp; assumption)]
          have hNP : Hid (¬ PkText (h :: tl)) := hide (fun h => by have := h.1; simp at this; exact h61 this)
          have q1 := kind_ne43 h43
          have q2 := kind_ne45 h45
          have q3 := kind_ne61 h61
          go_enter Tryd.func36, Tryd.ntmps36
          go_wp2_with fail
          go_loop [4] (fun i => ∃ k : Nat, k ≤ tl.length + 1 ∧ i = .int .i64 k) (fun i => tl.length + 1 - (intOf i).toNat)
          case atStart => exact ⟨0, by omega, rfl⟩
          case round =>
            obtain ⟨k, hk, rfl⟩ := hrel
            by_cases hlt2 : k + 5 ≤ tl.length + 1
            · have hle : decide ((k : Int) + 5 ≤ (tl.length : Int) + 1) = true := by simp; omega
              go_wp2
              go_round
              case rel => exact ⟨k + 1, by omega, by go_num⟩
              case measure => simp [intOf]; omega
            · have hle : decide ((k : Int) + 5 ≤ (tl.length : Int) + 1) = false := by simp; omega
              go_wp2
              go_end0
              exact ⟨rfl, ⟨a, unhide HTs, Nat.le_refl _, by omega, fun hh => absurd hh (unhide hNP)⟩, unhide HGs⟩
end Go.Proofs.YtkahmbpggdneoaaDoor

namespace Go.Proofs.YtkahmbpggdneoaaDoor
open Go.RowKit
theorem kN_step {s : St} (_hs : StOk s) (k : UInt8) : kN k (stText s) = if isK k s then 1 else 0 := by
  have hh : (stText s).head? = some s.kind := by
    unfold stText
    by_cases h : s.kind = 45
    · rw [if_pos h, h]; rfl
    · rw [if_neg h]; rfl
  unfold kN isK
  rw [hh]
  by_cases h : s.kind = k
  · rw [if_pos (by rw [h]), if_pos (by simpa using h)]
  · rw [if_neg (by simpa using h), if_neg (by simpa using h)]
theorem hit_mid (pre post : Str) : hitB (pre ++ ([32, 48, 32, 116, 126] ++ post)) pre.length = true := by
  unfold hitB
  have : ((pre ++ ([32, 48, 32, 116, 126] ++ post)).take (pre.length + 5)).drop pre.length = [32, 48, 32, 116, 126] := by
    rw [List.take_length_add_append, List.drop_left]; rfl
  rw [this]; rfl
theorem park_text {s : St} (h : isParkB s = true) : PkText (stText s) := by
  unfold isParkB at h
  rw [Bool.and_eq_true, beq_iff_eq, ndEq_iff] at h
  obtain ⟨hk, hn⟩ := h
  have e : stText s = (61 :: digs s.node.id) ++ ([32, 48, 32, 116, 126] ++ (digs s.node.id ++ [59])) := by
    unfold stText
    rw [if_neg (by rw [hk]; decide), hk]
    have e2 : nodeText s.node = digs s.node.id ++ [32] ++ digs 0 ++ [32] ++ (116 :: 126 :: digs s.node.id) ++ [59] := by
      conv => lhs; rw [hn]
      rfl
    rw [e2]
    have e3 : digs 0 = [48] := rfl
    rw [e3]; simp
  refine ⟨by rw [e]; rfl, (61 :: digs s.node.id).length, ?_, ?_⟩
  · rw [e, List.length_append, List.length_append]; simp
  · rw [e]; exact hit_mid _ _
theorem cnt_take (p : St → Bool) (ss : List St) (k : Nat) (hk : k < ss.length) : (ss.take (k + 1)).countP p = (ss.take k).countP p + (if p ss[k] then 1 else 0) := by
  rw [List.take_succ_eq_append_getElem hk, List.countP_append]; simp [List.countP_cons]
theorem row_kept {w w' : World} {ao : Option Addr} {n size : Nat} {xs : List Value} {b : Nat} (h : Row w ao n size xs) (hg : w.grownBy w' (some b)) (hne : 0 < n → ∀ g, ao = some ⟨g, 0, none⟩ → g ≠ b) : Row w' ao n size xs := by
  refine ⟨h.1, fun hn => ?_⟩
  obtain ⟨g, h1, h2, h3⟩ := h.2 hn
  refine ⟨g, h1, by have := hg.size; omega, fun j u hu => ?_⟩
  rw [World.cell?_of_block (a := ⟨g, j, none⟩) (hg.block g h2 (fun e => hne hn g h1 (by cases e; rfl)))]
  exact h3 j u hu
theorem row_apart {w : World} {ao : Option Addr} {rs : List Str} {b c m d a : Nat} (hr : Row w ao rs.length 1 (rs.map strV)) (hT : TallyAt w b c m d a) : 0 < rs.length → ∀ g, ao = some ⟨g, 0, none⟩ → g ≠ b := by
  intro hn g hao e
  obtain ⟨g', h1, _, h3⟩ := hr.2 hn
  rw [hao] at h1
  cases h1
  have hc := h3 0 (strV rs[0]) (by simp [hn])
  rw [e, hT.cells.1] at hc
  cases hc
theorem cntK_le (k : UInt8) (l : List St) : cntK k l ≤ l.length := List.countP_le_length
set_option maxHeartbeats 4000000 in
theorem counted_any (ss : List St) (w : World) (hs : ∀ s ∈ ss, StOk s) (hl : (scriptText ss).length ≤ 4000) (hn : ss.length ≤ 198) :
    Calls Tryd.prog 19 #[.string (bs (scriptText ss))] w fun e w' => (∃ b a', e = .returned (.pointer (some ⟨b, 0, none⟩)) ∧ TallyAt w' b (cntK 43 ss) (cntK 61 ss) (cntK 45 ss) a' ∧ parkCnt ss ≤ a' ∧ a' ≤ 100000) ∧ Below w.heap.size w w' := by
  have HCT := hide (fun W => kcut_any (bs (scriptText ss)) W (by rw [bs_size]; exact hl))
  rw [sl_bs, cut_script ss hs, List.length_map] at HCT
  have HS := hide hs
  have HT0 := hide (tally_new w)
  have HB0 := hide ((Below.refl w.heap.size w).alloc (Nat.le_refl _) (.cells #[.int .i64 0, .int .i64 0, .int .i64 0, .int .i64 0] 50))
  clear hs hl
  generalize scriptText ss = sc at *
  go_enter Tryd.func19, Tryd.ntmps19
  go_wp2_with fail
  refine (unhide HCT _).mono ?_
  rintro e w1 ⟨lo, lc, rfl, hrow, hb1⟩
  have hT1 : TallyAt w1 w.heap.size 0 0 0 0 := by
    unfold TallyAt; rw [hb1.block _ (unhide HT0).lt]; exact unhide HT0
  have hrow' : Row w1 lo (ss.map stText).length 1 ((ss.map stText).map strV) := by rw [List.length_map]; exact hrow
  have hap := row_apart hrow' hT1
  rw [List.length_map] at hap
  have HAP := hide hap
  have HT1 := hide hT1
  have HROW := hide hrow
  have HB1 := hide ((unhide HB0).trans (hb1.mono (by simp)))
  clear hrow hrow' hap hT1 hb1
  generalize hbb : w.heap.size = b at *
  go_wp2_with fail
  go_loopw [5] (fun i wr => ∃ k a' : Nat, k ≤ ss.length ∧ i = .int .i64 k ∧ Hid (TallyAt wr b (cntK 43 (ss.take k)) (cntK 61 (ss.take k)) (cntK 45 (ss.take k)) a') ∧ Hid (Row wr lo ss.length 1 ((ss.map stText).map strV)) ∧ Hid (Below b w wr) ∧ parkCnt (ss.take k) ≤ a' ∧ a' ≤ 19 * k) (fun i _ => ss.length - (intOf i).toNat)
  case atStart => exact ⟨0, 0, by omega, rfl, HT1, HROW, HB1, by simp [parkCnt], by omega⟩
  case round =>
    obtain ⟨k, a', hk, rfl, HT, HR, HBL, hp, ha⟩ := hrel
    by_cases hlt : k < ss.length
    · have hr2 : Row wr lo (ss.map stText).length 1 ((ss.map stText).map strV) := by rw [List.length_map]; exact unhide HR
      obtain ⟨g, hlo, hg, hc⟩ := str_cell hr2 (Below.refl _ _) (k := k) (by rw [List.length_map]; exact hlt)
      rw [List.getElem_map] at hc
      have hsok := unhide HS _ (List.getElem_mem hlt)
      have htl := stText_len hsok
      have q1 := cntK_le 43 (ss.take k)
      have q2 := cntK_le 61 (ss.take k)
      have q3 := cntK_le 45 (ss.take k)
      rw [List.length_take] at q1 q2 q3
      have HAD := hide (add_any (stText ss[k]) b _ _ _ a' wr (unhide HT) (by omega) (by omega) (by omega) (by omega) (by omega))
      rw [kN_step hsok, kN_step hsok, kN_step hsok] at HAD
      have e1 := cnt_take (isK 43) ss k hlt
      have e2 := cnt_take (isK 61) ss k hlt
      have e3 := cnt_take (isK 45) ss k hlt
      have e4 := cnt_take isParkB ss k hlt
      have HPT : Hid (isParkB ss[k] = true → PkText (stText ss[k])) := hide park_text
      have HCN : Hid (cntK 43 (ss.take k) + (if isK 43 ss[k] then 1 else 0) = cntK 43 (ss.take (k + 1)) ∧ cntK 61 (ss.take k) + (if isK 61 ss[k] then 1 else 0) = cntK 61 (ss.take (k + 1)) ∧ cntK 45 (ss.take k) + (if isK 45 ss[k] then 1 else 0) = cntK 45 (ss.take (k + 1))) := hide ⟨e1.symm, e2.symm, e3.symm⟩
      have HPK : Hid (parkCnt (ss.take (k + 1)) = parkCnt (ss.take k) + (if isParkB ss[k] then 1 else 0)) := hide e4
      rw [hlo]
      have HLO := hide hlo
      clear hlo hr2 hsok e1 e2 e3 e4 q1 q2 q3
      generalize stText ss[k] = tx at *
      go_wp2_with fail
      refine (unhide HAD).mono ?_
      rintro e w2 ⟨rfl, ⟨a2, hT2, ha2, ha3, ha4⟩, hg2⟩
      rw [(unhide HCN).1, (unhide HCN).2.1, (unhide HCN).2.2] at hT2
      have HT2 := hide hT2
      have HR2 := hide (row_kept (unhide HR) hg2 (unhide HAP))
      have HB2 := hide ((unhide HBL).grown hg2 (by have := (unhide HBL).size; omega) (fun j hj => by cases hj; omega))
      have hp2 : parkCnt (ss.take (k + 1)) ≤ a2 := by
        rw [unhide HPK]
        by_cases hq : isParkB ss[k] = true
        · rw [if_pos hq]; have := ha4 (unhide HPT hq); omega
        · rw [if_neg hq]; omega
      clear hT2 hg2 ha4 hc
      go_wp2
      go_roundw
      case rel => exact ⟨k + 1, a2, by omega, by go_num, HT2, by rw [unhide HLO] at HR2; first | exact HR2 | (rw [unhide HLO]; exact HR2), HB2, hp2, by omega⟩
      case measure => simp [intOf]; omega
    · have hkk : k = ss.length := by omega
      subst hkk
      rw [List.take_of_length_le (Nat.le_refl _)] at HT hp
      go_wp2
      go_ret
      exact ⟨⟨b, a', rfl, unhide HT, hp, by omega⟩, by first | exact unhide HBL | (rw [hbb]; exact unhide HBL)⟩
end Go.Proofs.YtkahmbpggdneoaaDoor
