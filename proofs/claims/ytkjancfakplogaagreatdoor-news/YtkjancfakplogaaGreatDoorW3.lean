import Derived.Test.YtkjancfakplogaaGreatDoorW2
import Derived.Test.YtkjancfakplogaaGreatDoorPure2
import Derived.Deep.QuietTactic
import Derived.BigQuiet
import Derived.WalkSmall
namespace Go.Proofs.YtkjancfakplogaaGreatDoor
open Go.RowKit
/-! Parts. -/
def PartInv (s : ByteArray) (k st n : Nat) (xs : List Value) : Prop :=
  n = (partTo ((sl s).take k)).1.length ∧ xs = (partTo ((sl s).take k)).1.map strV ∧ st + (partTo ((sl s).take k)).2.length = k
theorem part_cur (s : ByteArray) (k st : Nat) (hk : k ≤ s.size) (h : st + (partTo ((sl s).take k)).2.length = k) : (partTo ((sl s).take k)).2 = ((sl s).take k).drop st := by
  obtain ⟨a, ha⟩ := partTo_suf ((sl s).take k)
  have hl : ((sl s).take k).length = k := by rw [List.length_take, sl_length]; omega
  have := (suf_drop ha).1
  rw [hl] at this
  rw [show st = k - (partTo ((sl s).take k)).2.length by omega]
  exact this
theorem partInv_hit {s : ByteArray} {k st n : Nat} {xs : List Value} (h : PartInv s k st n xs) (hk : k < s.size) (hc : s[k] = 32) : PartInv s (k + 1) (k + 1) (n + 1) (xs ++ [.string (s.extract st k)]) := by
  obtain ⟨h1, h2, h3⟩ := h
  have hcur := part_cur s k st (by omega) h3
  unfold PartInv
  rw [take_snoc s k hk, partTo_snoc, partStep, if_pos hc]
  refine ⟨by simp [h1], ?_, by simp⟩
  rw [List.map_append, ← h2]
  have : s.extract st k = bs (partTo ((sl s).take k)).2 := by rw [bs_extract, hcur]
  rw [this]; rfl
theorem partInv_miss {s : ByteArray} {k st n : Nat} {xs : List Value} (h : PartInv s k st n xs) (hk : k < s.size) (hc : ¬ s[k] = 32) : PartInv s (k + 1) st n xs := by
  obtain ⟨h1, h2, h3⟩ := h
  unfold PartInv
  rw [take_snoc s k hk, partTo_snoc, partStep, if_neg hc]
  exact ⟨h1, h2, by simp; omega⟩
theorem partInv_last {s : ByteArray} {st n : Nat} {xs : List Value} (h : PartInv s s.size st n xs) : n + 1 = (parts (sl s)).length ∧ xs ++ [.string (s.extract st s.size)] = (parts (sl s)).map strV := by
  obtain ⟨h1, h2, h3⟩ := h
  have hcur := part_cur s s.size st (by omega) h3
  have e1 : s.extract st s.size = bs (partTo ((sl s).take s.size)).2 := by rw [bs_extract, hcur]
  rw [List.take_of_length_le (by rw [sl_length]; omega)] at h1 h2 e1
  unfold parts; rw [e1, h1, h2]; exact ⟨by simp, by simp [strV]⟩
set_option maxHeartbeats 1000000 in
theorem parts_any (s : ByteArray) (w : World) (hs : s.size ≤ 4000) :
    Calls Tryz.prog 108 #[.string s] w fun e w' => ∃ ao cap, e = .returned (.slice ao (parts (sl s)).length cap) ∧ Row w' ao (parts (sl s)).length 1 ((parts (sl s)).map strV) ∧ Below w.heap.size w w' := by
  obtain ⟨i0, hi, hz0, hz1, hz2⟩ := info_parts Tryz.infoStr
  have hsz : (0 : Int) ≤ s.size := by omega
  go_enter Tryz.func108, Tryz.ntmps108
  go_wp2
  go_loopw [3, 4, 5] (fun v st i wr => ∃ k t n : Nat, ∃ xs : List Value, k ≤ s.size ∧ t ≤ k ∧ n ≤ k ∧ i = .int .i64 k ∧ st = .int .i64 t ∧ wr.ownsRow w.heap.size 9 1 v n xs ∧ Below w.heap.size w wr ∧ Hid (PartInv s k t n xs)) (fun _ _ i _ => s.size - (intOf i).toNat)
  case atStart => exact ⟨0, 0, 0, [], Nat.zero_le _, Nat.le_refl _, Nat.le_refl _, rfl, rfl, World.ownsRow_nil _ _ _ _, Below.refl _ _, hide ⟨by simp [partTo], by simp [partTo], by simp [partTo]⟩⟩
  case round =>
    obtain ⟨k, t, n, xs, hk, ht, hn, rfl, rfl, hown, hbel, HI⟩ := hrel
    by_cases hlt : k < s.size
    · by_cases hc : s[k] = 32
      · have HN := hide (partInv_hit (unhide HI) hlt hc)
        go_wp2_with (first
          | (at_builtin; refine wpList_append_own _ rfl _ _ 74 rfl w.heap.size 9 i0 (.string ByteArray.empty) 1 16 Tryz.underlying74 hi hz0 hz1 hz2 rfl (by decide) _ _ _ rfl (hown.alloc _) ⟨wr.heap.size, 0, none⟩ 1 1 [.string (s.extract t k)] rfl rfl (news_one _ _) (by simp [Value.oneCell']) (by unfold maxLen; omega) (by omega) (by have := hbel.size; simp; omega) ?_)
          | go_in)
        intro v' w1 hown' hgrow _
        have hb1 := below_app hbel (by have := hbel.size; omega) hown hgrow
        clear hgrow hown hbel
        go_wp2
        go_roundw
        case rel => exact ⟨k + 1, k + 1, n + 1, _, by omega, by omega, by omega, by go_num, by go_num, hown', hb1, HN⟩
        case measure => simp [intOf]; omega
      · have HN := hide (partInv_miss (unhide HI) hlt hc)
        have hc' : (((s[k]).toNat : Int) == 32) = false := by
          rw [beq_eq_false_iff_ne]; intro h; exact hc (UInt8.toNat_inj.1 (by simpa using (by omega : (s[k]).toNat = 32)))
        have HC := hide hc; clear hc
        go_wp2
        go_roundw
        case rel => exact ⟨k + 1, t, n, _, by omega, by omega, by omega, by go_num, rfl, hown, hbel, HN⟩
        case measure => simp [intOf]; omega
    · have hks : k = s.size := by omega
      subst hks
      have HN := hide (partInv_last (unhide HI))
      go_wp2_with (first
        | (at_builtin; refine wpList_append_own _ rfl _ _ 74 rfl w.heap.size 9 i0 (.string ByteArray.empty) 1 16 Tryz.underlying74 hi hz0 hz1 hz2 rfl (by decide) _ _ _ rfl (hown.alloc _) ⟨wr.heap.size, 0, none⟩ 1 1 [.string (s.extract t s.size)] rfl rfl (news_one _ _) (by simp [Value.oneCell']) (by unfold maxLen; omega) (by omega) (by have := hbel.size; simp; omega) ?_)
        | go_in)
      intro v' w1 hown' hgrow _
      have hb1 := below_app hbel (by have := hbel.size; omega) hown hgrow
      clear hgrow hown hbel
      go_wp2
      go_ret
      obtain ⟨e1, e2⟩ := unhide HN
      obtain ⟨ao, cap, rfl, hr⟩ := row_of_owns hown'
      rw [e1, e2] at hr
      exact ⟨ao, cap, by rw [← e1]; rfl, hr, hb1⟩
theorem sl_append (a b : ByteArray) : sl (a ++ b) = sl a ++ sl b := by simp [sl, ByteArray.data_append]
theorem tail_eq (s : ByteArray) (p : Nat) (d : Str) : ((s.extract p s.size).toList == (({ data := #[126] } : ByteArray) ++ bs d).toList) = ((sl s).drop p == 126 :: d) := by
  rw [tl_sl, tl_sl, sl_append, bs_extract, sl_bs, sl_bs, List.take_of_length_le (by rw [sl_length]; omega)]; rfl
theorem plain_lt (s : ByteArray) : plainLen (sl s) ≤ s.size := by rw [← sl_length]; exact plainLen_le _
set_option maxHeartbeats 400000 in
theorem isName_any (s : ByteArray) (id : Int) (w : World) (hs : s.size ≤ 4000) (h0 : 0 ≤ id) (h1 : id ≤ 99) :
    Calls Tryz.prog 115 #[.string s, .int .i64 id] w fun e w' => e = .returned (.bool (isName (sl s) id)) ∧ ∃ n, w' = w.drewN n := by
  have hle := plain_lt s
  have HI : Hid (isName (sl s) id = (decide (1 ≤ plainLen (sl s)) && decide (plainLen (sl s) ≤ 8) && (plainLen (sl s) == s.size || (sl s).drop (plainLen (sl s)) == 126 :: digs id))) := by
    apply hide; rw [← sl_length]; rfl
  have HP := hide (plainBytes_any s w hs)
  generalize plainLen (sl s) = p at *
  by_cases hp1 : 1 ≤ p
  · by_cases hp8 : p ≤ 8
    · by_cases hps : p = s.size
      · have hpe : ((p : Int) == (s.size : Int)) = true := by rw [beq_iff_eq]; omega
        have HF : Hid (isName (sl s) id = true) := by apply hide; rw [unhide HI]; simp [hp1, hp8, hps.symm]
        clear hps
        go_enter Tryz.func115, Tryz.ntmps115
        go_wp2_with (go_at_call 125; refine (unhide HP).mono ?_; rintro e w' ⟨rfl, rfl⟩)
        go_quiet (fail)
        go_wp2
        go_ret
        exact ⟨ret_bool (unhide HF).symm, _, rfl⟩
      · have hpe : ((p : Int) == (s.size : Int)) = false := by rw [beq_eq_false_iff_ne]; omega
        have HF : Hid (isName (sl s) id = ((sl s).drop p == 126 :: digs id)) := by apply hide; rw [unhide HI]; simp [hp1, hp8, hps]
        have hplt : p < s.size := by omega
        clear hps
        have hadd : ∀ W : World, (Op.stringOp .add ⟨#[126]⟩ (bs (digs id))).run Tryz.prog W = .ok (.string (⟨#[126]⟩ ++ bs (digs id))) W := fun W => run_string_add_sum (P := Tryz.prog) W _ _ (by rw [bs_size]; have := digs_len id; show 1 + _ ≤ _; omega)
        go_enter Tryz.func115, Tryz.ntmps115
        go_wp2_with (go_at_call 125; refine (unhide HP).mono ?_; rintro e w' ⟨rfl, rfl⟩)
        go_quiet ((go_at_call 100; exact Calls.quiet_of_same (itoa_any _ _ h0 h1)))
        go_wp2
        go_ret
        exact ⟨ret_bool (by rw [tail_eq, unhide HF]), _, rfl⟩
    · have HF : Hid (isName (sl s) id = false) := by apply hide; rw [unhide HI]; simp [hp8]
      go_enter Tryz.func115, Tryz.ntmps115
      go_wp2_with (go_at_call 125; refine (unhide HP).mono ?_; rintro e w' ⟨rfl, rfl⟩)
      go_ret
      exact ⟨ret_bool (unhide HF).symm, 0, rfl⟩
  · have HF : Hid (isName (sl s) id = false) := by apply hide; rw [unhide HI]; simp [hp1]
    go_enter Tryz.func115, Tryz.ntmps115
    go_wp2_with (go_at_call 125; refine (unhide HP).mono ?_; rintro e w' ⟨rfl, rfl⟩)
    go_ret
    exact ⟨ret_bool (unhide HF).symm, 0, rfl⟩
theorem bcell {W w1 : World} (hb : Below W.heap.size W w1) : (∀ b o, b < W.heap.size → w1.cell? ⟨b, o, none⟩ = W.cell? ⟨b, o, none⟩) ∧ (∀ b o, b < W.heap.size → w1.frozen? ⟨b, o, none⟩ = W.frozen? ⟨b, o, none⟩) :=
  ⟨fun b o h => hb.cell (p := ⟨b, o, none⟩) h, fun b o h => hb.frozen (p := ⟨b, o, none⟩) h⟩
theorem isName_below (s : ByteArray) (id : Int) (w : World) (hs : s.size ≤ 4000) (h0 : 0 ≤ id) (h1 : id ≤ 99) :
    Calls Tryz.prog 115 #[.string s, .int .i64 id] w fun e w' => e = .returned (.bool (isName (sl s) id)) ∧ ∃ n, w' = w.drewN n := isName_any s id w hs h0 h1
theorem readNode_three {l a b c : Str} (h : parts l = [a, b, c]) : readNode l = if (number a 1 99).2 && (number b 0 99).2 && isName c (number a 1 99).1 then some ⟨(number a 1 99).1, (number b 0 99).1, c⟩ else none := by
  unfold readNode; rw [h]
theorem readNode_other {l : Str} (h : (parts l).length ≠ 3) : readNode l = none := by
  unfold readNode
  split
  · rename_i a b c e; rw [e] at h; simp at h
  · rfl
theorem len3 {l : List Str} (h : l.length = 3) : ∃ a b c, l = [a, b, c] := by
  match l, h with
  | [a, b, c], _ => exact ⟨a, b, c, rfl⟩
set_option maxHeartbeats 1000000 in
theorem readNode_no (s : ByteArray) (w : World) (hs : s.size ≤ 4000) (h3 : (parts (sl s)).length ≠ 3) :
    Calls Tryz.prog 91 #[.string s] w fun e w' => e = .returned (.tuple #[.agg #[.int .i64 0, .int .i64 0, .string ByteArray.empty], .bool false]) ∧ Below w.heap.size w w' := by
  have hne : (((parts (sl s)).length : Int) != 3) = true := by rw [bne_iff_ne]; omega
  have HP : Hid (∀ W, Calls Tryz.prog 108 #[.string s] W fun e w' => ∃ ao cap, e = .returned (.slice ao (parts (sl s)).length cap) ∧ Row w' ao (parts (sl s)).length 1 ((parts (sl s)).map strV) ∧ Below W.heap.size W w') := hide (fun W => parts_any s W hs)
  generalize (parts (sl s)).length = n at *
  go_enter Tryz.func91, Tryz.ntmps91
  go_wp2_with fail
  refine (unhide HP _).mono ?_
  rintro e w1 ⟨ao, cap, rfl, hrow, hbel⟩
  clear hrow
  obtain ⟨hc, hf⟩ := bcell hbel
  have hz : w.heap.size + 1 ≤ w1.heap.size := by have := hbel.size; simp at this; omega
  have HB0 : Hid (Below w.heap.size w w1) := hide (((Below.refl _ _).alloc (Nat.le_refl _) _).trans (hbel.mono (by simp)))
  go_wp2
  refine bodyPost_ret (v := .tuple #[.agg #[.int .i64 0, .int .i64 0, .string ByteArray.empty], .bool false]) (by simp [results, Tryz.results91, go_sem, hc]; rfl) rfl ⟨rfl, ?_⟩
  exact (((unhide HB0).setCell (by simp) _).setCell (by simp) _).setCell (by simp) _
theorem rd_no {a b c : Str} (h : (number a 1 99).2 = false ∨ (number b 0 99).2 = false ∨ isName c (number a 1 99).1 = false) : ((number a 1 99).2 && (number b 0 99).2 && isName c (number a 1 99).1) = false := by
  rcases h with h | h | h <;> rw [h] <;> simp
set_option maxHeartbeats 2000000 in
theorem readNode_yes (s : ByteArray) (w : World) (hs : s.size ≤ 4000) (a b c : Str) (h3 : parts (sl s) = [a, b, c]) :
    Calls Tryz.prog 91 #[.string s] w fun e w' => e = .returned (.tuple #[.agg #[.int .i64 ((readNode (sl s)).getD nd0).id, .int .i64 ((readNode (sl s)).getD nd0).parent, .string (bs ((readNode (sl s)).getD nd0).name)], .bool (readNode (sl s)).isSome]) ∧ Below w.heap.size w w' := by
  have HP : Hid (∀ W, Calls Tryz.prog 108 #[.string s] W fun e w' => ∃ ao cap, e = .returned (.slice ao 3 cap) ∧ Row w' ao 3 1 [.string (bs a), .string (bs b), .string (bs c)] ∧ Below W.heap.size W w') := by
    apply hide; intro W; have := parts_any s W hs; rw [h3] at this; exact this
  have HR := hide (readNode_three h3)
  have hl : ∀ x ∈ [a, b, c], x.length ≤ 4000 := fun x hx => by have := part_len (sl s) x (by rw [h3]; exact hx); rw [sl_length] at this; omega
  have hla : (bs a).size ≤ 4000 := by rw [bs_size]; exact hl a (by simp)
  have hlb : (bs b).size ≤ 4000 := by rw [bs_size]; exact hl b (by simp)
  have hlc : (bs c).size ≤ 4000 := by rw [bs_size]; exact hl c (by simp)
  clear hl
  have HA := hide (fun W => number_any (bs a) 1 99 W hla (by omega) (by omega))
  have HB := hide (fun W => number_any (bs b) 0 99 W hlb (by omega) (by omega))
  rw [sl_bs] at HA HB
  have na := number_bd a 1 99 (by omega)
  have HC := hide (fun W => isName_any (bs c) (number a 1 99).1 W hlc na.1 na.2)
  rw [sl_bs] at HC
  have nb := number_bd b 0 99 (by omega)
  have HRD := hide (@rd_no a b c)
  generalize (number a 1 99).1 = x at *
  generalize (number a 1 99).2 = p at *
  generalize (number b 0 99).1 = y at *
  generalize (number b 0 99).2 = q at *
  generalize isName c x = r at *
  generalize readNode (sl s) = R at *
  clear h3
  cases p
  · have HF : Hid (R = none) := by apply hide; rw [unhide HR]; simp
    have hR := unhide HF
    subst hR
    go_enter Tryz.func91, Tryz.ntmps91
    go_wp2_with fail
    refine (unhide HP _).mono ?_
    rintro e w1 ⟨ao, cap, rfl, hrow, hbel⟩
    obtain ⟨g, hao, hg, hcel⟩ := hrow.2 (by omega)
    rw [hao]
    have c0 := hcel 0 _ rfl
    have c1 := hcel 1 _ rfl
    clear hcel hao hrow
    obtain ⟨hc, hf⟩ := bcell hbel
    have hz : w.heap.size + 1 ≤ w1.heap.size := by have := hbel.size; simp at this; omega
    have HB0 : Hid (Below w.heap.size w w1) := hide (((Below.refl _ _).alloc (Nat.le_refl _) _).trans (hbel.mono (by simp)))
    clear hbel
    go_wp2_with fail
    refine (unhide HA _).mono ?_
    rintro e w2 ⟨rfl, rfl⟩
    go_wp2_with fail
    refine (unhide HB _).mono ?_
    rintro e w3 ⟨rfl, rfl⟩
    go_wp2
    refine bodyPost_ret (v := .tuple #[.agg #[.int .i64 0, .int .i64 0, .string ByteArray.empty], .bool false]) (by simp [results, Tryz.results91, go_sem, hc]; rfl) rfl ⟨rfl, ?_⟩
    exact (((unhide HB0).setCell (by simp) _).setCell (by simp) _).setCell (by simp) _
  · cases q
    · have HF : Hid (R = none) := by apply hide; rw [unhide HR]; simp
      have hR := unhide HF
      subst hR
      go_enter Tryz.func91, Tryz.ntmps91
      go_wp2_with fail
      refine (unhide HP _).mono ?_
      rintro e w1 ⟨ao, cap, rfl, hrow, hbel⟩
      obtain ⟨g, hao, hg, hcel⟩ := hrow.2 (by omega)
      rw [hao]
      have c0 := hcel 0 _ rfl
      have c1 := hcel 1 _ rfl
      have c2 := hcel 2 _ rfl
      clear hcel hao hrow
      obtain ⟨hc, hf⟩ := bcell hbel
      have hz : w.heap.size + 1 ≤ w1.heap.size := by have := hbel.size; simp at this; omega
      have HB0 : Hid (Below w.heap.size w w1) := hide (((Below.refl _ _).alloc (Nat.le_refl _) _).trans (hbel.mono (by simp)))
      clear hbel
      go_wp2_with fail
      refine (unhide HA _).mono ?_
      rintro e w2 ⟨rfl, rfl⟩
      go_wp2_with fail
      refine (unhide HB _).mono ?_
      rintro e w3 ⟨rfl, rfl⟩
      go_wp2
      refine bodyPost_ret (v := .tuple #[.agg #[.int .i64 0, .int .i64 0, .string ByteArray.empty], .bool false]) (by simp [results, Tryz.results91, go_sem, hc]; rfl) rfl ⟨rfl, ?_⟩
      exact (((unhide HB0).setCell (by simp) _).setCell (by simp) _).setCell (by simp) _
    · cases r
      · have HF : Hid (R = none) := by apply hide; rw [unhide HR]; simp
        have hR := unhide HF
        subst hR
        go_enter Tryz.func91, Tryz.ntmps91
        go_wp2_with fail
        refine (unhide HP _).mono ?_
        rintro e w1 ⟨ao, cap, rfl, hrow, hbel⟩
        obtain ⟨g, hao, hg, hcel⟩ := hrow.2 (by omega)
        rw [hao]
        have c0 := hcel 0 _ rfl
        have c1 := hcel 1 _ rfl
        have c2 := hcel 2 _ rfl
        clear hcel hao hrow
        obtain ⟨hc, hf⟩ := bcell hbel
        have hz : w.heap.size + 1 ≤ w1.heap.size := by have := hbel.size; simp at this; omega
        have HB0 : Hid (Below w.heap.size w w1) := hide (((Below.refl _ _).alloc (Nat.le_refl _) _).trans (hbel.mono (by simp)))
        clear hbel
        go_wp2_with fail
        refine (unhide HA _).mono ?_
        rintro e w2 ⟨rfl, rfl⟩
        go_wp2_with fail
        refine (unhide HB _).mono ?_
        rintro e w3 ⟨rfl, rfl⟩
        go_wp2_with fail
        refine (unhide HC _).mono ?_
        rintro e w4 ⟨rfl, nd, rfl⟩
        go_wp2
        refine bodyPost_ret (v := .tuple #[.agg #[.int .i64 0, .int .i64 0, .string ByteArray.empty], .bool false]) (by simp [results, Tryz.results91, go_sem, hc]; rfl) rfl ⟨rfl, ?_⟩
        exact (((below_drewN (unhide HB0) _).setCell (by simp) _).setCell (by simp) _).setCell (by simp) _
      · have HF : Hid (R = some ⟨x, y, c⟩) := by apply hide; rw [unhide HR]; simp
        have hR := unhide HF
        subst hR
        go_enter Tryz.func91, Tryz.ntmps91
        go_wp2_with fail
        refine (unhide HP _).mono ?_
        rintro e w1 ⟨ao, cap, rfl, hrow, hbel⟩
        obtain ⟨g, hao, hg, hcel⟩ := hrow.2 (by omega)
        rw [hao]
        have c0 := hcel 0 _ rfl
        have c1 := hcel 1 _ rfl
        have c2 := hcel 2 _ rfl
        clear hcel hao hrow
        obtain ⟨hc, hf⟩ := bcell hbel
        have hz : w.heap.size + 1 ≤ w1.heap.size := by have := hbel.size; simp at this; omega
        have HB0 : Hid (Below w.heap.size w w1) := hide (((Below.refl _ _).alloc (Nat.le_refl _) _).trans (hbel.mono (by simp)))
        clear hbel
        go_wp2_with fail
        refine (unhide HA _).mono ?_
        rintro e w2 ⟨rfl, rfl⟩
        go_wp2_with fail
        refine (unhide HB _).mono ?_
        rintro e w3 ⟨rfl, rfl⟩
        go_wp2_with fail
        refine (unhide HC _).mono ?_
        rintro e w4 ⟨rfl, nd, rfl⟩
        go_wp2
        refine bodyPost_ret (v := .tuple #[.agg #[.int .i64 x, .int .i64 y, .string (bs c)], .bool true]) (by simp [results, Tryz.results91, go_sem, hc]) rfl ⟨rfl, ?_⟩
        exact (((below_drewN (unhide HB0) _).setCell (by simp) _).setCell (by simp) _).setCell (by simp) _
theorem readNode_any (s : ByteArray) (w : World) (hs : s.size ≤ 4000) :
    Calls Tryz.prog 91 #[.string s] w fun e w' => e = .returned (.tuple #[.agg #[.int .i64 ((readNode (sl s)).getD nd0).id, .int .i64 ((readNode (sl s)).getD nd0).parent, .string (bs ((readNode (sl s)).getD nd0).name)], .bool (readNode (sl s)).isSome]) ∧ Below w.heap.size w w' := by
  by_cases h3 : (parts (sl s)).length = 3
  · obtain ⟨a, b, c, e⟩ := len3 h3
    exact readNode_yes s w hs a b c e
  · rw [readNode_other h3]
    exact readNode_no s w hs h3
end Go.Proofs.YtkjancfakplogaaGreatDoor
