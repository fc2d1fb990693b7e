import Derived.Test.YtkahmbpggdneoaaDoorC6
import Derived.Test.YtkahmbpggdneoaaDoorM4
namespace Go.Proofs.YtkahmbpggdneoaaDoor
open Go.RowKit
theorem apply_first : applyT [] [43, 50, 32, 48, 32, 97, 59] = ([50, 32, 48, 32, 97, 59], 0, 0) := by decide +kernel
theorem apply_empty (l : Str) : applyT l [] = if (checkT l).1 = 0 then (l, 0, 0) else ([], (checkT l).2, (checkT l).1) := by
  by_cases h : (checkT l).1 = 0
  · rw [if_pos h]
    obtain ⟨_, h1, _, _, _⟩ := check_parts h
    have e := applyT_ok (l := l) (sc := []) (by simp; exact h1) (by simpa using h) (show ¬ (readSteps (cut [])).length < (cut []).length by decide) (fun hh => hh rfl)
    rw [e]
    show (textT (gather (readNodes (cut l))), 0, 0) = _
    rw [text_check h]
  · rw [if_neg h]
    unfold applyT
    by_cases h1 : 4000 < l.length ∨ 4000 < ([] : Str).length
    · rw [if_pos h1]
      have h2 : 4000 < l.length := by simpa using h1
      have : checkT l = (1, 0) := by unfold checkT; rw [if_pos h2]
      rw [this]
    · rw [if_neg h1, if_pos h]
theorem check_zero {l : Str} (h : (checkT l).1 = 0) : (checkT l).2 = 0 := by rw [(check_parts h).1]
theorem apply_long {l s : Str} (h : 4000 < s.length) : applyT l s = ([], 0, 1) := applyT_long (.inr h)
theorem apply_bad {l s : Str} (h : (applyT l s).2.2 ≠ 0) : (applyT l s).1 = [] ∧ (s.length ≤ 4000 → (checkT l).1 ≠ 0 → (applyT l s).2.2 = (checkT l).1) := by
  by_cases h1 : 4000 < l.length ∨ 4000 < s.length
  · rw [applyT_long h1]
    refine ⟨rfl, fun hs _ => ?_⟩
    have h2 : 4000 < l.length := by omega
    have : checkT l = (1, 0) := by unfold checkT; rw [if_pos h2]
    rw [this]
  · by_cases h2 : (checkT l).1 ≠ 0
    · rw [applyT_check h1 h2]; exact ⟨rfl, fun _ _ => rfl⟩
    · by_cases h3 : (readSteps (cut s)).length < (cut s).length
      · rw [applyT_step h1 h2 h3]; exact ⟨rfl, fun _ hh => absurd hh h2⟩
      · by_cases h4 : (doAllE (readSteps (cut s)) (gather (readNodes (cut l))) 0).1 ≠ 0
        · rw [applyT_do h1 h2 h3 h4]; exact ⟨rfl, fun _ hh => absurd hh h2⟩
        · rw [applyT_ok h1 h2 h3 h4] at h; exact absurd rfl h
theorem apply_good {l s : Str} (h : (applyT l s).2.2 = 0) : ¬ (4000 < l.length ∨ 4000 < s.length) ∧ (checkT l).1 = 0 ∧ ¬ (readSteps (cut s)).length < (cut s).length ∧ (doAllE (readSteps (cut s)) (gather (readNodes (cut l))) 0).1 = 0 ∧ applyT l s = (textT (doAllT (readSteps (cut s)) (gather (readNodes (cut l)))), 0, 0) := by
  by_cases h1 : 4000 < l.length ∨ 4000 < s.length
  · rw [applyT_long h1] at h; simp at h
  · by_cases h2 : (checkT l).1 ≠ 0
    · rw [applyT_check h1 h2] at h; exact absurd h h2
    · by_cases h3 : (readSteps (cut s)).length < (cut s).length
      · rw [applyT_step h1 h2 h3] at h; simp at h
      · by_cases h4 : (doAllE (readSteps (cut s)) (gather (readNodes (cut l))) 0).1 ≠ 0
        · rw [applyT_do h1 h2 h3 h4] at h; exact absurd h h4
        · exact ⟨h1, Classical.not_not.1 h2, h3, Classical.not_not.1 h4, applyT_ok h1 h2 h3 h4⟩
theorem doAll_app : ∀ (ss ts : List St) (t : Tr) (i : Nat), (doAllE ss t i).1 = 0 → doAllE (ss ++ ts) t i = doAllE ts (doAllT ss t) (i + ss.length) ∧ doAllT (ss ++ ts) t = doAllT ts (doAllT ss t) := by
  intro ss
  induction ss with
  | nil => intro ts t i _; exact ⟨rfl, rfl⟩
  | cons s ss ih =>
    intro ts t i h
    by_cases hs : stepE t s = 0
    · rw [doAllE, if_pos hs] at h
      obtain ⟨h1, h2⟩ := ih ts (stepT t s) (i + 1) h
      have e : doAllT (s :: ss) t = doAllT ss (stepT t s) := by rw [doAllT, if_pos hs]
      rw [e, ← h2]
      refine ⟨?_, by rw [List.cons_append, doAllT, if_pos hs]⟩
      rw [List.cons_append, doAllE, if_pos hs, h1, show i + (s :: ss).length = i + 1 + ss.length by simp; omega]
    · rw [doAllE, if_neg hs] at h; exact absurd h hs
theorem doAll_shift : ∀ (ts : List St) (t : Tr) (i k : Nat), (doAllE ts t (i + k)).1 = (doAllE ts t i).1 ∧ ((doAllE ts t i).1 ≠ 0 → (doAllE ts t (i + k)).2 = (doAllE ts t i).2 + k) ∧ ((doAllE ts t i).1 = 0 → (doAllE ts t i).2 = 0) := by
  intro ts
  induction ts with
  | nil => intro t i k; simp [doAllE]
  | cons s ts ih =>
    intro t i k
    by_cases hs : stepE t s = 0
    · simp only [doAllE, if_pos hs]
      have := ih (stepT t s) (i + 1) k
      rw [show i + k + 1 = i + 1 + k by omega]
      exact this
    · rw [show doAllE (s :: ts) t (i + k) = (stepE t s, i + k) by rw [doAllE, if_neg hs], show doAllE (s :: ts) t i = (stepE t s, i) by rw [doAllE, if_neg hs]]
      exact ⟨rfl, fun _ => rfl, fun h => absurd h hs⟩
theorem readSteps_closed : ∀ (rs : List Str), ¬ (readSteps rs).length < rs.length → ∀ r ∈ rs, bodyB r = true := by
  intro rs
  induction rs with
  | nil => intro _ r hr; simp at hr
  | cons a rs ih =>
    intro h r hr
    unfold readSteps at h
    cases ha : readStep a with
    | none => rw [ha] at h; simp at h
    | some s =>
      rw [ha] at h
      simp only [List.length_cons] at h
      rcases List.mem_cons.1 hr with rfl | hr
      · unfold readStep at ha
        split at ha
        · assumption
        · cases ha
      · exact ih (by omega) r hr
theorem readSteps_app : ∀ (rs qs : List Str), ¬ (readSteps rs).length < rs.length → readSteps (rs ++ qs) = readSteps rs ++ readSteps qs := by
  intro rs
  induction rs with
  | nil => intro qs _; rfl
  | cons a rs ih =>
    intro qs h
    unfold readSteps at h
    cases ha : readStep a with
    | none => rw [ha] at h; simp at h
    | some s =>
      rw [ha] at h
      simp only [List.length_cons] at h
      rw [List.cons_append, readSteps, readSteps, ha]
      simp only [List.cons_append]
      rw [ih qs (by omega)]
theorem check_place (l : Str) : (checkT l).2 ≤ 4000 := by
  unfold checkT
  split
  · simp
  · rename_i h
    have h1 := cut_length_le l
    have h2 := readNodes_length (cut l)
    simp only []
    split
    · simp only; omega
    · split
      · have := scan_le (unordered (readNodes (cut l))) 1 (readNodes (cut l)).length
        simp only; omega
      · generalize readNodes (cut l) = ns at *
        have s1 := scan_le (orphan (gather ns) ns) 0 ns.length
        have s2 := scan_le (looped (gather ns) ns) 0 ns.length
        have s3 := scan_le (twice ns) 0 ns.length
        unfold misplaced
        split
        · simp only; omega
        · split
          · simp only; omega
          · split
            · simp only; omega
            · simp
theorem doAll_place : ∀ (ts : List St) (t : Tr) (i : Nat), (doAllE ts t i).2 ≤ i + ts.length := by
  intro ts
  induction ts with
  | nil => intro t i; simp [doAllE]
  | cons s ts ih =>
    intro t i
    rw [doAllE]
    split
    · have := ih (stepT t s) (i + 1); simp; omega
    · simp
theorem apply_place (l s : Str) : (applyT l s).2.1 ≤ 4000 := by
  by_cases h1 : 4000 < l.length ∨ 4000 < s.length
  · rw [applyT_long h1]; simp
  · have c1 := cut_length_le s
    have c2 := readSteps_length (cut s)
    by_cases h2 : (checkT l).1 ≠ 0
    · rw [applyT_check h1 h2]; exact check_place l
    · by_cases h3 : (readSteps (cut s)).length < (cut s).length
      · rw [applyT_step h1 h2 h3]; simp only; omega
      · by_cases h4 : (doAllE (readSteps (cut s)) (gather (readNodes (cut l))) 0).1 ≠ 0
        · rw [applyT_do h1 h2 h3 h4]
          have := doAll_place (readSteps (cut s)) (gather (readNodes (cut l))) 0
          simp only; omega
        · rw [applyT_ok h1 h2 h3 h4]; simp
/-- What is done of a script is done of its two parts. -/
theorem apply_split {l s t : Str} (h : (applyT l s).2.2 = 0) (hlen : s.length + t.length ≤ 4000) :
    (applyT l (s ++ t)).1 = (applyT (applyT l s).1 t).1 ∧ (applyT l (s ++ t)).2.2 = (applyT (applyT l s).1 t).2.2 ∧
    ((applyT l (s ++ t)).2.2 = 0 ∧ (applyT l (s ++ t)).2.1 = 0 ∧ (applyT (applyT l s).1 t).2.1 = 0 ∨ (applyT l (s ++ t)).2.2 ≠ 0 ∧ (applyT l (s ++ t)).2.1 = (applyT (applyT l s).1 t).2.1 + (cut s).length) := by
  obtain ⟨h1, h2, h3, h4, h5⟩ := apply_good h
  have hv := valid_of_check h2
  have hs := readSteps_ok (cut s)
  have hv1 := valid_all (readSteps (cut s)) _ hv hs
  obtain ⟨hc, hg⟩ := check_text hv1
  have hul : (textT (doAllT (readSteps (cut s)) (gather (readNodes (cut l))))).length ≤ 4000 := by
    have := textTo_len hv1.ok 99; unfold textT; omega
  have hcut : cut (s ++ t) = cut s ++ cut t := cut_app (readSteps_closed _ h3) t
  have hrd : readSteps (cut s ++ cut t) = readSteps (cut s) ++ readSteps (cut t) := readSteps_app _ _ h3
  have hsl : (readSteps (cut s)).length = (cut s).length := by have := readSteps_length (cut s); omega
  obtain ⟨ha, hb⟩ := doAll_app (readSteps (cut s)) (readSteps (cut t)) (gather (readNodes (cut l))) 0 h4
  rw [h5]
  simp only
  generalize hU : textT (doAllT (readSteps (cut s)) (gather (readNodes (cut l)))) = U at *
  have hL : ¬ (4000 < l.length ∨ 4000 < (s ++ t).length) := by rw [List.length_append]; omega
  have hLu : ¬ (4000 < U.length ∨ 4000 < t.length) := by omega
  have hC : ¬ (checkT l).1 ≠ 0 := by simpa using h2
  have hCu : ¬ (checkT U).1 ≠ 0 := by rw [hc]; simp
  have hql := readSteps_length (cut t)
  by_cases q3 : (readSteps (cut t)).length < (cut t).length
  · rw [applyT_step hL hC (by rw [hcut, hrd, List.length_append, List.length_append]; omega), applyT_step hLu hCu q3]
    refine ⟨rfl, rfl, .inr ⟨by simp, ?_⟩⟩
    simp only
    rw [hcut, hrd, List.length_append]; omega
  · have q3' : ¬ (readSteps (cut (s ++ t))).length < (cut (s ++ t)).length := by rw [hcut, hrd, List.length_append, List.length_append]; omega
    have eE : doAllE (readSteps (cut (s ++ t))) (gather (readNodes (cut l))) 0 = doAllE (readSteps (cut t)) (gather (readNodes (cut U))) (readSteps (cut s)).length := by
      rw [hcut, hrd, ha, hg, Nat.zero_add]
    have eT : doAllT (readSteps (cut (s ++ t))) (gather (readNodes (cut l))) = doAllT (readSteps (cut t)) (gather (readNodes (cut U))) := by
      rw [hcut, hrd, hb, hg]
    have hsh := doAll_shift (readSteps (cut t)) (gather (readNodes (cut U))) 0 (readSteps (cut s)).length
    rw [Nat.zero_add] at hsh
    by_cases q4 : (doAllE (readSteps (cut t)) (gather (readNodes (cut U))) 0).1 ≠ 0
    · rw [applyT_do hL hC q3' (by rw [eE, hsh.1]; exact q4), applyT_do hLu hCu q3 q4, eE]
      refine ⟨rfl, hsh.1, .inr ⟨by simp only; rw [hsh.1]; exact q4, ?_⟩⟩
      simp only
      rw [hsh.2.1 q4, hsl]
    · rw [applyT_ok hL hC q3' (by rw [eE, hsh.1]; exact q4), applyT_ok hLu hCu q3 q4, eT]
      exact ⟨rfl, rfl, .inl ⟨rfl, rfl, rfl⟩⟩
end Go.Proofs.YtkahmbpggdneoaaDoor

namespace Go.Proofs.YtkahmbpggdneoaaDoor
open Go.RowKit
set_option maxHeartbeats 1000000 in
theorem kcut_any (s : ByteArray) (w : World) (hs : s.size ≤ 4000) :
    Calls Tryd.prog 11 #[.string s] w fun e w' => ∃ ao cap, e = .returned (.slice ao (cut (sl s)).length cap) ∧ Row w' ao (cut (sl s)).length 1 ((cut (sl s)).map strV) ∧ Below w.heap.size w w' := by
  obtain ⟨i0, hi, hz0, hz1, hz2⟩ := info_parts Tryd.infoStr
  have hsz : (0 : Int) ≤ s.size := by omega
  go_enter Tryd.func11, Tryd.ntmps11
  go_wp2
  go_loopw [3, 4, 5] (fun v st i wr => ∃ k t n : Nat, ∃ xs : List Value, k ≤ s.size ∧ t ≤ k ∧ n ≤ k ∧ i = .int .i64 k ∧ st = .int .i64 t ∧ wr.ownsRow w.heap.size 9 1 v n xs ∧ Below w.heap.size w wr ∧ Hid (CutInv s k t n xs)) (fun _ _ i _ => s.size - (intOf i).toNat)
  case atStart => exact ⟨0, 0, 0, [], Nat.zero_le _, Nat.le_refl _, Nat.le_refl _, rfl, rfl, World.ownsRow_nil _ _ _ _, Below.refl _ _, hide ⟨by simp [cutTo], by simp [cutTo], by simp [cutTo]⟩⟩
  case round =>
    obtain ⟨k, t, n, xs, hk, ht, hn, rfl, rfl, hown, hbel, HI⟩ := hrel
    by_cases hlt : k < s.size
    · by_cases hc : s[k] = 59
      · have HN := hide (cutInv_hit (unhide HI) hlt hc)
        go_wp2_with (first
          | (at_builtin; refine wpList_append_own _ rfl _ _ 27 rfl w.heap.size 9 i0 (.string ByteArray.empty) 1 16 Tryd.underlying27 hi hz0 hz1 hz2 rfl (by decide) _ _ _ rfl (hown.alloc _) ⟨wr.heap.size, 0, none⟩ 1 1 [.string (s.extract t (k + 1))] rfl rfl (news_one _ _) (by simp [Value.oneCell']) (by unfold maxLen; omega) (by omega) (by have := hbel.size; simp; omega) ?_)
          | go_in)
        intro v' w1 hown' hgrow _
        have hb1 := below_app hbel (by have := hbel.size; omega) hown hgrow
        clear hgrow hown hbel
        go_wp2
        go_roundw
        case rel => exact ⟨k + 1, k + 1, n + 1, _, by omega, by omega, by omega, by go_num, by go_num, hown', hb1, HN⟩
        case measure => simp [intOf]; omega
      · have HN := hide (cutInv_miss (unhide HI) hlt hc)
        have hc' : (((s[k]).toNat : Int) == 59) = false := by
          rw [beq_eq_false_iff_ne]; intro h; exact hc (UInt8.toNat_inj.1 (by simpa using (by omega : (s[k]).toNat = 59)))
        have HC := hide hc; clear hc
        go_wp2
        go_roundw
        case rel => exact ⟨k + 1, t, n, _, by omega, by omega, by omega, by go_num, rfl, hown, hbel, HN⟩
        case measure => simp [intOf]; omega
    · have hks : k = s.size := by omega
      subst hks
      by_cases hts : t < s.size
      · have HN := hide (cutInv_last (unhide HI) hts)
        go_wp2_with (first
          | (at_builtin; refine wpList_append_own _ rfl _ _ 27 rfl w.heap.size 9 i0 (.string ByteArray.empty) 1 16 Tryd.underlying27 hi hz0 hz1 hz2 rfl (by decide) _ _ _ rfl (hown.alloc _) ⟨wr.heap.size, 0, none⟩ 1 1 [.string (s.extract t s.size)] rfl rfl (news_one _ _) (by simp [Value.oneCell']) (by unfold maxLen; omega) (by omega) (by have := hbel.size; simp; omega) ?_)
          | go_in)
        intro v' w1 hown' hgrow _
        have hb1 := below_app hbel (by have := hbel.size; omega) hown hgrow
        clear hgrow hown hbel
        go_wp2
        go_ret
        obtain ⟨e1, e2⟩ := unhide HN
        obtain ⟨ao, cap, rfl, hr⟩ := row_of_owns hown'
        rw [e1, e2] at hr
        exact ⟨ao, cap, by rw [← e1]; rfl, hr, hb1⟩
      · have HN := hide (cutInv_end (unhide HI) hts)
        go_wp2
        go_ret
        obtain ⟨e1, e2⟩ := unhide HN
        obtain ⟨ao, cap, rfl, hr⟩ := row_of_owns hown
        rw [e1, e2] at hr
        exact ⟨ao, cap, by rw [← e1]; rfl, hr, hbel⟩

theorem nil_list : (bs ([] : Str)).toList = [] := by rw [tl_sl, sl_bs]
theorem nil_empty : (bs ([] : Str)).toList.isEmpty = true := by rw [nil_list]; rfl
theorem one_list : ((bs [50, 32, 48, 32, 97, 59]).toList == [50, 32, 48, 32, 97, 59]) = true := by rw [tl_sl, sl_bs]; rfl
set_option maxRecDepth 100000 in
set_option maxHeartbeats 4000000 in
theorem parts_law (tr s t : ByteArray) (w : World) (ht : t.size ≤ 140737488355328) :
    Calls Tryd.prog 3 #[.string tr, .string s, .string t] w fun e w' => e = .returned (.bool true) ∧ Below w.heap.size w w' := by
  have HA0 : Hid (∀ W, Calls Tryd.prog 9 #[.string ⟨#[]⟩, .string ⟨#[43, 50, 32, 48, 32, 97, 59]⟩] W fun e w' => e = .returned (.tuple #[.string (bs [50, 32, 48, 32, 97, 59]), .int .i64 0, .int .i64 0]) ∧ Below W.heap.size W w') := by
    apply hide; intro W
    have h := apply_any ⟨#[]⟩ ⟨#[43, 50, 32, 48, 32, 97, 59]⟩ W
    rw [show applyT (sl ⟨#[]⟩) (sl ⟨#[43, 50, 32, 48, 32, 97, 59]⟩) = ([50, 32, 48, 32, 97, 59], 0, 0) from apply_first] at h
    exact h
  have HC := hide (fun W => check_any tr W)
  have HA2 := hide (fun W => apply_any tr s W)
  have HA1 := hide (fun W => apply_any tr ⟨#[]⟩ W)
  rw [show applyT (sl tr) (sl ⟨#[]⟩) = _ from apply_empty (sl tr)] at HA1
  have hone := one_list
  have hnil := nil_list
  have hnile := nil_empty
  have htt : (tr.toList == tr.toList) = true := by simp
  by_cases hc : (checkT (sl tr)).1 = 0
  · rw [if_pos hc, bs_sl] at HA1
    rw [hc, check_zero hc] at HC
    by_cases hs : 4000 < s.size
    · rw [apply_long (by rw [sl_length]; exact hs)] at HA2
      clear hc
      go_enter Tryd.func3, Tryd.ntmps3
      go_wp2_with fail
      refine (unhide HA0 _).mono ?_
      rintro e w1 ⟨rfl, hb1⟩
      have HB1 := hide hb1
      clear hb1
      go_wp2_with fail
      refine (unhide HC _).mono ?_
      rintro e w2 ⟨rfl, hb2⟩
      have HB2 := hide ((unhide HB1).trans (hb2.mono (unhide HB1).size))
      clear hb2
      go_wp2_with fail
      refine (unhide HA1 _).mono ?_
      rintro e w3 ⟨rfl, hb3⟩
      have HB3 := hide ((unhide HB2).trans (hb3.mono (unhide HB2).size))
      clear hb3
      go_wp2_with fail
      refine (unhide HA2 _).mono ?_
      rintro e w4 ⟨rfl, hb4⟩
      have HB4 := hide ((unhide HB3).trans (hb4.mono (unhide HB3).size))
      clear hb4
      go_wp2
      go_ret
      exact ⟨ret_bool (by simp), unhide HB4⟩
    · by_cases h2 : (applyT (sl tr) (sl s)).2.2 = 0
      · obtain ⟨_, _, _, _, g5⟩ := apply_good h2
        have HSP := hide (fun h => apply_split (l := sl tr) (s := sl s) (t := sl t) h2 h)
        have HU : Hid ((applyT (sl tr) (sl s)).1 = textT (doAllT (readSteps (cut (sl s))) (gather (readNodes (cut (sl tr))))) ∧ (applyT (sl tr) (sl s)).2.1 = 0) := by apply hide; rw [g5]; exact ⟨rfl, rfl⟩
        have hadd : ∀ W : World, (Op.stringOp .add s t).run Tryd.prog W = .ok (.string (s ++ t)) W := fun W => run_string_add_sum (P := Tryd.prog) W _ _ (by omega)
        have HA3 := hide (fun W => apply_any tr (s ++ t) W)
        have HA4 := hide (fun W => apply_any (bs (applyT (sl tr) (sl s)).1) t W)
        rw [sl_bs] at HA4
        rw [h2] at HA2
        have hslst : sl (s ++ t) = sl s ++ sl t := sl_append s t
        rw [hslst] at HA3
        have HK := hide (fun W => kcut_any s W (by omega))
        clear hslst g5 HU
        by_cases hst : 4000 < s.size + t.size
        · rw [apply_long (by rw [List.length_append, sl_length, sl_length]; exact hst)] at HA3
          clear hc h2 HSP HA4 HK
          generalize applyT (sl tr) (sl s) = A2 at *
          go_enter Tryd.func3, Tryd.ntmps3
          go_wp2_with fail
          refine (unhide HA0 _).mono ?_
          rintro e w1 ⟨rfl, hb1⟩
          have HB1 := hide hb1
          clear hb1
          go_wp2_with fail
          refine (unhide HC _).mono ?_
          rintro e w2 ⟨rfl, hb2⟩
          have HB2 := hide ((unhide HB1).trans (hb2.mono (unhide HB1).size))
          clear hb2
          go_wp2_with fail
          refine (unhide HA1 _).mono ?_
          rintro e w3 ⟨rfl, hb3⟩
          have HB3 := hide ((unhide HB2).trans (hb3.mono (unhide HB2).size))
          clear hb3
          go_wp2_with fail
          refine (unhide HA2 _).mono ?_
          rintro e w4 ⟨rfl, hb4⟩
          have HB4 := hide ((unhide HB3).trans (hb4.mono (unhide HB3).size))
          clear hb4
          go_wp2_with fail
          refine (unhide HA3 _).mono ?_
          rintro e w5 ⟨rfl, hb5⟩
          have HB5 := hide ((unhide HB4).trans (hb5.mono (unhide HB4).size))
          clear hb5
          go_wp2
          go_ret
          exact ⟨ret_bool (by simp), unhide HB5⟩
        · have hsp := unhide HSP (by rw [sl_length, sl_length]; omega)
          clear HSP hc h2
          obtain ⟨p1, p2, p3⟩ := hsp
          have hpl := apply_place (applyT (sl tr) (sl s)).1 (sl t)
          have hcl : (cut (sl s)).length ≤ 4000 := by have := cut_length_le (sl s); rw [sl_length] at this; omega
          generalize applyT (sl tr) (sl s) = A2 at *
          generalize applyT (sl tr) (sl s ++ sl t) = A3 at *
          generalize applyT A2.1 (sl t) = A4 at *
          obtain ⟨v, i, f⟩ := A3
          obtain ⟨x, j, g⟩ := A4
          simp only at p1 p2 p3 HA3 HA4 hpl
          subst p1 p2
          generalize (cut (sl s)).length = cl at *
          have hvv : ((bs v).toList == (bs v).toList) = true := by simp
          rcases p3 with ⟨rfl, rfl, rfl⟩ | ⟨p4, p5⟩
          · go_enter Tryd.func3, Tryd.ntmps3
            go_wp2_with fail
            refine (unhide HA0 _).mono ?_
            rintro e w1 ⟨rfl, hb1⟩
            have HB1 := hide hb1
            clear hb1
            go_wp2_with fail
            refine (unhide HC _).mono ?_
            rintro e w2 ⟨rfl, hb2⟩
            have HB2 := hide ((unhide HB1).trans (hb2.mono (unhide HB1).size))
            clear hb2
            go_wp2_with fail
            refine (unhide HA1 _).mono ?_
            rintro e w3 ⟨rfl, hb3⟩
            have HB3 := hide ((unhide HB2).trans (hb3.mono (unhide HB2).size))
            clear hb3
            go_wp2_with fail
            refine (unhide HA2 _).mono ?_
            rintro e w4 ⟨rfl, hb4⟩
            have HB4 := hide ((unhide HB3).trans (hb4.mono (unhide HB3).size))
            clear hb4
            go_wp2_with fail
            refine (unhide HA3 _).mono ?_
            rintro e w5 ⟨rfl, hb5⟩
            have HB5 := hide ((unhide HB4).trans (hb5.mono (unhide HB4).size))
            clear hb5
            go_wp2_with fail
            refine (unhide HA4 _).mono ?_
            rintro e w6 ⟨rfl, hb6⟩
            have HB6 := hide ((unhide HB5).trans (hb6.mono (unhide HB5).size))
            clear hb6
            go_wp2_with fail
            refine (unhide HK _).mono ?_
            rintro e w7 ⟨ao, cap, rfl, hrow, hb7⟩
            have HB7 := hide ((unhide HB6).trans (hb7.mono (unhide HB6).size))
            clear hb7 hrow
            go_wp2
            go_ret
            exact ⟨ret_bool (by simp), unhide HB7⟩
          · have hf0 : (f == 0) = false := by simpa using p4
            have hf1 : (f != 0) = true := by simpa using p4
            have hij : ((i : Int) == (j : Int) + (cl : Int)) = true := by rw [beq_iff_eq]; omega
            clear p4 p5
            go_enter Tryd.func3, Tryd.ntmps3
            go_wp2_with fail
            refine (unhide HA0 _).mono ?_
            rintro e w1 ⟨rfl, hb1⟩
            have HB1 := hide hb1
            clear hb1
            go_wp2_with fail
            refine (unhide HC _).mono ?_
            rintro e w2 ⟨rfl, hb2⟩
            have HB2 := hide ((unhide HB1).trans (hb2.mono (unhide HB1).size))
            clear hb2
            go_wp2_with fail
            refine (unhide HA1 _).mono ?_
            rintro e w3 ⟨rfl, hb3⟩
            have HB3 := hide ((unhide HB2).trans (hb3.mono (unhide HB2).size))
            clear hb3
            go_wp2_with fail
            refine (unhide HA2 _).mono ?_
            rintro e w4 ⟨rfl, hb4⟩
            have HB4 := hide ((unhide HB3).trans (hb4.mono (unhide HB3).size))
            clear hb4
            go_wp2_with fail
            refine (unhide HA3 _).mono ?_
            rintro e w5 ⟨rfl, hb5⟩
            have HB5 := hide ((unhide HB4).trans (hb5.mono (unhide HB4).size))
            clear hb5
            go_wp2_with fail
            refine (unhide HA4 _).mono ?_
            rintro e w6 ⟨rfl, hb6⟩
            have HB6 := hide ((unhide HB5).trans (hb6.mono (unhide HB5).size))
            clear hb6
            go_wp2_with fail
            refine (unhide HK _).mono ?_
            rintro e w7 ⟨ao, cap, rfl, hrow, hb7⟩
            have HB7 := hide ((unhide HB6).trans (hb7.mono (unhide HB6).size))
            clear hb7 hrow
            go_wp2
            go_ret
            exact ⟨ret_bool (by simp), unhide HB7⟩
      · have hb := apply_bad h2
        have hb1 := hb.1
        rw [hb1] at HA2
        have h2n : ((applyT (sl tr) (sl s)).2.2 != 0) = true := by rw [bne_iff_ne]; exact h2
        clear hb hb1 hc h2
        generalize applyT (sl tr) (sl s) = A2 at *
        go_enter Tryd.func3, Tryd.ntmps3
        go_wp2_with fail
        refine (unhide HA0 _).mono ?_
        rintro e w1 ⟨rfl, hb1⟩
        have HB1 := hide hb1
        clear hb1
        go_wp2_with fail
        refine (unhide HC _).mono ?_
        rintro e w2 ⟨rfl, hb2⟩
        have HB2 := hide ((unhide HB1).trans (hb2.mono (unhide HB1).size))
        clear hb2
        go_wp2_with fail
        refine (unhide HA1 _).mono ?_
        rintro e w3 ⟨rfl, hb3⟩
        have HB3 := hide ((unhide HB2).trans (hb3.mono (unhide HB2).size))
        clear hb3
        go_wp2_with fail
        refine (unhide HA2 _).mono ?_
        rintro e w4 ⟨rfl, hb4⟩
        have HB4 := hide ((unhide HB3).trans (hb4.mono (unhide HB3).size))
        clear hb4
        go_wp2
        go_ret
        exact ⟨ret_bool (by simp), unhide HB4⟩
  · rw [if_neg hc] at HA1
    have hcn : ((checkT (sl tr)).1 != 0) = true := by rw [bne_iff_ne]; exact hc
    have hce : ((checkT (sl tr)).1 == 0) = false := by rw [beq_eq_false_iff_ne]; exact hc
    by_cases hs : 4000 < s.size
    · rw [apply_long (by rw [sl_length]; exact hs)] at HA2
      clear hc
      generalize checkT (sl tr) = c at *
      go_enter Tryd.func3, Tryd.ntmps3
      go_wp2_with fail
      refine (unhide HA0 _).mono ?_
      rintro e w1 ⟨rfl, hb1⟩
      have HB1 := hide hb1
      clear hb1
      go_wp2_with fail
      refine (unhide HC _).mono ?_
      rintro e w2 ⟨rfl, hb2⟩
      have HB2 := hide ((unhide HB1).trans (hb2.mono (unhide HB1).size))
      clear hb2
      go_wp2_with fail
      refine (unhide HA1 _).mono ?_
      rintro e w3 ⟨rfl, hb3⟩
      have HB3 := hide ((unhide HB2).trans (hb3.mono (unhide HB2).size))
      clear hb3
      go_wp2_with fail
      refine (unhide HA2 _).mono ?_
      rintro e w4 ⟨rfl, hb4⟩
      have HB4 := hide ((unhide HB3).trans (hb4.mono (unhide HB3).size))
      clear hb4
      go_wp2
      go_ret
      exact ⟨ret_bool (by simp), unhide HB4⟩
    · have h2 : (applyT (sl tr) (sl s)).2.2 ≠ 0 := fun h => hc (apply_good h).2.1
      have hb := apply_bad h2
      have hb1 := hb.1
      have hb2 := hb.2 (by rw [sl_length]; omega) hc
      rw [hb1, hb2] at HA2
      clear hb hb1 hb2 hc h2
      generalize checkT (sl tr) = c at *
      generalize applyT (sl tr) (sl s) = A2 at *
      go_enter Tryd.func3, Tryd.ntmps3
      go_wp2_with fail
      refine (unhide HA0 _).mono ?_
      rintro e w1 ⟨rfl, hb1⟩
      have HB1 := hide hb1
      clear hb1
      go_wp2_with fail
      refine (unhide HC _).mono ?_
      rintro e w2 ⟨rfl, hb2⟩
      have HB2 := hide ((unhide HB1).trans (hb2.mono (unhide HB1).size))
      clear hb2
      go_wp2_with fail
      refine (unhide HA1 _).mono ?_
      rintro e w3 ⟨rfl, hb3⟩
      have HB3 := hide ((unhide HB2).trans (hb3.mono (unhide HB2).size))
      clear hb3
      go_wp2_with fail
      refine (unhide HA2 _).mono ?_
      rintro e w4 ⟨rfl, hb4⟩
      have HB4 := hide ((unhide HB3).trans (hb4.mono (unhide HB3).size))
      clear hb4
      go_wp2
      go_ret
      exact ⟨ret_bool (by simp), unhide HB4⟩
end Go.Proofs.YtkahmbpggdneoaaDoor
