import Derived.Test.YtkahmbpggdneoaaDoorKPure3
import Derived.Test.YtkahmbpggdneoaaDoorW16
namespace Go.Proofs.YtkahmbpggdneoaaDoor
open Go.RowKit
theorem apply_first : applyT [] [43, 50, 32, 48, 32, 97, 59] = ([50, 32, 48, 32, 97, 59], 0, 0) := by decide +kernel
theorem apply_empty (l : Str) : applyT l [] = if (checkT l).1 = 0 then (l, 0, 0) else ([], (checkT l).2, (checkT l).1) := by
  by_cases h : (checkT l).1 = 0
  · rw [if_pos h]
    obtain ⟨_, h1, _, _, _⟩ := check_parts h
    have e := applyT_ok (l := l) (sc := []) (by simp; exact h1) (by simpa using h) (show ¬ (readSteps (cut [])).length < (cut []).length by decide) (fun hh => hh rfl)
    rw [e]
    show (textT (gather (readNodes (cut l))), 0, 0) = _
    rw [text_check h]
  · rw [if_neg h]
    unfold applyT
    by_cases h1 : 4000 < l.length ∨ 4000 < ([] : Str).length
    · rw [if_pos h1]
      have h2 : 4000 < l.length := by simpa using h1
      have : checkT l = (1, 0) := by unfold checkT; rw [if_pos h2]
      rw [this]
    · rw [if_neg h1, if_pos h]
theorem check_zero {l : Str} (h : (checkT l).1 = 0) : (checkT l).2 = 0 := by rw [(check_parts h).1]
theorem apply_long {l s : Str} (h : 4000 < s.length) : applyT l s = ([], 0, 1) := applyT_long (.inr h)
theorem apply_bad {l s : Str} (h : (applyT l s).2.2 ≠ 0) : (applyT l s).1 = [] ∧ (s.length ≤ 4000 → (checkT l).1 ≠ 0 → (applyT l s).2.2 = (checkT l).1) := by
  by_cases h1 : 4000 < l.length ∨ 4000 < s.length
  · rw [applyT_long h1]
    refine ⟨rfl, fun hs _ => ?_⟩
    have h2 : 4000 < l.length := by omega
    have : checkT l = (1, 0) := by unfold checkT; rw [if_pos h2]
    rw [this]
  · by_cases h2 : (checkT l).1 ≠ 0
    · rw [applyT_check h1 h2]; exact ⟨rfl, fun _ _ => rfl⟩
    · by_cases h3 : (readSteps (cut s)).length < (cut s).length
      · rw [applyT_step h1 h2 h3]; exact ⟨rfl, fun _ hh => absurd hh h2⟩
      · by_cases h4 : (doAllE (readSteps (cut s)) (gather (readNodes (cut l))) 0).1 ≠ 0
        · rw [applyT_do h1 h2 h3 h4]; exact ⟨rfl, fun _ hh => absurd hh h2⟩
        · rw [applyT_ok h1 h2 h3 h4] at h; exact absurd rfl h
theorem apply_good {l s : Str} (h : (applyT l s).2.2 = 0) : ¬ (4000 < l.length ∨ 4000 < s.length) ∧ (checkT l).1 = 0 ∧ ¬ (readSteps (cut s)).length < (cut s).length ∧ (doAllE (readSteps (cut s)) (gather (readNodes (cut l))) 0).1 = 0 ∧ applyT l s = (textT (doAllT (readSteps (cut s)) (gather (readNodes (cut l)))), 0, 0) := by
  by_cases h1 : 4000 < l.length ∨ 4000 < s.length
  · rw [applyT_long h1] at h; simp at h
  · by_cases h2 : (checkT l).1 ≠ 0
    · rw [applyT_check h1 h2] at h; exact absurd h h2
    · by_cases h3 : (readSteps (cut s)).length < (cut s).length
      · rw [applyT_step h1 h2 h3] at h; simp at h
      · by_cases h4 : (doAllE (readSteps (cut s)) (gather (readNodes (cut l))) 0).1 ≠ 0
        · rw [applyT_do h1 h2 h3 h4] at h; exact absurd h h4
        · exact ⟨h1, Classical.not_not.1 h2, h3, Classical.not_not.1 h4, applyT_ok h1 h2 h3 h4⟩
theorem doAll_app : ∀ (ss ts : List St) (t : Tr) (i : Nat), (doAllE ss t i).1 = 0 → doAllE (ss ++ ts) t i = doAllE ts (doAllT ss t) (i + ss.length) ∧ doAllT (ss ++ ts) t = doAllT ts (doAllT ss t) := by
  intro ss
  induction ss with
  | nil => intro ts t i _; exact ⟨rfl, rfl⟩
  | cons s ss ih =>
    intro ts t i h
    by_cases hs : stepE t s = 0
    · rw [doAllE, if_pos hs] at h
      obtain ⟨h1, h2⟩ := ih ts (stepT t s) (i + 1) h
      have e : doAllT (s :: ss) t = doAllT ss (stepT t s) := by rw [doAllT, if_pos hs]
      rw [e, ← h2]
      refine ⟨?_, by rw [List.cons_append, doAllT, if_pos hs]⟩
      rw [List.cons_append, doAllE, if_pos hs, h1, show i + (s :: ss).length = i + 1 + ss.length by simp; omega]
    · rw [doAllE, if_neg hs] at h; exact absurd h hs
theorem doAll_shift : ∀ (ts : List St) (t : Tr) (i k : Nat), (doAllE ts t (i + k)).1 = (doAllE ts t i).1 ∧ ((doAllE ts t i).1 ≠ 0 → (doAllE ts t (i + k)).2 = (doAllE ts t i).2 + k) ∧ ((doAllE ts t i).1 = 0 → (doAllE ts t i).2 = 0) := by
  intro ts
  induction ts with
  | nil => intro t i k; simp [doAllE]
  | cons s ts ih =>
    intro t i k
    by_cases hs : stepE t s = 0
    · simp only [doAllE, if_pos hs]
      have := ih (stepT t s) (i + 1) k
      rw [show i + k + 1 = i + 1 + k by omega]
      exact this
    · rw [show doAllE (s :: ts) t (i + k) = (stepE t s, i + k) by rw [doAllE, if_neg hs], show doAllE (s :: ts) t i = (stepE t s, i) by rw [doAllE, if_neg hs]]
      exact ⟨rfl, fun _ => rfl, fun h => absurd h hs⟩
theorem readSteps_closed : ∀ (rs : List Str), ¬ (readSteps rs).length < rs.length → ∀ r ∈ rs, bodyB r = true := by
  intro rs
  induction rs with
  | nil => intro _ r hr; simp at hr
  | cons a rs ih =>
    intro h r hr
    unfold readSteps at h
    cases ha : readStep a with
    | none => rw [ha] at h; simp at h
    | some s =>
      rw [ha] at h
      simp only [List.length_cons] at h
      rcases List.mem_cons.1 hr with rfl | hr
      · unfold readStep at ha
        split at ha
        · assumption
        · cases ha
      · exact ih (by omega) r hr
theorem readSteps_app : ∀ (rs qs : List Str), ¬ (readSteps rs).length < rs.length → readSteps (rs ++ qs) = readSteps rs ++ readSteps qs := by
  intro rs
  induction rs with
  | nil => intro qs _; rfl
  | cons a rs ih =>
    intro qs h
    unfold readSteps at h
    cases ha : readStep a with
    | none => rw [ha] at h; simp at h
    | some s =>
      rw [ha] at h
      simp only [List.length_cons] at h
      rw [List.cons_append, readSteps, readSteps, ha]
      simp only [List.cons_append]
      rw [ih qs (by omega)]
theorem check_place (l : Str) : (checkT l).2 ≤ 4000 := by
  unfold checkT
  split
  · simp
  · rename_i h
    have h1 := cut_length_le l
    have h2 := readNodes_length (cut l)
    simp only []
    split
    · simp only; omega
    · split
      · have := scan_le (unordered (readNodes (cut l))) 1 (readNodes (cut l)).length
        simp only; omega
      · generalize readNodes (cut l) = ns at *
        have s1 := scan_le (orphan (gather ns) ns) 0 ns.length
        have s2 := scan_le (looped (gather ns) ns) 0 ns.length
        have s3 := scan_le (twice ns) 0 ns.length
        unfold misplaced
        split
        · simp only; omega
        · split
          · simp only; omega
          · split
            · simp only; omega
            · simp
theorem doAll_place : ∀ (ts : List St) (t : Tr) (i : Nat), (doAllE ts t i).2 ≤ i + ts.length := by
  intro ts
  induction ts with
  | nil => intro t i; simp [doAllE]
  | cons s ts ih =>
    intro t i
    rw [doAllE]
    split
    · have := ih (stepT t s) (i + 1); simp; omega
    · simp
theorem apply_place (l s : Str) : (applyT l s).2.1 ≤ 4000 := by
  by_cases h1 : 4000 < l.length ∨ 4000 < s.length
  · rw [applyT_long h1]; simp
  · have c1 := cut_length_le s
    have c2 := readSteps_length (cut s)
    by_cases h2 : (checkT l).1 ≠ 0
    · rw [applyT_check h1 h2]; exact check_place l
    · by_cases h3 : (readSteps (cut s)).length < (cut s).length
      · rw [applyT_step h1 h2 h3]; simp only; omega
      · by_cases h4 : (doAllE (readSteps (cut s)) (gather (readNodes (cut l))) 0).1 ≠ 0
        · rw [applyT_do h1 h2 h3 h4]
          have := doAll_place (readSteps (cut s)) (gather (readNodes (cut l))) 0
          simp only; omega
        · rw [applyT_ok h1 h2 h3 h4]; simp
/-- What is done of a script is done of its two parts. -/
theorem apply_split {l s t : Str} (h : (applyT l s).2.2 = 0) (hlen : s.length + t.length ≤ 4000) :
    (applyT l (s ++ t)).1 = (applyT (applyT l s).1 t).1 ∧ (applyT l (s ++ t)).2.2 = (applyT (applyT l s).1 t).2.2 ∧
    ((applyT l (s ++ t)).2.2 = 0 ∧ (applyT l (s ++ t)).2.1 = 0 ∧ (applyT (applyT l s).1 t).2.1 = 0 ∨ (applyT l (s ++ t)).2.2 ≠ 0 ∧ (applyT l (s ++ t)).2.1 = (applyT (applyT l s).1 t).2.1 + (cut s).length) := by
  obtain ⟨h1, h2, h3, h4, h5⟩ := apply_good h
  have hv := valid_of_check h2
  have hs := readSteps_ok (cut s)
  have hv1 := valid_all (readSteps (cut s)) _ hv hs
  obtain ⟨hc, hg⟩ := check_text hv1
  have hul : (textT (doAllT (readSteps (cut s)) (gather (readNodes (cut l))))).length ≤ 4000 := by
    have := textTo_len hv1.ok 99; unfold textT; omega
  have hcut : cut (s ++ t) = cut s ++ cut t := cut_app (readSteps_closed _ h3) t
  have hrd : readSteps (cut s ++ cut t) = readSteps (cut s) ++ readSteps (cut t) := readSteps_app _ _ h3
  have hsl : (readSteps (cut s)).length = (cut s).length := by have := readSteps_length (cut s); omega
  obtain ⟨ha, hb⟩ := doAll_app (readSteps (cut s)) (readSteps (cut t)) (gather (readNodes (cut l))) 0 h4
  rw [h5]
  simp only
  generalize hU : textT (doAllT (readSteps (cut s)) (gather (readNodes (cut l)))) = U at *
  have hL : ¬ (4000 < l.length ∨ 4000 < (s ++ t).length) := by rw [List.length_append]; omega
  have hLu : ¬ (4000 < U.length ∨ 4000 < t.length) := by omega
  have hC : ¬ (checkT l).1 ≠ 0 := by simpa using h2
  have hCu : ¬ (checkT U).1 ≠ 0 := by rw [hc]; simp
  have hql := readSteps_length (cut t)
  by_cases q3 : (readSteps (cut t)).length < (cut t).length
  · rw [applyT_step hL hC (by rw [hcut, hrd, List.length_append, List.length_append]; omega), applyT_step hLu hCu q3]
    refine ⟨rfl, rfl, .inr ⟨by simp, ?_⟩⟩
    simp only
    rw [hcut, hrd, List.length_append]; omega
  · have q3' : ¬ (readSteps (cut (s ++ t))).length < (cut (s ++ t)).length := by rw [hcut, hrd, List.length_append, List.length_append]; omega
    have eE : doAllE (readSteps (cut (s ++ t))) (gather (readNodes (cut l))) 0 = doAllE (readSteps (cut t)) (gather (readNodes (cut U))) (readSteps (cut s)).length := by
      rw [hcut, hrd, ha, hg, Nat.zero_add]
    have eT : doAllT (readSteps (cut (s ++ t))) (gather (readNodes (cut l))) = doAllT (readSteps (cut t)) (gather (readNodes (cut U))) := by
      rw [hcut, hrd, hb, hg]
    have hsh := doAll_shift (readSteps (cut t)) (gather (readNodes (cut U))) 0 (readSteps (cut s)).length
    rw [Nat.zero_add] at hsh
    by_cases q4 : (doAllE (readSteps (cut t)) (gather (readNodes (cut U))) 0).1 ≠ 0
    · rw [applyT_do hL hC q3' (by rw [eE, hsh.1]; exact q4), applyT_do hLu hCu q3 q4, eE]
      refine ⟨rfl, hsh.1, .inr ⟨by simp only; rw [hsh.1]; exact q4, ?_⟩⟩
      simp only
      rw [hsh.2.1 q4, hsl]
    · rw [applyT_ok hL hC q3' (by rw [eE, hsh.1]; exact q4), applyT_ok hLu hCu q3 q4, eT]
      exact ⟨rfl, rfl, .inl ⟨rfl, rfl, rfl⟩⟩
end Go.Proofs.YtkahmbpggdneoaaDoor
