import Derived.Test.YtdcjimlhaklhfabGreatDoorHm3
import Derived.Test.YtdcjimlhaklhfabGreatDoorHm5
import Derived.Test.YtdcjimlhaklhfabGreatDoorHm1
import Derived.Test.YtdcjimlhaklhfabGreatDoorHm7
import Derived.Test.YtdcjimlhaklhfabGreatDoorHm9
import Derived.BigQuiet
namespace Go.Proofs.YtdcjimlhaklhfabGreatDoor
open Go.RowKit
theorem apply_first : applyT [] [43, 50, 32, 48, 32, 97, 59] = ([50, 32, 48, 32, 97, 59], 0, 0) := by decide +kernel
theorem apply_empty (l : Str) : applyT l [] = if (checkT l).1 = 0 then (l, 0, 0) else ([], (checkT l).2, (checkT l).1) := by
  by_cases h : (checkT l).1 = 0
  · rw [if_pos h]
    obtain ⟨_, h1, _, _, _⟩ := check_parts h
    have e := applyT_ok (l := l) (sc := []) (by simp; exact h1) (by simpa using h) (show ¬ (readSteps (cut [])).length < (cut []).length by decide) (fun hh => hh rfl)
    rw [e]
    show (textT (gather (readNodes (cut l))), 0, 0) = _
    rw [text_check h]
  · rw [if_neg h]
    unfold applyT
    by_cases h1 : 4000 < l.length ∨ 4000 < ([] : Str).length
    · rw [if_pos h1]
      have h2 : 4000 < l.length := by simpa using h1
      have : checkT l = (1, 0) := by unfold checkT; rw [if_pos h2]
      rw [this]
    · rw [if_neg h1, if_pos h]
theorem check_zero {l : Str} (h : (checkT l).1 = 0) : (checkT l).2 = 0 := by rw [(check_parts h).1]
theorem apply_long {l s : Str} (h : 4000 < s.length) : applyT l s = ([], 0, 1) := applyT_long (.inr h)
theorem apply_bad {l s : Str} (h : (applyT l s).2.2 ≠ 0) : (applyT l s).1 = [] ∧ (s.length ≤ 4000 → (checkT l).1 ≠ 0 → (applyT l s).2.2 = (checkT l).1) := by
  by_cases h1 : 4000 < l.length ∨ 4000 < s.length
  · rw [applyT_long h1]
    refine ⟨rfl, fun hs _ => ?_⟩
    have h2 : 4000 < l.length := by omega
    have : checkT l = (1, 0) := by unfold checkT; rw [if_pos h2]
    rw [this]
  · by_cases h2 : (checkT l).1 ≠ 0
    · rw [applyT_check h1 h2]; exact ⟨rfl, fun _ _ => rfl⟩
    · by_cases h3 : (readSteps (cut s)).length < (cut s).length
      · rw [applyT_step h1 h2 h3]; exact ⟨rfl, fun _ hh => absurd hh h2⟩
      · by_cases h4 : (doAllE (readSteps (cut s)) (gather (readNodes (cut l))) 0).1 ≠ 0
        · rw [applyT_do h1 h2 h3 h4]; exact ⟨rfl, fun _ hh => absurd hh h2⟩
        · rw [applyT_ok h1 h2 h3 h4] at h; exact absurd rfl h
theorem apply_good {l s : Str} (h : (applyT l s).2.2 = 0) : ¬ (4000 < l.length ∨ 4000 < s.length) ∧ (checkT l).1 = 0 ∧ ¬ (readSteps (cut s)).length < (cut s).length ∧ (doAllE (readSteps (cut s)) (gather (readNodes (cut l))) 0).1 = 0 ∧ applyT l s = (textT (doAllT (readSteps (cut s)) (gather (readNodes (cut l)))), 0, 0) := by
  by_cases h1 : 4000 < l.length ∨ 4000 < s.length
  · rw [applyT_long h1] at h; simp at h
  · by_cases h2 : (checkT l).1 ≠ 0
    · rw [applyT_check h1 h2] at h; exact absurd h h2
    · by_cases h3 : (readSteps (cut s)).length < (cut s).length
      · rw [applyT_step h1 h2 h3] at h; simp at h
      · by_cases h4 : (doAllE (readSteps (cut s)) (gather (readNodes (cut l))) 0).1 ≠ 0
        · rw [applyT_do h1 h2 h3 h4] at h; exact absurd h h4
        · exact ⟨h1, Classical.not_not.1 h2, h3, Classical.not_not.1 h4, applyT_ok h1 h2 h3 h4⟩
theorem doAll_app : ∀ (ss ts : List St) (t : Tr) (i : Nat), (doAllE ss t i).1 = 0 → doAllE (ss ++ ts) t i = doAllE ts (doAllT ss t) (i + ss.length) ∧ doAllT (ss ++ ts) t = doAllT ts (doAllT ss t) := by
  intro ss
  induction ss with
  | nil => intro ts t i _; exact ⟨rfl, rfl⟩
  | cons s ss ih =>
    intro ts t i h
    by_cases hs : stepE t s = 0
    · rw [doAllE, if_pos hs] at h
      obtain ⟨h1, h2⟩ := ih ts (stepT t s) (i + 1) h
      have e : doAllT (s :: ss) t = doAllT ss (stepT t s) := by rw [doAllT, if_pos hs]
      rw [e, ← h2]
      refine ⟨?_, by rw [List.cons_append, doAllT, if_pos hs]⟩
      rw [List.cons_append, doAllE, if_pos hs, h1, show i + (s :: ss).length = i + 1 + ss.length by simp; omega]
    · rw [doAllE, if_neg hs] at h; exact absurd h hs
theorem doAll_shift : ∀ (ts : List St) (t : Tr) (i k : Nat), (doAllE ts t (i + k)).1 = (doAllE ts t i).1 ∧ ((doAllE ts t i).1 ≠ 0 → (doAllE ts t (i + k)).2 = (doAllE ts t i).2 + k) ∧ ((doAllE ts t i).1 = 0 → (doAllE ts t i).2 = 0) := by
  intro ts
  induction ts with
  | nil => intro t i k; simp [doAllE]
  | cons s ts ih =>
    intro t i k
    by_cases hs : stepE t s = 0
    · simp only [doAllE, if_pos hs]
      have := ih (stepT t s) (i + 1) k
      rw [show i + k + 1 = i + 1 + k by omega]
      exact this
    · rw [show doAllE (s :: ts) t (i + k) = (stepE t s, i + k) by rw [doAllE, if_neg hs], show doAllE (s :: ts) t i = (stepE t s, i) by rw [doAllE, if_neg hs]]
      exact ⟨rfl, fun _ => rfl, fun h => absurd h hs⟩
theorem readSteps_closed : ∀ (rs : List Str), ¬ (readSteps rs).length < rs.length → ∀ r ∈ rs, bodyB r = true := by
  intro rs
  induction rs with
  | nil => intro _ r hr; simp at hr
  | cons a rs ih =>
    intro h r hr
    unfold readSteps at h
    cases ha : readStep a with
    | none => rw [ha] at h; simp at h
    | some s =>
      rw [ha] at h
      simp only [List.length_cons] at h
      rcases List.mem_cons.1 hr with rfl | hr
      · unfold readStep at ha
        split at ha
        · assumption
        · cases ha
      · exact ih (by omega) r hr
theorem readSteps_app : ∀ (rs qs : List Str), ¬ (readSteps rs).length < rs.length → readSteps (rs ++ qs) = readSteps rs ++ readSteps qs := by
  intro rs
  induction rs with
  | nil => intro qs _; rfl
  | cons a rs ih =>
    intro qs h
    unfold readSteps at h
    cases ha : readStep a with
    | none => rw [ha] at h; simp at h
    | some s =>
      rw [ha] at h
      simp only [List.length_cons] at h
      rw [List.cons_append, readSteps, readSteps, ha]
      simp only [List.cons_append]
      rw [ih qs (by omega)]
theorem check_place (l : Str) : (checkT l).2 ≤ 4000 := by
  unfold checkT
  split
  · simp
  · rename_i h
    have h1 := cut_length_le l
    have h2 := readNodes_length (cut l)
    simp only []
    split
    · simp only; omega
    · split
      · have := scan_le (unordered (readNodes (cut l))) 1 (readNodes (cut l)).length
        simp only; omega
      · generalize readNodes (cut l) = ns at *
        have s1 := scan_le (orphan (gather ns) ns) 0 ns.length
        have s2 := scan_le (looped (gather ns) ns) 0 ns.length
        have s3 := scan_le (twice ns) 0 ns.length
        unfold misplaced
        split
        · simp only; omega
        · split
          · simp only; omega
          · split
            · simp only; omega
            · simp
theorem doAll_place : ∀ (ts : List St) (t : Tr) (i : Nat), (doAllE ts t i).2 ≤ i + ts.length := by
  intro ts
  induction ts with
  | nil => intro t i; simp [doAllE]
  | cons s ts ih =>
    intro t i
    rw [doAllE]
    split
    · have := ih (stepT t s) (i + 1); simp; omega
    · simp
theorem apply_place (l s : Str) : (applyT l s).2.1 ≤ 4000 := by
  by_cases h1 : 4000 < l.length ∨ 4000 < s.length
  · rw [applyT_long h1]; simp
  · have c1 := cut_length_le s
    have c2 := readSteps_length (cut s)
    by_cases h2 : (checkT l).1 ≠ 0
    · rw [applyT_check h1 h2]; exact check_place l
    · by_cases h3 : (readSteps (cut s)).length < (cut s).length
      · rw [applyT_step h1 h2 h3]; simp only; omega
      · by_cases h4 : (doAllE (readSteps (cut s)) (gather (readNodes (cut l))) 0).1 ≠ 0
        · rw [applyT_do h1 h2 h3 h4]
          have := doAll_place (readSteps (cut s)) (gather (readNodes (cut l))) 0
          simp only; omega
        · rw [applyT_ok h1 h2 h3 h4]; simp
/-- What is done of a script is done of its two parts. -/
theorem apply_split {l s t : Str} (h : (applyT l s).2.2 = 0) (hlen : s.length + t.length ≤ 4000) :
    (applyT l (s ++ t)).1 = (applyT (applyT l s).1 t).1 ∧ (applyT l (s ++ t)).2.2 = (applyT (applyT l s).1 t).2.2 ∧
    ((applyT l (s ++ t)).2.2 = 0 ∧ (applyT l (s ++ t)).2.1 = 0 ∧ (applyT (applyT l s).1 t).2.1 = 0 ∨ (applyT l (s ++ t)).2.2 ≠ 0 ∧ (applyT l (s ++ t)).2.1 = (applyT (applyT l s).1 t).2.1 + (cut s).length) := by
  obtain ⟨h1, h2, h3, h4, h5⟩ := apply_good h
  have hv := valid_of_check h2
  have hs := readSteps_ok (cut s)
  have hv1 := valid_all (readSteps (cut s)) _ hv hs
  obtain ⟨hc, hg⟩ := check_text hv1
  have hul : (textT (doAllT (readSteps (cut s)) (gather (readNodes (cut l))))).length ≤ 4000 := by
    have := textTo_len hv1.ok 99; unfold textT; omega
  have hcut : cut (s ++ t) = cut s ++ cut t := cut_app (readSteps_closed _ h3) t
  have hrd : readSteps (cut s ++ cut t) = readSteps (cut s) ++ readSteps (cut t) := readSteps_app _ _ h3
  have hsl : (readSteps (cut s)).length = (cut s).length := by have := readSteps_length (cut s); omega
  obtain ⟨ha, hb⟩ := doAll_app (readSteps (cut s)) (readSteps (cut t)) (gather (readNodes (cut l))) 0 h4
  rw [h5]
  simp only
  generalize hU : textT (doAllT (readSteps (cut s)) (gather (readNodes (cut l)))) = U at *
  have hL : ¬ (4000 < l.length ∨ 4000 < (s ++ t).length) := by rw [List.length_append]; omega
  have hLu : ¬ (4000 < U.length ∨ 4000 < t.length) := by omega
  have hC : ¬ (checkT l).1 ≠ 0 := by simpa using h2
  have hCu : ¬ (checkT U).1 ≠ 0 := by rw [hc]; simp
  have hql := readSteps_length (cut t)
  by_cases q3 : (readSteps (cut t)).length < (cut t).length
  · rw [applyT_step hL hC (by rw [hcut, hrd, List.length_append, List.length_append]; omega), applyT_step hLu hCu q3]
    refine ⟨rfl, rfl, .inr ⟨by simp, ?_⟩⟩
    simp only
    rw [hcut, hrd, List.length_append]; omega
  · have q3' : ¬ (readSteps (cut (s ++ t))).length < (cut (s ++ t)).length := by rw [hcut, hrd, List.length_append, List.length_append]; omega
    have eE : doAllE (readSteps (cut (s ++ t))) (gather (readNodes (cut l))) 0 = doAllE (readSteps (cut t)) (gather (readNodes (cut U))) (readSteps (cut s)).length := by
      rw [hcut, hrd, ha, hg, Nat.zero_add]
    have eT : doAllT (readSteps (cut (s ++ t))) (gather (readNodes (cut l))) = doAllT (readSteps (cut t)) (gather (readNodes (cut U))) := by
      rw [hcut, hrd, hb, hg]
    have hsh := doAll_shift (readSteps (cut t)) (gather (readNodes (cut U))) 0 (readSteps (cut s)).length
    rw [Nat.zero_add] at hsh
    by_cases q4 : (doAllE (readSteps (cut t)) (gather (readNodes (cut U))) 0).1 ≠ 0
    · rw [applyT_do hL hC q3' (by rw [eE, hsh.1]; exact q4), applyT_do hLu hCu q3 q4, eE]
      refine ⟨rfl, hsh.1, .inr ⟨by simp only; rw [hsh.1]; exact q4, ?_⟩⟩
      simp only
      rw [hsh.2.1 q4, hsl]
    · rw [applyT_ok hL hC q3' (by rw [eE, hsh.1]; exact q4), applyT_ok hLu hCu q3 q4, eT]
      exact ⟨rfl, rfl, .inl ⟨rfl, rfl, rfl⟩⟩
end Go.Proofs.YtdcjimlhaklhfabGreatDoor

namespace Go.Proofs.YtdcjimlhaklhfabGreatDoor
open Go.RowKit
theorem nil_list : (bs ([] : Str)).toList = [] := by rw [tl_sl, sl_bs]
theorem nil_empty : (bs ([] : Str)).toList.isEmpty = true := by rw [nil_list]; rfl
theorem one_list : ((bs [50, 32, 48, 32, 97, 59]).toList == [50, 32, 48, 32, 97, 59]) = true := by rw [tl_sl, sl_bs]; rfl
end Go.Proofs.YtdcjimlhaklhfabGreatDoor

namespace Go.Proofs.YtdcjimlhaklhfabGreatDoor
open Go.RowKit
def TallyAt (w : World) (b : Nat) (c m d a : Nat) : Prop := w.heap[b]? = some (.cells #[.int .i64 c, .int .i64 m, .int .i64 d, .int .i64 a] 83 (0, 0))
theorem TallyAt.lt {w : World} {b c m d a : Nat} (h : TallyAt w b c m d a) : b < w.heap.size := lt_of_block h
theorem TallyAt.cells {w : World} {b c m d a : Nat} (h : TallyAt w b c m d a) : w.cell? ⟨b, 0, none⟩ = some (.int .i64 c) ∧ w.cell? ⟨b, 1, none⟩ = some (.int .i64 m) ∧ w.cell? ⟨b, 2, none⟩ = some (.int .i64 d) ∧ w.cell? ⟨b, 3, none⟩ = some (.int .i64 a) ∧ ∀ o, w.frozen? ⟨b, o, none⟩ = false := by
  refine ⟨?_, ?_, ?_, ?_, fun o => ?_⟩
  · rw [cell_of_row w b 0 _ _ (0, 0) h]; rfl
  · rw [cell_of_row w b 1 _ _ (0, 0) h]; rfl
  · rw [cell_of_row w b 2 _ _ (0, 0) h]; rfl
  · rw [cell_of_row w b 3 _ _ (0, 0) h]; rfl
  · simp [World.frozen?, show w.heap[b]? = _ from h]
theorem tally_0 {w : World} {b c m d a : Nat} (h : TallyAt w b c m d a) : TallyAt (w.setCell ⟨b, 0, none⟩ (.int .i64 ((c : Int) + 1))) b (c + 1) m d a := by
  unfold TallyAt; rw [heap_setCell_same w b 0 _ _ _ h]; rfl
theorem tally_1 {w : World} {b c m d a : Nat} (h : TallyAt w b c m d a) : TallyAt (w.setCell ⟨b, 1, none⟩ (.int .i64 ((m : Int) + 1))) b c (m + 1) d a := by
  unfold TallyAt; rw [heap_setCell_same w b 1 _ _ _ h]; rfl
theorem tally_2 {w : World} {b c m d a : Nat} (h : TallyAt w b c m d a) : TallyAt (w.setCell ⟨b, 2, none⟩ (.int .i64 ((d : Int) + 1))) b c m (d + 1) a := by
  unfold TallyAt; rw [heap_setCell_same w b 2 _ _ _ h]; rfl
theorem tally_3 {w : World} {b c m d a : Nat} (h : TallyAt w b c m d a) : TallyAt (w.setCell ⟨b, 3, none⟩ (.int .i64 ((a : Int) + 1))) b c m d (a + 1) := by
  unfold TallyAt; rw [heap_setCell_same w b 3 _ _ _ h]; rfl
theorem tally_new (w : World) : TallyAt (w.alloc (.cells #[.int .i64 0, .int .i64 0, .int .i64 0, .int .i64 0] 83)) w.heap.size 0 0 0 0 := heap_alloc_new w _
theorem grown_set {w : World} {b o : Nat} {v : Value} : w.grownBy (w.setCell ⟨b, o, none⟩ v) (some b) := by
  refine ⟨rfl, rfl, rfl, by simp, fun k hk hne => ?_⟩
  have hne' : k ≠ b := fun e => hne (by rw [e])
  rw [heap_setCell_other _ _ _ _ hne']
def kN (k : UInt8) (r : Str) : Nat := if r.head? = some k then 1 else 0
def hitB (r : Str) (k : Nat) : Bool := (r.take (k + 5)).drop k == [32, 48, 32, 116, 126]
def PkText (r : Str) : Prop := r.head? = some 61 ∧ ∃ p, p + 5 ≤ r.length ∧ hitB r p = true
theorem ext_list (r : Str) (a b : Nat) : ((bs r).extract a b).toList = (r.take b).drop a := by rw [bs_extract, tl_sl, sl_bs, sl_bs]
theorem head_at (k : UInt8) (r : Str) (h : 0 < (bs (k :: r)).size) : (bs (k :: r))[0] = k := rfl
theorem kne (k : UInt8) (n : Nat) (hn : n < 256) (h : ¬ k = UInt8.ofNat n) : ((k.toNat : Int) == (n : Int)) = false := by
  rw [beq_eq_false_iff_ne]; intro e
  exact h (UInt8.toNat_inj.1 (by rw [UInt8.toNat_ofNat_of_lt' (by simpa using hn)]; omega))
theorem kind_ne43 {k : UInt8} (h : ¬ k = 43) : ((k.toNat : Int) == 43) = false := kne k 43 (by omega) h
theorem kind_ne45 {k : UInt8} (h : ¬ k = 45) : ((k.toNat : Int) == 45) = false := kne k 45 (by omega) h
theorem kind_ne61 {k : UInt8} (h : ¬ k = 61) : ((k.toNat : Int) == 61) = false := kne k 61 (by omega) h
set_option maxHeartbeats 4000000 in
theorem add_any (r : Str) (b c m d a : Nat) (w : World) (hT : TallyAt w b c m d a) (hl : r.length ≤ 140737488355328) (ha : a ≤ 1000000000000000000) (hc : c ≤ 1000000000000000000) (hm : m ≤ 1000000000000000000) (hd : d ≤ 1000000000000000000) :
    Calls Tryz.prog 35 #[.pointer (some ⟨b, 0, none⟩), .string (bs r)] w fun e w' => e = .returned (.tuple #[]) ∧ (∃ a', TallyAt w' b (c + kN 43 r) (m + kN 61 r) (d + kN 45 r) a' ∧ a ≤ a' ∧ a' ≤ a + r.length ∧ (PkText r → a + 1 ≤ a')) ∧ w.grownBy w' (some b) := by
  cases r with
  | nil =>
    have hz : (bs ([] : Str)).size = 0 := rfl
    have HT := hide hT
    go_enter Tryz.func35, Tryz.ntmps35
    go_wp2
    refine bodyPost_ret (v := .tuple #[]) (by simp [results, Tryz.results35]) rfl ?_
    exact ⟨rfl, ⟨a, unhide HT, Nat.le_refl _, by simp, fun h => by cases h.1⟩, grown_refl _ _⟩
  | cons h tl =>
    have hsz : (bs (h :: tl)).size = tl.length + 1 := by rw [bs_size]; rfl
    have hl' : tl.length + 1 ≤ 140737488355328 := by simpa using hl
    clear hl
    have hpos : 0 < (bs (h :: tl)).size := by omega
    have hne := ne_nil_at (bs (h :: tl)) hpos
    have hhead := head_at h tl hpos
    obtain ⟨c0, c1, c2, c3, f0⟩ := hT.cells
    have HT := hide hT
    have hlt := hT.lt
    clear hT
    by_cases h43 : h = 43
    · subst h43
      have HTs : Hid (TallyAt (w.setCell ⟨b, 0, none⟩ (.int .i64 ((c : Int) + 1))) b (c + 1) (m) (d) a) := hide (tally_0 (unhide HT))
      have HGs : Hid (w.grownBy (w.setCell ⟨b, 0, none⟩ (.int .i64 ((c : Int) + 1))) (some b)) := hide (grown_set)
      have k1 : kN 43 (43 :: tl) = 1 := rfl
      have k2 : kN 61 (43 :: tl) = 0 := rfl
      have k3 : kN 45 (43 :: tl) = 0 := rfl
      have hNP : Hid (¬ PkText (43 :: tl)) := hide (fun h => by cases h.1)
      go_enter Tryz.func35, Tryz.ntmps35
      go_wp2_with fail
      generalize hW : w.setCell ⟨b, 0, none⟩ (.int .i64 ((c : Int) + 1)) = W at *
      go_loop [4] (fun i => ∃ k : Nat, k ≤ tl.length + 1 ∧ i = .int .i64 k) (fun i => tl.length + 1 - (intOf i).toNat)
      case atStart => exact ⟨0, by omega, rfl⟩
      case round =>
        obtain ⟨k, hk, rfl⟩ := hrel
        by_cases hlt2 : k + 5 ≤ tl.length + 1
        · have hle : decide ((k : Int) + 5 ≤ (tl.length : Int) + 1) = true := by simp; omega
          go_wp2
          go_round
          case rel => exact ⟨k + 1, by omega, by go_num⟩
          case measure => simp [intOf]; omega
        · have hle : decide ((k : Int) + 5 ≤ (tl.length : Int) + 1) = false := by simp; omega
          go_wp2
          go_end0
          exact ⟨rfl, ⟨a, unhide HTs, Nat.le_refl _, by omega, fun hh => absurd hh (unhide hNP)⟩, unhide HGs⟩
    · by_cases h45 : h = 45
      · subst h45
        have HTs : Hid (TallyAt (w.setCell ⟨b, 2, none⟩ (.int .i64 ((d : Int) + 1))) b (c) (m) (d + 1) a) := hide (tally_2 (unhide HT))
        have HGs : Hid (w.grownBy (w.setCell ⟨b, 2, none⟩ (.int .i64 ((d : Int) + 1))) (some b)) := hide (grown_set)
        have k1 : kN 43 (45 :: tl) = 0 := rfl
        have k2 : kN 61 (45 :: tl) = 0 := rfl
        have k3 : kN 45 (45 :: tl) = 1 := rfl
        have hNP : Hid (¬ PkText (45 :: tl)) := hide (fun h => by cases h.1)
        go_enter Tryz.func35, Tryz.ntmps35
        go_wp2_with fail
        generalize hW : w.setCell ⟨b, 2, none⟩ (.int .i64 ((d : Int) + 1)) = W at *
        go_loop [4] (fun i => ∃ k : Nat, k ≤ tl.length + 1 ∧ i = .int .i64 k) (fun i => tl.length + 1 - (intOf i).toNat)
        case atStart => exact ⟨0, by omega, rfl⟩
        case round =>
          obtain ⟨k, hk, rfl⟩ := hrel
          by_cases hlt2 : k + 5 ≤ tl.length + 1
          · have hle : decide ((k : Int) + 5 ≤ (tl.length : Int) + 1) = true := by simp; omega
            go_wp2
            go_round
            case rel => exact ⟨k + 1, by omega, by go_num⟩
            case measure => simp [intOf]; omega
          · have hle : decide ((k : Int) + 5 ≤ (tl.length : Int) + 1) = false := by simp; omega
            go_wp2
            go_end0
            exact ⟨rfl, ⟨a, unhide HTs, Nat.le_refl _, by omega, fun hh => absurd hh (unhide hNP)⟩, unhide HGs⟩
      · by_cases h61 : h = 61
        · subst h61
          have k1 : kN 43 (61 :: tl) = 0 := rfl
          have k2 : kN 61 (61 :: tl) = 1 := rfl
          have k3 : kN 45 (61 :: tl) = 0 := rfl
          have HTs : Hid (TallyAt (w.setCell ⟨b, 1, none⟩ (.int .i64 ((m : Int) + 1))) b c (m + 1) d a) := hide (tally_1 (unhide HT))
          have HGs : Hid (w.grownBy (w.setCell ⟨b, 1, none⟩ (.int .i64 ((m : Int) + 1))) (some b)) := hide grown_set
          go_enter Tryz.func35, Tryz.ntmps35
          go_wp2_with fail
          generalize hW : w.setCell ⟨b, 1, none⟩ (.int .i64 ((m : Int) + 1)) = W at *
          go_loopw [4] (fun i wr => ∃ k a' : Nat, k ≤ tl.length + 1 ∧ i = .int .i64 k ∧ Hid (TallyAt wr b c (m + 1) d a') ∧ Hid (w.grownBy wr (some b)) ∧ a ≤ a' ∧ a' ≤ a + k ∧ Hid (∀ p, p < k → hitB (61 :: tl) p = true → a + 1 ≤ a')) (fun i _ => tl.length + 1 - (intOf i).toNat)
          case atStart => exact ⟨0, a, by omega, rfl, HTs, HGs, by omega, by omega, hide (fun p hp => by omega)⟩
          case round =>
            obtain ⟨k, a', hk, rfl, HTr, HGr, ha1, ha2, HP⟩ := hrel
            by_cases hlt2 : k + 5 ≤ tl.length + 1
            · have hle : decide ((k : Int) + 5 ≤ (tl.length : Int) + 1) = true := by simp; omega
              have hk0 : (0 : Int) ≤ k := by omega
              have hk5 : ((k : Int) + 5).toNat = k + 5 := by omega
              have hk6 : (k : Int) ≤ (k : Int) + 5 := by omega
              have hk7 : (k : Int) + 5 ≤ (tl.length : Int) + 1 := by omega
              have hx := ext_list (61 :: tl) k (k + 5)
              obtain ⟨_, _, _, d3, g0⟩ := (unhide HTr).cells
              have hltr := (unhide HTr).lt
              cases hq : hitB (61 :: tl) k
              · have HP2 : Hid (∀ p, p < k + 1 → hitB (61 :: tl) p = true → a + 1 ≤ a') := hide (fun p hp hh => by
                  by_cases e : p = k
                  · subst e; rw [hq] at hh; cases hh
                  · exact unhide HP p (by omega) hh)
                unfold hitB at hq
                rw [← hx] at hq
                clear hx
                go_wp2
                go_roundw
                case rel => exact ⟨k + 1, a', by omega, by go_num, HTr, HGr, ha1, by omega, HP2⟩
                case measure => simp [intOf]; omega
              · have HP2 : Hid (∀ p, p < k + 1 → hitB (61 :: tl) p = true → a + 1 ≤ a' + 1) := hide (fun p _ _ => by omega)
                have HT2 := hide (tally_3 (unhide HTr))
                have HG2 := hide (grown_trans (unhide HGr) (grown_set (w := wr) (b := b) (o := 3) (v := .int .i64 ((a' : Int) + 1))))
                unfold hitB at hq
                rw [← hx] at hq
                clear hx
                go_wp2
                go_roundw
                case rel => exact ⟨k + 1, a' + 1, by omega, by go_num, HT2, HG2, by omega, by omega, HP2⟩
                case measure => simp [intOf]; omega
            · have hle : decide ((k : Int) + 5 ≤ (tl.length : Int) + 1) = false := by simp; omega
              go_wp2
              go_end0
              refine ⟨rfl, ⟨a', unhide HTr, ha1, by omega, fun hh => ?_⟩, unhide HGr⟩
              obtain ⟨_, p, hp, hpp⟩ := hh
              exact unhide HP p (by simp at hp; omega) hpp
        · skip
          have HTs : Hid (TallyAt (w) b (c) (m) (d) a) := hide (unhide HT)
          have HGs : Hid (w.grownBy (w) (some b)) := hide (grown_refl _ _)
          have k1 : kN 43 (h :: tl) = 0 := by unfold kN; rw [if_neg (by simp; assumption)]
          have k2 : kN 61 (h :: tl) = 0 := by unfold kN; rw [if_neg (by simp; assumption)]
          have k3 : kN 45 (h :: tl) = 0 := by unfold kN; rw [if_neg (by simp; assumption)]
          have hNP : Hid (¬ PkText (h :: tl)) := hide (fun h => by have := h.1; simp at this; exact h61 this)
          have q1 := kind_ne43 h43
          have q2 := kind_ne45 h45
          have q3 := kind_ne61 h61
          go_enter Tryz.func35, Tryz.ntmps35
          go_wp2_with fail
          go_loop [4] (fun i => ∃ k : Nat, k ≤ tl.length + 1 ∧ i = .int .i64 k) (fun i => tl.length + 1 - (intOf i).toNat)
          case atStart => exact ⟨0, by omega, rfl⟩
          case round =>
            obtain ⟨k, hk, rfl⟩ := hrel
            by_cases hlt2 : k + 5 ≤ tl.length + 1
            · have hle : decide ((k : Int) + 5 ≤ (tl.length : Int) + 1) = true := by simp; omega
              go_wp2
              go_round
              case rel => exact ⟨k + 1, by omega, by go_num⟩
              case measure => simp [intOf]; omega
            · have hle : decide ((k : Int) + 5 ≤ (tl.length : Int) + 1) = false := by simp; omega
              go_wp2
              go_end0
              exact ⟨rfl, ⟨a, unhide HTs, Nat.le_refl _, by omega, fun hh => absurd hh (unhide hNP)⟩, unhide HGs⟩
end Go.Proofs.YtdcjimlhaklhfabGreatDoor

namespace Go.Proofs.YtdcjimlhaklhfabGreatDoor
open Go.RowKit
/-- A replica that was made behind the call's beginning. -/
structure RS (w0 w : World) (b : Nat) (st : Int) (v : Value) (L : List Lo) : Prop where
  rep : Repl w b st v L
  ge : ∀ k, Foot b v k → w0.heap.size ≤ k
  s1 : 1 ≤ st
  s2 : st ≤ 9
theorem RS.below {w0 w w' : World} {b : Nat} {st : Int} {v : Value} {L : List Lo} (h : RS w0 w b st v L) (hb : Below w.heap.size w w') : RS w0 w' b st v L := ⟨h.rep.below hb, h.ge, h.s1, h.s2⟩
theorem RS.lt {w0 w : World} {b : Nat} {st : Int} {v : Value} {L : List Lo} (h : RS w0 w b st v L) {k : Nat} (hk : Foot b v k) : k < w.heap.size := by
  rcases hk with hk | hk
  · have hk' : k = b := hk
    rw [hk']; exact h.rep.lt
  · exact (h.rep.own.lt k hk).2
theorem RS.kept {w0 w w' : World} {b : Nat} {st : Int} {v : Value} {L : List Lo} {S : Nat → Prop} (h : RS w0 w b st v L) (hk : Keeps S w w') (hS : ∀ k, Foot b v k → ¬ S k) : RS w0 w' b st v L := ⟨h.rep.kept hk hS, h.ge, h.s1, h.s2⟩
/-- What a call on a replica leaves. -/
structure RPost (w0 w w' : World) (b : Nat) (st : Int) (v v' : Value) (L : List Lo) : Prop where
  rs : RS w0 w' b st v' L
  keeps : Keeps (Foot b v) w w'
  moved : Moved w v v'
  bel : Below w0.heap.size w0 w'
theorem rpost_of {w0 w w' : World} {b : Nat} {st : Int} {v v' : Value} {L L' : List Lo} (h : RS w0 w b st v L) (hb : Below w0.heap.size w0 w) (hr : Repl w' b st v' L') (hk : Keeps (Foot b v) w w') (hm : Moved w v v') : RPost w0 w w' b st v v' L' := by
  refine ⟨⟨hr, fun k hf => ?_, h.s1, h.s2⟩, hk, hm, hb.trans (hk.below hb.size (fun k h1 h2 => by have := h.ge k h2; omega))⟩
  rcases hf with hf | hf
  · exact h.ge k (.inl hf)
  · rcases hm with e | ⟨q, e, hq⟩
    · exact h.ge k (.inr (e ▸ hf))
    · rw [e] at hf; cases hf; have := hb.size; omega
theorem tab_foot {w0 w W : World} {b : Nat} {st : Int} {v : Value} {L : List Lo} (ht : Tab w0) (h : RS w0 w b st v L) (hb : Below w0.heap.size w0 w) (hk : Keeps (Foot b v) w W) : Tab W :=
  tab_below ht (hb.trans (hk.below hb.size (fun k h1 h2 => by have := h.ge k h2; omega)))
/-- Two replicas whose blocks are apart stay so. -/
def Apart2 (b : Nat) (v : Value) (b' : Nat) (v' : Value) : Prop := ∀ k, Foot b v k → ¬ Foot b' v' k
theorem Apart2.symm {b b' : Nat} {v v' : Value} (h : Apart2 b v b' v') : Apart2 b' v' b v := fun k h1 h2 => h k h2 h1
theorem apart_moved {w0 w : World} {b b' : Nat} {st : Int} {v v2 u : Value} {L : List Lo} (h : Apart2 b v b' u) (hm : Moved w v v2) (hR : RS w0 w b' st u L) : Apart2 b v2 b' u := by
  intro k h1 h2
  rcases h1 with h1 | h1
  · exact h k (.inl h1) h2
  · rcases hm with e | ⟨q, e, hq⟩
    · exact h k (.inr (e ▸ h1)) h2
    · rw [e] at h1; cases h1; have := hR.lt h2; omega
theorem kdeliver_any (L : List Lo) (s : ByteArray) (b : Nat) (st : Int) (v : Value) (w0 w : World) (hR : RS w0 w b st v L) (hb : Below w0.heap.size w0 w) :
    Calls Tryz.prog 12 #[.pointer (some ⟨b, 0, none⟩), .string s] w fun e w' => e = .returned (.tuple #[.int .i64 (deliverT L (sl s)).2.1, .int .i64 (deliverT L (sl s)).2.2]) ∧ ∃ v', RPost w0 w w' b st v v' (deliverT L (sl s)).1 := by
  refine (deliver_any L s b st v w hR.rep).mono ?_
  rintro e w' ⟨he, v', h1, h2, h3⟩
  exact ⟨he, v', rpost_of hR hb h1 h2 h3⟩
theorem kingest_any (L : List Lo) (s : ByteArray) (b : Nat) (st : Int) (v : Value) (w0 w : World) (hR : RS w0 w b st v L) (hb : Below w0.heap.size w0 w) (ht : Tab w0) :
    Calls Tryz.prog 16 #[.pointer (some ⟨b, 0, none⟩), .string s] w fun e w' => e = .returned (.tuple #[.string (bs (logText (ingestT L st (sl s)).1)), .int .i64 (ingestT L st (sl s)).2]) ∧ ∃ v', RPost w0 w w' b st v v' (L ++ (ingestT L st (sl s)).1) := by
  refine (ingest_any L s b st v w hR.rep hR.s1 hR.s2 (fun W hk => tab_foot ht hR hb hk)).mono ?_
  rintro e w' ⟨he, v', h1, h2, h3⟩
  exact ⟨he, v', rpost_of hR hb h1 h2 h3⟩
theorem klog_any (L : List Lo) (b : Nat) (st : Int) (v : Value) (w0 w : World) (hR : RS w0 w b st v L) (hb : Below w0.heap.size w0 w) (ht : Tab w0) :
    Calls Tryz.prog 11 #[.pointer (some ⟨b, 0, none⟩)] w fun e w' => e = .returned (.string (bs (logText L))) ∧ Below w.heap.size w w' := log_any L b st v w hR.rep (tab_below ht hb)
theorem kexport_any (L : List Lo) (b : Nat) (st : Int) (v : Value) (w0 w : World) (hR : RS w0 w b st v L) :
    Calls Tryz.prog 13 #[.pointer (some ⟨b, 0, none⟩)] w fun e w' => e = .returned (.string (bs (textT (viewT (places L))))) ∧ Below w.heap.size w w' := export_any L b st v w hR.rep
/-- The site that a raw number speaks of. -/
def siteK (c : Int) : Int := 1 + (pickK c 9 : Int)
theorem siteK_bd (c : Int) : 1 ≤ siteK c ∧ siteK c ≤ 9 := by
  have := pickK_lt c (show 0 < 9 by omega)
  unfold siteK; omega
set_option maxHeartbeats 1000000 in
theorem replica_site (site : Int) (w0 w : World) (h : I64 site) (hb0 : Below w0.heap.size w0 w) :
    Calls Tryz.prog 18 #[.int .i64 site] w fun e w' => e = .returned (.pointer (some ⟨w.heap.size, 0, none⟩)) ∧ RS w0 w' w.heap.size (siteK site) (.slice none 0 0) [] ∧ Below w.heap.size w w' := by
  have HP := hide (fun W => kpick_any site 9 W (by omega) (by omega) h)
  have hp := pickK_lt site (show 0 < 9 by omega)
  have HS : Hid (siteK site = 1 + (pickK site 9 : Int)) := hide rfl
  have hsz := hb0.size
  generalize pickK site 9 = p at *
  have HN := hide (new_ok (1 + (p : Int)) w (by omega) (by omega))
  clear h hb0
  go_enter Tryz.func18, Tryz.ntmps18
  go_wp2_with fail
  refine (unhide HP _).mono ?_
  rintro e w1 ⟨rfl, rfl⟩
  go_wp2_with fail
  refine (unhide HN).mono ?_
  rintro e w2 ⟨rfl, hR, hb⟩
  have HR := hide hR
  have HB := hide hb
  clear hR hb
  go_wp2
  go_ret
  refine ⟨rfl, ⟨by rw [unhide HS]; exact unhide HR, fun k hk => ?_, by rw [unhide HS]; omega, by rw [unhide HS]; omega⟩, unhide HB⟩
  rcases hk with hk | hk
  · have hk' : k = w1.heap.size := hk
    omega
  · simp [Value.ownBlock] at hk
end Go.Proofs.YtdcjimlhaklhfabGreatDoor

namespace Go.Proofs.YtdcjimlhaklhfabGreatDoor
open Go.RowKit
/-! Replicas that come together. -/
def codeLo (x : Lo) : Int := x.count * 10 + x.site
theorem same_code {x y : Lo} (hx : LoOk x) (hy : LoOk y) (h : codeLo x = codeLo y) : sameStamp x y = true := by
  unfold codeLo at h
  have h1 := hx.2.2.1
  have h2 := hx.2.2.2.1
  have h3 := hy.2.2.1
  have h4 := hy.2.2.2.1
  unfold sameStamp
  simp only [Bool.and_eq_true, beq_iff_eq]; omega
theorem distinct_same {l : List Lo} (h : Distinct l) : ∀ x ∈ l, ∀ y ∈ l, sameStamp x y = true → x = y := by
  intro x hx y hy hs
  obtain ⟨i, hi, rfl⟩ := List.mem_iff_getElem.1 hx
  obtain ⟨j, hj, rfl⟩ := List.mem_iff_getElem.1 hy
  by_cases e : i = j
  · subst e; rfl
  · rw [distinct_at h hi hj e] at hs; cases hs
theorem distinct_le {a b : List Lo} (ha : Distinct a) (hok : ∀ x ∈ a, LoOk x) (h : ∀ x ∈ a, x ∈ b) : a.length ≤ b.length := by
  have hn : (a.map codeLo).Nodup := by
    unfold List.Nodup
    rw [List.pairwise_map, List.pairwise_iff_getElem]
    intro i j hi hj hij e
    have := same_code (hok _ (List.getElem_mem hi)) (hok _ (List.getElem_mem hj)) e
    rw [distinct_at ha hi hj (by omega)] at this; cases this
  have := pigeon (a.map codeLo) (b.map codeLo) hn (fun x hx => by
    obtain ⟨y, hy, rfl⟩ := List.mem_map.1 hx
    exact List.mem_map.2 ⟨y, h y hy, rfl⟩)
  simpa using this
/-- All ops that there are. -/
structure Univ (U : List Lo) : Prop where
  dist : Distinct U
  ok : ∀ x ∈ U, LoOk x
  len : U.length ≤ 150
/-- What a replica has of them: its own, all of them. -/
structure Know (U L : List Lo) (site : Int) : Prop where
  ok : LogOk L
  sub : ∀ x ∈ L, x ∈ U
  own : ∀ x ∈ U, x.site = site → x ∈ L
theorem know_deliver {U L T : List Lo} {site : Int} (hu : Univ U) (hk : Know U L site) (hT : ∀ x ∈ T, x ∈ U) (hlen : T.length ≤ 150) :
    (deliverT L (logText T)).2.2 = 0 ∧ Know U (deliverT L (logText T)).1 site ∧ ∀ x, x ∈ (deliverT L (logText T)).1 ↔ x ∈ L ∨ x ∈ T := by
  have hs := joinAll_sorted hk.ok.1 _ (fresh_new L T)
  have hmem : ∀ x, x ∈ joinAll L (fresh L T) ↔ x ∈ L ∨ x ∈ T := by
    intro x
    rw [joinAll_mem]
    constructor
    · rintro (h | h)
      · exact .inl h
      · exact .inr (fresh_mem L T x h)
    · rintro (h | h)
      · exact .inl h
      · have h1 := fold_has L T x h
        rw [next_fresh] at h1
        unfold hasStamp at h1
        rw [List.any_eq_true] at h1
        obtain ⟨y, hy, hsame⟩ := h1
        rw [joinAll_mem] at hy
        have hyU : y ∈ U := by
          rcases hy with hy | hy
          · exact hk.sub y hy
          · exact hT y (fresh_mem L T y hy)
        rw [← distinct_same hu.dist y hyU x (hT x h) hsame]; exact hy
  have hsub : ∀ x ∈ joinAll L (fresh L T), x ∈ U := by
    intro x hx
    rcases (hmem x).1 hx with h | h
    · exact hk.sub x h
    · exact hT x h
  have hle := distinct_le (sorted_distinct hs) (fun x hx => hu.ok x (hsub x hx)) hsub
  rw [joinAll_len] at hle
  have h150 := hu.len
  rw [deliver_log (fun x hx => hu.ok x (hT x hx)) hlen, if_neg (by omega)]
  refine ⟨rfl, ⟨⟨hs, fun x hx => hu.ok x (hsub x hx), by simp only []; rw [joinAll_len]; omega⟩, hsub, fun x hx he => (hmem x).2 (.inl (hk.own x hx he))⟩, hmem⟩
theorem made_site {L : List Lo} {site : Int} {s : Str} : ∀ x ∈ (ingestT L site s).1, x.site = site := by
  intro x hx
  unfold ingestT at hx
  split at hx
  · simp at hx
  · by_cases h : (reachT L site (gather (readNodes (cut s)))).2 = 0
    · rw [(reach_made h).2.2.2] at hx
      obtain ⟨i, hi, rfl⟩ := stamped_mem hx
      rfl
    · rw [reach_none h] at hx; simp at hx
theorem made_late {L : List Lo} (_hl : LogOk L) {site : Int} {s : Str} : ∀ x ∈ (ingestT L site s).1, lastC L < x.count := by
  intro x hx
  unfold ingestT at hx
  split at hx
  · simp at hx
  · by_cases h : (reachT L site (gather (readNodes (cut s)))).2 = 0
    · rw [(reach_made h).2.2.2] at hx
      obtain ⟨i, hi, rfl⟩ := stamped_mem hx
      unfold stampAt; simp only []; omega
    · rw [reach_none h] at hx; simp at hx
theorem univ_made {U L : List Lo} {site : Int} {s : Str} (hu : Univ U) (hk : Know U L site) (s1 : 1 ≤ site) (s2 : site ≤ 9) (hlen : (U ++ (ingestT L site s).1).length ≤ 150) :
    Univ (U ++ (ingestT L site s).1) ∧ Know (U ++ (ingestT L site s).1) (L ++ (ingestT L site s).1) site := by
  obtain ⟨hok, hm⟩ := ingest_ok hk.ok s1 s2 s
  have hd2 : Distinct (ingestT L site s).1 := (List.pairwise_append.1 (sorted_distinct hok.1)).2.1
  refine ⟨⟨?_, ?_, hlen⟩, ⟨hok, ?_, ?_⟩⟩
  · refine List.pairwise_append.2 ⟨hu.dist, hd2, ?_⟩
    intro a ha b hb
    cases hq : sameStamp a b with
    | false => rfl
    | true =>
      unfold sameStamp at hq
      simp only [Bool.and_eq_true, beq_iff_eq] at hq
      have h1 := made_site b hb
      have h2 := made_late hk.ok b hb
      have h3 := lastC_max hk.ok.1 a (hk.own a ha (by omega))
      omega
  · intro x hx
    rcases List.mem_append.1 hx with hx | hx
    · exact hu.ok x hx
    · exact hm x hx
  · intro x hx
    rcases List.mem_append.1 hx with hx | hx
    · exact List.mem_append_left _ (hk.sub x hx)
    · exact List.mem_append_right _ hx
  · intro x hx he
    rcases List.mem_append.1 hx with hx | hx
    · exact List.mem_append_left _ (hk.own x hx he)
    · exact List.mem_append_right _ hx
theorem know_other {U L M : List Lo} {site : Int} (hk : Know U L site) (h : ∀ x ∈ M, x.site ≠ site) : Know (U ++ M) L site := by
  refine ⟨hk.ok, fun x hx => List.mem_append_left _ (hk.sub x hx), fun x hx he => ?_⟩
  rcases List.mem_append.1 hx with hx | hx
  · exact hk.own x hx he
  · exact absurd he (h x hx)
theorem univ_nil : Univ [] := ⟨List.Pairwise.nil, by simp, by simp⟩
theorem know_nil (site : Int) : Know [] [] site := ⟨logOk_nil, by simp, by simp⟩
/-- Behind all ops. -/
theorem know_all {U L : List Lo} {site : Int} (hu : Univ U) (hk : Know U L site) (h : ∀ x ∈ U, x ∈ L) : L.length = U.length := by
  have h1 := distinct_le (sorted_distinct hk.ok.1) hk.ok.2.1 hk.sub
  have h2 := distinct_le hu.dist hu.ok h
  omega
theorem know_same {U L M : List Lo} {s r : Int} (hk : Know U L s) (hm : Know U M r) (h1 : ∀ x ∈ U, x ∈ L) (h2 : ∀ x ∈ U, x ∈ M) : L = M :=
  sorted_eq _ _ hk.ok.1 hm.ok.1 (fun x => ⟨fun hx => h2 x (hk.sub x hx), fun hx => h1 x (hm.sub x hx)⟩)
end Go.Proofs.YtdcjimlhaklhfabGreatDoor

namespace Go.Proofs.YtdcjimlhaklhfabGreatDoor
open Go.RowKit
theorem ingest_text {L : List Lo} {st : Int} {t : Tr} (hv : Valid t) : ingestT L st (textT t) = reachT L st t := by
  unfold ingestT
  rw [(check_text hv).1, (check_text hv).2]; rfl
theorem str_same (a : Str) : ((bs a).toList == (bs a).toList) = true := by simp
/-- A replica that has taken in a tree. -/
def Planted (w0 w' : World) (b : Nat) (st : Int) (t : Tr) : Prop := ∃ v L, RS w0 w' b st v L ∧ viewT (places L) = t ∧ Below w0.heap.size w0 w'
set_option maxHeartbeats 4000000 in
theorem planted_any (site : Int) (t : Tr) (w0 w : World) (h : I64 site) (hv : Valid t) (hb0 : Below w0.heap.size w0 w) (ht : Tab w0) :
    Calls Tryz.prog 10 #[.int .i64 site, .string (bs (textT t))] w fun e w' => e = .returned (.pointer (some ⟨w.heap.size, 0, none⟩)) ∧ Planted w0 w' w.heap.size (siteK site) t := by
  have HRP := hide (replica_site site w0 w h hb0)
  have HI := hide (fun W v (hR : RS w0 W w.heap.size (siteK site) v []) hb => kingest_any [] (bs (textT t)) w.heap.size (siteK site) v w0 W hR hb ht)
  have hok : (ingestT [] (siteK site) (textT t)).2 = 0 := by rw [ingest_text hv]; exact reach_first hv
  have hview : viewT (places ([] ++ (ingestT [] (siteK site) (textT t)).1)) = t := by rw [ingest_text hv]; exact reach_shows (by simp) hv (reach_first hv)
  rw [sl_bs] at HI
  rw [hok] at HI
  rw [List.nil_append] at hview
  have HVW := hide hview
  have hs0 := hb0.size
  clear hok hview h hv
  generalize (ingestT [] (siteK site) (textT t)).1 = M at *
  have HLG := hide (fun W v (hR : RS w0 W w.heap.size (siteK site) v M) hb => klog_any M w.heap.size (siteK site) v w0 W hR hb ht)
  have HEX := hide (fun W v (hR : RS w0 W w.heap.size (siteK site) v M) => kexport_any M w.heap.size (siteK site) v w0 W hR)
  rw [unhide HVW] at HEX
  have e1 := str_same (logText M)
  have e2 := str_same (textT t)
  generalize siteK site = st at *
  generalize bs (textT t) = tx at *
  generalize bs (logText M) = lx at *
  go_enter Tryz.func10, Tryz.ntmps10
  go_wp2_with fail
  refine (unhide HRP).mono ?_
  rintro e w1 ⟨rfl, hR1, hb1⟩
  have HR1 := hide hR1
  have HB1 := hide (hb0.trans (hb1.mono hs0))
  clear hR1 hb1 hb0
  go_wp2_with fail
  refine (unhide HI _ _ (by exact unhide HR1) (by exact unhide HB1)).mono ?_
  rintro e w2 ⟨rfl, v', hp⟩
  rw [List.nil_append] at hp
  have HR2 := hide hp.rs
  have HB2 := hide hp.bel
  clear hp
  go_wp2_with fail
  refine (unhide HLG _ _ (by exact unhide HR2) (by exact unhide HB2)).mono ?_
  rintro e w3 ⟨rfl, hb3⟩
  have HR3 := hide ((unhide HR2).below hb3)
  have HB3 := hide ((unhide HB2).trans (hb3.mono (unhide HB2).size))
  clear hb3
  go_wp2_with fail
  refine (unhide HEX _ _ (by exact unhide HR3)).mono ?_
  rintro e w4 ⟨rfl, hb4⟩
  have HF : Hid (Planted w0 w4 w.heap.size st t) := hide ⟨v', M, (unhide HR3).below hb4, unhide HVW, (unhide HB3).trans (hb4.mono (unhide HB3).size)⟩
  clear hb4
  go_wp2
  go_ret
  exact ⟨rfl, unhide HF⟩
/-! The number with which a record begins. -/
theorem val_take (n k : Nat) (h : k < (dec n).length) : val ((dec n).take (k + 1)) = val ((dec n).take k) * 10 + ((dec n)[k].toNat - 48) := by
  rw [List.take_succ_eq_append_getElem h, val_snoc]
theorem dec_digit (n k : Nat) (h : k < (dec n).length) : 48 ≤ (dec n)[k].toNat ∧ (dec n)[k].toNat ≤ 57 := by
  have := (dec_digs n).1
  rw [List.all_eq_true] at this
  have := this _ (List.getElem_mem h)
  rwa [digB_iff] at this
theorem val_take_le (n k : Nat) (hn : n ≤ 9999) : val ((dec n).take k) ≤ 99999 := by
  have h1 := dec_len n hn
  have h2 := val_lt ((dec n).take k) 0 (by
    rw [List.all_eq_true]
    intro x hx
    have := (dec_digs n).1
    rw [List.all_eq_true] at this
    exact this x (List.mem_of_mem_take hx))
  have h3 : ((dec n).take k).length ≤ 4 := by rw [List.length_take]; omega
  have h4 : 10 ^ ((dec n).take k).length ≤ 10 ^ 4 := Nat.pow_le_pow_right (by omega) h3
  unfold val
  simp only [Nat.zero_add, Nat.one_mul] at h2
  have : (10 : Nat) ^ 4 = 10000 := rfl
  omega
theorem at_left (a b : Str) (k : Nat) (h : k < a.length) (h' : k < (bs (a ++ b)).size) : (bs (a ++ b))[k]'h' = a[k] := by
  have h1 := sl_get (bs (a ++ b)) k h'
  rw [← h1]
  have e : (sl (bs (a ++ b)))[k]? = some a[k] := by rw [sl_bs, List.getElem?_append_left h, List.getElem?_eq_getElem h]
  exact Option.some.inj ((List.getElem?_eq_getElem _).symm.trans e)
theorem at_mid (a : Str) (c : UInt8) (b : Str) (h' : a.length < (bs (a ++ c :: b)).size) : (bs (a ++ c :: b))[a.length]'h' = c := by
  have h1 := sl_get (bs (a ++ c :: b)) a.length h'
  rw [← h1]
  have e : (sl (bs (a ++ c :: b)))[a.length]? = some c := by rw [sl_bs, List.getElem?_append_right (Nat.le_refl _), Nat.sub_self]; rfl
  exact Option.some.inj ((List.getElem?_eq_getElem _).symm.trans e)
set_option maxHeartbeats 2000000 in
theorem lead_any (n : Nat) (rest : Str) (w : World) (hn : n ≤ 9999) (hl : rest.length ≤ 4000) :
    Calls Tryz.prog 39 #[.string (bs (dec n ++ 32 :: rest))] w fun e w' => e = .returned (.int .i64 n) ∧ w' = w := by
  have hlen := dec_len n hn
  have hsz : (dec n).length < (bs (dec n ++ 32 :: rest)).size := by rw [bs_size]; simp
  have hsz2 : (bs (dec n ++ 32 :: rest)).size ≤ 5000 := by rw [bs_size]; simp; omega
  have HDG : Hid (∀ k (h : k < (dec n).length) (h' : k < (bs (dec n ++ 32 :: rest)).size), (bs (dec n ++ 32 :: rest))[k]'h' = (dec n)[k]) := hide (fun k h h' => at_left _ _ k h h')
  have HEN : Hid (∀ (h' : (dec n).length < (bs (dec n ++ 32 :: rest)).size), (bs (dec n ++ 32 :: rest))[(dec n).length]'h' = 32) := hide (fun h' => at_mid _ _ _ h')
  have HD := hide (fun k h => dec_digit n k h)
  have HT := hide (fun k h => val_take n k h)
  have HL := hide (fun k => val_take_le n k hn)
  have HV : Hid (val (dec n) = n) := hide (dec_digs n).2
  generalize bs (dec n ++ 32 :: rest) = s at *
  generalize dec n = ds at *
  go_enter Tryz.func39, Tryz.ntmps39
  go_wp2
  go_loop [3, 4] (fun v i => ∃ k : Nat, k ≤ ds.length ∧ i = .int .i64 k ∧ v = .int .i64 (val (ds.take k))) (fun _ i => ds.length - (intOf i).toNat)
  case atStart => exact ⟨0, Nat.zero_le _, rfl, rfl⟩
  case round =>
    obtain ⟨k, hk, rfl, rfl⟩ := hrel
    have hks : k < s.size := by omega
    have hk5 : (k : Int) < 5 := by omega
    have hvl := unhide HL k
    by_cases hlt : k < ds.length
    · have h1 := unhide HDG k hlt hks
      have h2 := unhide HD k hlt
      have h3 := unhide HT k hlt
      rw [← h1] at h2 h3
      have h48 := h2.1
      have h57 := h2.2
      have HX := hide h3
      clear h1 h2 h3
      generalize val (ds.take k) = vv at *
      go_wp2
      go_round
      case rel => exact ⟨k + 1, by omega, by go_num, by rw [unhide HX]; go_num⟩
      case measure => simp [intOf]; omega
    · have hkl : k = ds.length := by omega
      subst hkl
      have h1 := unhide HEN hks
      have h48 : ¬ 48 ≤ (s[ds.length]).toNat := by rw [h1]; decide
      have HF : Hid (val (ds.take ds.length) = n) := by apply hide; rw [List.take_length]; exact unhide HV
      clear h1
      generalize val (ds.take ds.length) = vv at *
      go_wp2
      go_ret
      exact ⟨ret_int (by rw [unhide HF]), rfl⟩
end Go.Proofs.YtdcjimlhaklhfabGreatDoor

namespace Go.Proofs.YtdcjimlhaklhfabGreatDoor
open Go.RowKit
/-- May Ingest refuse? -/
def refB (n : Nat) (lc : Int) (most : Nat) (C : Nat) (e : Int) : Bool :=
  if n = 0 then false else if e = 14 then decide (0 < C) else if e = 13 then decide (150 < n + most) else if e = 15 then decide (9999 < lc + (most : Int)) else false
theorem refB_0 (lc : Int) (most C : Nat) (e : Int) : refB 0 lc most C e = false := rfl
theorem refB_14 {n : Nat} (lc : Int) (most C : Nat) (h : n ≠ 0) : refB n lc most C 14 = decide (0 < C) := by unfold refB; rw [if_neg h]; rfl
theorem refB_13 {n : Nat} (lc : Int) (most C : Nat) (h : n ≠ 0) : refB n lc most C 13 = decide (150 < n + most) := by unfold refB; rw [if_neg h]; rfl
theorem refB_15 {n : Nat} (lc : Int) (most C : Nat) (h : n ≠ 0) : refB n lc most C 15 = decide (9999 < lc + (most : Int)) := by unfold refB; rw [if_neg h]; rfl
theorem refB_else {n : Nat} (lc : Int) (most C : Nat) {e : Int} (h : n ≠ 0) (h1 : e ≠ 14) (h2 : e ≠ 13) (h3 : e ≠ 15) : refB n lc most C e = false := by unfold refB; rw [if_neg h, if_neg h1, if_neg h2, if_neg h3]
theorem loText_lead (x : Lo) : ∃ rest, loText x = dec x.count.toNat ++ 32 :: rest ∧ rest.length ≤ (loText x).length := by
  refine ⟨dec x.site.toNat ++ [32] ++ dec x.node.id.toNat ++ [32] ++ dec x.node.parent.toNat ++ [32] ++ x.node.name ++ [59], ?_, ?_⟩
  · simp [loText]
  · simp [loText]; omega
set_option maxHeartbeats 4000000 in
set_option maxRecDepth 100000 in
theorem refused_any (L : List Lo) (V : Tr) (tb C M D A : Nat) (e0 : Int) (w : World) (hL : LogOk L) (hV : Valid V) (hT : TallyAt w tb C M D A) (hC : C ≤ 1048576) (hM : M ≤ 1048576) (hD : D ≤ 1048576) :
    Calls Tryz.prog 17 #[.string (bs (logText L)), .string (bs (textT V)), .pointer (some ⟨tb, 0, none⟩), .int .i64 e0] w fun e w' => e = .returned (.bool (refB L.length (lastC L) ((nodesOf V).length + C + D + 2 * (M + C)) C e0)) ∧ Below w.heap.size w w' := by
  have hlen := logText_len25 L hL.2.1
  have hll := hL.2.2
  have hvl := textTo_len hV.ok 99
  have hnl := nodesOf_len V
  have HC1 := hide (fun W => kcut_any (bs (logText L)) W (by rw [bs_size]; omega))
  have HC2 := hide (fun W => kcut_any (bs (textT V)) W (by rw [bs_size]; unfold textT; omega))
  rw [sl_bs] at HC1 HC2
  rw [cut_log L hL.2.1] at HC1
  rw [(readNodes_text hV.ok).2] at HC2
  rw [List.length_map] at HC1
  have HT := hide hT
  have hlc := lastC_bd hL
  have HLEAD : Hid (∀ W ao, Row W ao L.length 1 ((L.map loText).map strV) → 0 < L.length → ∃ (g n : Nat) (rest : Str), ao = some ⟨g, 0, none⟩ ∧ W.cell? ⟨g, L.length - 1, none⟩ = some (.string (bs (dec n ++ 32 :: rest))) ∧ rest.length ≤ 4000 ∧ n ≤ 9999 ∧ (n : Int) = lastC L) := by
    apply hide
    intro W ao hr h
    have hx := hL.2.1 _ (List.getElem_mem (show L.length - 1 < L.length by omega))
    obtain ⟨rest, e1, e2⟩ := loText_lead L[L.length - 1]
    have e3 := loText_len25 hx
    obtain ⟨g, hg1, _, hg3⟩ := hr.2 h
    have hc := hg3 (L.length - 1) (strV (loText L[L.length - 1])) (by
      rw [List.getElem?_map, List.getElem?_map, List.getElem?_eq_getElem (show L.length - 1 < L.length by omega)]; rfl)
    rw [e1] at hc
    refine ⟨g, (L[L.length - 1]).count.toNat, rest, hg1, hc, by omega, by have := hx.2.1; omega, ?_⟩
    rw [lastC_at h]
    have := hx.1
    omega
  clear hL hV hT
  generalize L.map loText = rs at *
  generalize lastC L = lc at *
  generalize L.length = N at *
  generalize (nodesOf V).length = K at *
  go_enter Tryz.func17, Tryz.ntmps17
  go_wp2_with fail
  refine (unhide HC1 _).mono ?_
  rintro e w1 ⟨lo, lcap, rfl, hr1, hb1⟩
  have HR1 := hide hr1
  have HB1 := hide hb1
  have HT1 : Hid (TallyAt w1 tb C M D A) := by apply hide; unfold TallyAt; rw [hb1.block tb (unhide HT).lt]; exact unhide HT
  clear hr1 hb1
  go_wp2_with fail
  refine (unhide HC2 _).mono ?_
  rintro e w2 ⟨vo, vcap, rfl, hr2, hb2⟩
  have HR2 := hide ((unhide HR1).below hb2)
  have HB2 := hide ((unhide HB1).trans (hb2.mono (unhide HB1).size))
  have HT2 : Hid (TallyAt w2 tb C M D A) := by apply hide; unfold TallyAt; rw [hb2.block tb (unhide HT1).lt]; exact unhide HT1
  clear hr2 hb2
  obtain ⟨t0, t1, t2, t3, _⟩ := (unhide HT2).cells
  go_wp2
  go_quiet (fail)
  have HR3 : Hid (Row (w2.drewN nq) lo N 1 (rs.map strV)) := hide ((unhide HR2).below (below_drewN (Below.refl _ _) nq))
  have HB3 : Hid (Below w.heap.size w (w2.drewN nq)) := hide (below_drewN (unhide HB2) nq)
  have HT3 : Hid (TallyAt (w2.drewN nq) tb C M D A) := hide (unhide HT2)
  clear t0 t1 t2 t3 HR2 HB2 HT2 HR1 HB1 HT1 HT
  generalize w2.drewN nq = w3 at *
  by_cases hN : N = 0
  · subst hN
    go_wp2
    go_ret
    exact ⟨ret_bool rfl, unhide HB3⟩
  · obtain ⟨g, n, rest, hlo, hc, hrl, hn9, hnl⟩ := unhide HLEAD w3 lo (unhide HR3) (by omega)
    have HLD := hide (lead_any n rest w3 hn9 hrl)
    have hd : ((N : Int) == 0) = false := by rw [beq_eq_false_iff_ne]; omega
    obtain ⟨m, hm⟩ : ∃ m, m = N - 1 := ⟨_, rfl⟩
    rw [← hm] at hc
    have e1 : (N : Int) - 1 = (m : Int) := by omega
    have hm1 : (m : Int) < (N : Int) := by omega
    have hm0 : (0 : Int) ≤ (m : Int) := by omega
    subst hnl
    have HR14 := hide (@refB_14 N (n : Int) (K + C + D + 2 * (M + C)) C hN)
    have HR13 := hide (@refB_13 N (n : Int) (K + C + D + 2 * (M + C)) C hN)
    have HR15 := hide (@refB_15 N (n : Int) (K + C + D + 2 * (M + C)) C hN)
    have HREL := hide (fun h1 h2 h3 => @refB_else N (n : Int) (K + C + D + 2 * (M + C)) C e0 hN h1 h2 h3)
    obtain ⟨t0, t1, t2, t3, _⟩ := (unhide HT3).cells
    rw [hlo]
    clear hlo HLEAD HR3 hm HC1 HC2 HT3
    generalize bs (dec n ++ 32 :: rest) = rec at *
    go_wp2_with fail
    refine (unhide HLD).mono ?_
    rintro e w4 ⟨rfl, rfl⟩
    by_cases h14 : e0 = 14
    · subst h14
      go_wp2
      go_ret
      exact ⟨ret_bool (by rw [unhide HR14, Bool.eq_iff_iff]), unhide HB3⟩
    · have k14 : (e0 == 14) = false := by rw [beq_eq_false_iff_ne]; exact h14
      by_cases h13 : e0 = 13
      · subst h13
        go_wp2
        go_ret
        exact ⟨ret_bool (by rw [unhide HR13, Bool.eq_iff_iff, decide_eq_true_eq, decide_eq_true_eq]; omega), unhide HB3⟩
      · have k13 : (e0 == 13) = false := by rw [beq_eq_false_iff_ne]; exact h13
        by_cases h15 : e0 = 15
        · subst h15
          go_wp2
          go_ret
          exact ⟨ret_bool (by rw [unhide HR15, Bool.eq_iff_iff, decide_eq_true_eq, decide_eq_true_eq]; omega), unhide HB3⟩
        · have k15 : (e0 == 15) = false := by rw [beq_eq_false_iff_ne]; exact h15
          have HX := hide (unhide HREL h14 h13 h15)
          clear h13 h14 h15
          go_wp2
          go_ret
          exact ⟨ret_bool (unhide HX).symm, unhide HB3⟩
end Go.Proofs.YtdcjimlhaklhfabGreatDoor

namespace Go.Proofs.YtdcjimlhaklhfabGreatDoor
open Go.RowKit
/-! Scripts between two trees, as the document looks at them: lists of steps. -/
/-- the step home of a node of the second tree -/
def homeB (a : List Nd) (n : Nd) : List St := match lookR a n.id with
  | none => [⟨43, n⟩]
  | some m => if ndEq m n then [] else [⟨61, n⟩]
/-- the step home of a node of the first tree -/
def homeA (b : List Nd) (n : Nd) : List St := match lookR b n.id with
  | none => [⟨45, ⟨n.id, 0, []⟩⟩]
  | some _ => []
def homesR (a b : List Nd) : List St := b.flatMap (homeB a) ++ a.flatMap (homeA b)
theorem flat_take_succ {α : Type} (f : Nd → List α) (l : List Nd) (k : Nat) (h : k < l.length) : (l.take (k + 1)).flatMap f = (l.take k).flatMap f ++ f l[k] := by
  rw [List.take_succ_eq_append_getElem h, List.flatMap_append]; simp
theorem homeB_len (a : List Nd) (n : Nd) : (homeB a n).length ≤ 1 := by
  unfold homeB; split
  · simp
  · split <;> simp
theorem homeA_len (b : List Nd) (n : Nd) : (homeA b n).length ≤ 1 := by
  unfold homeA; split <;> simp
theorem flat_len {α : Type} (f : Nd → List α) (hf : ∀ n, (f n).length ≤ 1) : ∀ l : List Nd, (l.flatMap f).length ≤ l.length := by
  intro l
  induction l with
  | nil => simp
  | cons n l ih => rw [List.flatMap_cons, List.length_append, List.length_cons]; have := hf n; omega
theorem homesR_len (a b : List Nd) : (homesR a b).length ≤ a.length + b.length := by
  unfold homesR; rw [List.length_append]
  have h1 := flat_len (homeB a) (homeB_len a) b
  have h2 := flat_len (homeA b) (homeA_len b) a
  omega
/-- Where a step stands. -/
def atIs (l : List St) (s : St) (i : Nat) : Bool := match l[i]? with
  | none => false
  | some x => stEq x s
/-- Where 'without' stands behind i steps. -/
def WoInv (l : List St) (k i : Nat) (out : List St) : Prop := out = (l.take i).eraseIdx k
theorem woInv_yes {l : List St} {k i : Nat} {out : List St} (h : WoInv l k i out) (hi : i < l.length) (hk : i ≠ k) : WoInv l k (i + 1) (out ++ [l[i]]) := by
  unfold WoInv at *
  rw [List.take_succ_eq_append_getElem hi, h]
  have hl : (l.take i).length = i := by rw [List.length_take]; omega
  rcases Nat.lt_or_ge k i with hlt | hge
  · rw [List.eraseIdx_append_of_lt_length (by omega)]
  · rw [List.eraseIdx_of_length_le (by omega), List.eraseIdx_of_length_le (by rw [List.length_append, hl]; simp; omega)]
theorem woInv_no {l : List St} {k : Nat} {out : List St} (h : WoInv l k k out) (hi : k < l.length) : WoInv l k (k + 1) out := by
  unfold WoInv at *
  have hl : (l.take k).length = k := by rw [List.length_take]; omega
  rw [List.take_succ_eq_append_getElem hi, h, List.eraseIdx_of_length_le (by omega), List.eraseIdx_append_of_length_le (by omega), hl]
  simp
theorem woInv_end {l : List St} {k i : Nat} {out : List St} (h : WoInv l k i out) (hi : ¬ i < l.length) : l.eraseIdx k = out := by
  unfold WoInv at h
  rw [List.take_of_length_le (by omega)] at h; exact h.symm
theorem woInv_len {l : List St} {k i : Nat} {out : List St} (h : WoInv l k i out) : out.length ≤ i := by
  unfold WoInv at h; rw [h]
  have h1 := List.length_eraseIdx_le (l.take i) k
  have h2 : (l.take i).length ≤ i := by rw [List.length_take]; omega
  omega
/-- Where the first loop of 'homes' stands behind i nodes. -/
def HbInv (a b : List Nd) (i : Nat) (out : List St) : Prop := out = (b.take i).flatMap (homeB a)
def HaInv (a b : List Nd) (i : Nat) (out : List St) : Prop := out = b.flatMap (homeB a) ++ (a.take i).flatMap (homeA b)
theorem hbInv_next {a b : List Nd} {i : Nat} {out : List St} (h : HbInv a b i out) (hi : i < b.length) {x : List St} (hx : homeB a b[i] = x) : HbInv a b (i + 1) (out ++ x) := by
  unfold HbInv at *; rw [flat_take_succ _ _ _ hi, h, hx]
theorem hbInv_end {a b : List Nd} {i : Nat} {out : List St} (h : HbInv a b i out) (hi : ¬ i < b.length) : HaInv a b 0 out := by
  unfold HbInv at h; unfold HaInv
  rw [List.take_of_length_le (by omega)] at h; rw [h]; simp
theorem haInv_next {a b : List Nd} {i : Nat} {out : List St} (h : HaInv a b i out) (hi : i < a.length) {x : List St} (hx : homeA b a[i] = x) : HaInv a b (i + 1) (out ++ x) := by
  unfold HaInv at *; rw [flat_take_succ _ _ _ hi, h, hx, List.append_assoc]
theorem haInv_end {a b : List Nd} {i : Nat} {out : List St} (h : HaInv a b i out) (hi : ¬ i < a.length) : homesR a b = out := by
  unfold HaInv at h
  rw [List.take_of_length_le (by omega)] at h; rw [h]; rfl
theorem hbInv_len {a b : List Nd} {i : Nat} {out : List St} (h : HbInv a b i out) (hi : i ≤ b.length) : out.length ≤ i := by
  unfold HbInv at h; rw [h]
  have := flat_len (homeB a) (homeB_len a) (b.take i)
  rw [List.length_take] at this; omega
theorem haInv_len {a b : List Nd} {i : Nat} {out : List St} (h : HaInv a b i out) (hi : i ≤ a.length) : out.length ≤ b.length + i := by
  unfold HaInv at h; rw [h, List.length_append]
  have h1 := flat_len (homeB a) (homeB_len a) b
  have h2 := flat_len (homeA b) (homeA_len b) (a.take i)
  rw [List.length_take] at h2; omega
theorem homeB_new {a : List Nd} {n : Nd} (h : lookR a n.id = none) : homeB a n = [⟨43, n⟩] := by unfold homeB; rw [h]
theorem homeB_same {a : List Nd} {n m : Nd} (h : lookR a n.id = some m) (he : ndEq m n = true) : homeB a n = [] := by unfold homeB; rw [h]; exact if_pos he
theorem homeB_else {a : List Nd} {n m : Nd} (h : lookR a n.id = some m) (he : ndEq m n = false) : homeB a n = [⟨61, n⟩] := by unfold homeB; rw [h]; exact if_neg (by rw [he]; decide)
theorem homeA_gone {b : List Nd} {n : Nd} (h : lookR b n.id = none) : homeA b n = [⟨45, ⟨n.id, 0, []⟩⟩] := by unfold homeA; rw [h]
theorem homeA_kept {b : List Nd} {n m : Nd} (h : lookR b n.id = some m) : homeA b n = [] := by unfold homeA; rw [h]
end Go.Proofs.YtdcjimlhaklhfabGreatDoor
