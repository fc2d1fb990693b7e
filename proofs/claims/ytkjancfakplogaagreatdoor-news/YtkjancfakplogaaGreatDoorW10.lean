import Derived.Test.YtkjancfakplogaaGreatDoorW9
namespace Go.Proofs.YtkjancfakplogaaGreatDoor
open Go.RowKit
def readT (l : Str) : Tr := if (checkT l).1 = 0 then gather (readNodes (cut l)) else tr0
theorem zeroSize : (Tryz.prog.info? 88).map (·.size) = some Tryz.zeroCells88.size := by rw [zeroTree]; exact treeSize' tr0
theorem zeroOne : Tryz.zeroCells88.all (·.oneCell') = true := by rw [zeroTree]; exact treeOne tr0
theorem treeAt_new (w : World) : TreeAt ext0 (w.alloc (.cells Tryz.zeroCells88 88)) w.heap.size tr0 := by
  unfold TreeAt ext0; rw [zeroTree]; simpa using heap_alloc_new w (.cells (treeCells tr0).toArray 88)
theorem treeAt_thereZ {w : World} {b : Nat} {t : Tr} (h : TreeAt ext0 w b t) : w.there b 0 Tryz.zeroCells88.size := by rw [zeroTree]; exact treeAt_there h tr0
theorem treeAt_storedZ {w : World} {b : Nat} {t : Tr} (h : TreeAt ext0 w b t) : TreeAt ext0 (w.setCells b 0 Tryz.zeroCells88.toList) b tr0 := by rw [zeroTree]; exact treeAt_stored h tr0
theorem treeAt_load {w : World} {b : Nat} {t : Tr} (h : TreeAt ext0 w b t) : (loadVar 88 ⟨b, 0, none⟩).run Tryz.prog w = .ok (.agg (treeCells t).toArray) w :=
  run_loadVar_mid w b 0 88 (treeCells t) _ (treeAt_range h) Tryz.underlying88 rfl (treeSize t)
set_option maxHeartbeats 1000000 in
theorem read_long (s : ByteArray) (w : World) (hs : 4000 < s.size) :
    Calls Tryz.prog 42 #[.string s] w fun e w' => e = .returned (.tuple #[.agg (treeCells tr0).toArray, .int .i64 1, .int .i64 0]) ∧ Below w.heap.size w w' := by
  have HT := hide (treeAt_new w)
  go_enter Tryz.func42, Tryz.ntmps42
  go_wp2_with (refine wpList_store_mid (by rfl) 88 (.tmp 2) (.tmp 13) (by rfl) w.heap.size 0 Tryz.zeroCells88 (by rfl) (by rfl) (treeAt_thereZ (unhide HT)) zeroSize zeroOne ?_)
  have hl := treeAt_load (treeAt_storedZ (unhide HT))
  refine bodyPost_ret (v := .tuple #[.agg (treeCells tr0).toArray, .int .i64 1, .int .i64 0]) (by simp [results, Tryz.results42, asAddr, hl]) rfl ⟨rfl, ?_⟩
  exact below_setCells ((Below.refl _ _).alloc (Nat.le_refl _) _) (Nat.le_refl _) (by simp) _ _
set_option maxHeartbeats 1000000 in
theorem read_form (s : ByteArray) (w : World) (hs : s.size ≤ 4000) (hB : (readNodes (cut (sl s))).length < (cut (sl s)).length) :
    Calls Tryz.prog 42 #[.string s] w fun e w' => e = .returned (.tuple #[.agg (treeCells tr0).toArray, .int .i64 2, .int .i64 (readNodes (cut (sl s))).length]) ∧ Below w.heap.size w w' := by
  have HC := hide (fun W => cut_any s W hs)
  have hrl : (cut (sl s)).length ≤ 4000 := by have := cut_length_le (sl s); rw [sl_length] at this; omega
  have hrm : ∀ r ∈ cut (sl s), r.length ≤ 4000 := fun r hr => by have := cut_mem_len (sl s) r hr; rw [sl_length] at this; omega
  have hnl := readNodes_length (cut (sl s))
  have HNB := hide (readNodes_bd (cut (sl s)))
  have HRN := hide (fun ao cap W (h : Row W ao (cut (sl s)).length 1 ((cut (sl s)).map strV)) => readNodes_any (cut (sl s)) ao cap W h hrm hrl)
  clear hrm
  have HT := hide (treeAt_new w)
  generalize readNodes (cut (sl s)) = ns at *
  generalize cut (sl s) = rs at *
  go_enter Tryz.func42, Tryz.ntmps42
  go_wp2_with fail
  refine (unhide HC _).mono ?_
  rintro e w1 ⟨ao, cap, rfl, hrow1, hb1⟩
  have HROW1 := hide hrow1; clear hrow1
  go_wp2_with fail
  refine (unhide HRN _ _ _ (unhide HROW1)).mono ?_
  rintro e w2 ⟨ao2, cap2, rfl, hrow2, hb2⟩
  have HROW2 := hide hrow2; clear hrow2
  have hb12 := hb1.trans (hb2.mono hb1.size)
  have HT2 := hide ((unhide HT).below hb12)
  have HB12 : Hid (Below w.heap.size w w2) := hide (((Below.refl _ _).alloc (Nat.le_refl _) _).trans (hb12.mono (by simp)))
  have hz2 : w.heap.size + 1 ≤ w2.heap.size := by have := hb12.size; simp at this; omega
  clear hb1 hb2 hb12
  go_wp2_with (refine wpList_store_mid (by rfl) 88 (.tmp 2) (.tmp 23) (by rfl) w.heap.size 0 Tryz.zeroCells88 (by rfl) (by rfl) (treeAt_thereZ (unhide HT2)) zeroSize zeroOne ?_)
  have hl := treeAt_load (treeAt_storedZ (unhide HT2))
  refine bodyPost_ret (v := .tuple #[.agg (treeCells tr0).toArray, .int .i64 2, .int .i64 ns.length]) (by simp [results, Tryz.results42, asAddr, hl]) rfl ⟨rfl, ?_⟩
  exact below_setCells (unhide HB12) (Nat.le_refl _) (by omega) _ _
set_option maxHeartbeats 1000000 in
theorem read_order (s : ByteArray) (w : World) (hs : s.size ≤ 4000) (hB : ¬ (readNodes (cut (sl s))).length < (cut (sl s)).length)
    (hU : scan (unordered (readNodes (cut (sl s)))) 1 (readNodes (cut (sl s))).length < (readNodes (cut (sl s))).length) :
    Calls Tryz.prog 42 #[.string s] w fun e w' => e = .returned (.tuple #[.agg (treeCells tr0).toArray, .int .i64 3, .int .i64 (scan (unordered (readNodes (cut (sl s)))) 1 (readNodes (cut (sl s))).length)]) ∧ Below w.heap.size w w' := by
  have HC := hide (fun W => cut_any s W hs)
  have hrl : (cut (sl s)).length ≤ 4000 := by have := cut_length_le (sl s); rw [sl_length] at this; omega
  have hrm : ∀ r ∈ cut (sl s), r.length ≤ 4000 := fun r hr => by have := cut_mem_len (sl s) r hr; rw [sl_length] at this; omega
  have hnl := readNodes_length (cut (sl s))
  have HNB := hide (readNodes_bd (cut (sl s)))
  have HRN := hide (fun ao cap W (h : Row W ao (cut (sl s)).length 1 ((cut (sl s)).map strV)) => readNodes_any (cut (sl s)) ao cap W h hrm hrl)
  clear hrm
  have HT := hide (treeAt_new w)
  have HUN := hide (fun ao cap W h => unordered_any (readNodes (cut (sl s))) ao cap W h (by omega))
  generalize readNodes (cut (sl s)) = ns at *
  generalize cut (sl s) = rs at *
  generalize scan (unordered ns) 1 ns.length = u at *
  go_enter Tryz.func42, Tryz.ntmps42
  go_wp2_with fail
  refine (unhide HC _).mono ?_
  rintro e w1 ⟨ao, cap, rfl, hrow1, hb1⟩
  have HROW1 := hide hrow1; clear hrow1
  go_wp2_with fail
  refine (unhide HRN _ _ _ (unhide HROW1)).mono ?_
  rintro e w2 ⟨ao2, cap2, rfl, hrow2, hb2⟩
  have HROW2 := hide hrow2; clear hrow2
  have hb12 := hb1.trans (hb2.mono hb1.size)
  have HT2 := hide ((unhide HT).below hb12)
  have HB12 : Hid (Below w.heap.size w w2) := hide (((Below.refl _ _).alloc (Nat.le_refl _) _).trans (hb12.mono (by simp)))
  have hz2 : w.heap.size + 1 ≤ w2.heap.size := by have := hb12.size; simp at this; omega
  clear hb1 hb2 hb12
  go_wp2_with fail
  refine (unhide HUN _ _ _ (unhide HROW2)).mono ?_
  rintro e w3 ⟨rfl, nq, rfl⟩
  have HT3 : Hid (TreeAt ext0 (w2.drewN nq) w.heap.size tr0) := hide ((unhide HT2).drewN nq)
  go_wp2_with (refine wpList_store_mid (by rfl) 88 (.tmp 2) (.tmp 32) (by rfl) w.heap.size 0 Tryz.zeroCells88 (by rfl) (by rfl) (treeAt_thereZ (unhide HT3)) zeroSize zeroOne ?_)
  have hl := treeAt_load (treeAt_storedZ (unhide HT3))
  refine bodyPost_ret (v := .tuple #[.agg (treeCells tr0).toArray, .int .i64 3, .int .i64 u]) (by simp [results, Tryz.results42, asAddr, hl]) rfl ⟨rfl, ?_⟩
  exact below_setCells (below_drewN (unhide HB12) _) (Nat.le_refl _) (show w.heap.size ≤ w2.heap.size by omega) _ _
set_option maxHeartbeats 1000000 in
theorem read_place (s : ByteArray) (w : World) (hs : s.size ≤ 4000) (hB : ¬ (readNodes (cut (sl s))).length < (cut (sl s)).length)
    (hU : ¬ scan (unordered (readNodes (cut (sl s)))) 1 (readNodes (cut (sl s))).length < (readNodes (cut (sl s))).length)
    (hM : ((misplaced (gather (readNodes (cut (sl s)))) (readNodes (cut (sl s)))).1 != 0) = true) :
    Calls Tryz.prog 42 #[.string s] w fun e w' => e = .returned (.tuple #[.agg (treeCells tr0).toArray, .int .i64 (misplaced (gather (readNodes (cut (sl s)))) (readNodes (cut (sl s)))).1, .int .i64 (misplaced (gather (readNodes (cut (sl s)))) (readNodes (cut (sl s)))).2]) ∧ Below w.heap.size w w' := by
  have HC := hide (fun W => cut_any s W hs)
  have hrl : (cut (sl s)).length ≤ 4000 := by have := cut_length_le (sl s); rw [sl_length] at this; omega
  have hrm : ∀ r ∈ cut (sl s), r.length ≤ 4000 := fun r hr => by have := cut_mem_len (sl s) r hr; rw [sl_length] at this; omega
  have hnl := readNodes_length (cut (sl s))
  have HNB := hide (readNodes_bd (cut (sl s)))
  have HRN := hide (fun ao cap W (h : Row W ao (cut (sl s)).length 1 ((cut (sl s)).map strV)) => readNodes_any (cut (sl s)) ao cap W h hrm hrl)
  clear hrm
  have HT := hide (treeAt_new w)
  have HUN := hide (fun ao cap W h => unordered_any (readNodes (cut (sl s))) ao cap W h (by omega))
  have HGA := hide (fun ao cap W h => gather_any (readNodes (cut (sl s))) ao cap W h (fun n hn => ⟨(unhide HNB n hn).1, (unhide HNB n hn).2.1⟩) (by omega))
  have HMI := hide (fun b ao cap W h1 h2 => misplaced_any (x := ext0) (gather (readNodes (cut (sl s)))) b (readNodes (cut (sl s))) ao cap W (gather_ok _) h1 h2 (unhide HNB) (by omega))
  generalize misplaced (gather (readNodes (cut (sl s)))) (readNodes (cut (sl s))) = M at *
  generalize gather (readNodes (cut (sl s))) = T at *
  generalize readNodes (cut (sl s)) = ns at *
  generalize cut (sl s) = rs at *
  generalize scan (unordered ns) 1 ns.length = u at *
  go_enter Tryz.func42, Tryz.ntmps42
  go_wp2_with fail
  refine (unhide HC _).mono ?_
  rintro e w1 ⟨ao, cap, rfl, hrow1, hb1⟩
  have HROW1 := hide hrow1; clear hrow1
  go_wp2_with fail
  refine (unhide HRN _ _ _ (unhide HROW1)).mono ?_
  rintro e w2 ⟨ao2, cap2, rfl, hrow2, hb2⟩
  have HROW2 := hide hrow2; clear hrow2
  have hb12 := hb1.trans (hb2.mono hb1.size)
  have HT2 := hide ((unhide HT).below hb12)
  have HB12 : Hid (Below w.heap.size w w2) := hide (((Below.refl _ _).alloc (Nat.le_refl _) _).trans (hb12.mono (by simp)))
  have hz2 : w.heap.size + 1 ≤ w2.heap.size := by have := hb12.size; simp at this; omega
  clear hb1 hb2 hb12
  go_wp2_with fail
  refine (unhide HUN _ _ _ (unhide HROW2)).mono ?_
  rintro e w3 ⟨rfl, nq, rfl⟩
  have HT3 : Hid (TreeAt ext0 (w2.drewN nq) w.heap.size tr0) := hide ((unhide HT2).drewN nq)
  have HROW3 : Hid (Row (w2.drewN nq) ao2 ns.length 3 (ndCells ns)) := hide ((unhide HROW2).below (below_drewN (Below.refl _ _) nq))
  have HB3 : Hid (Below w.heap.size w (w2.drewN nq)) := hide (below_drewN (unhide HB12) nq)
  have hz3 : w.heap.size + 1 ≤ (w2.drewN nq).heap.size := hz2
  clear hz2 HT2 HROW2 HB12
  obtain ⟨w3, hw3⟩ : ∃ x, w2.drewN nq = x := ⟨_, rfl⟩
  rw [hw3] at HT3 HROW3 HB3 hz3 ⊢
  clear hw3
  go_wp2_with fail
  refine (unhide HGA _ _ _ (unhide HROW3)).mono ?_
  rintro e w4 ⟨rfl, hb4⟩
  have HT4 := hide ((unhide HT3).below hb4)
  have HROW4 := hide ((unhide HROW3).below hb4)
  have HB4 := hide ((unhide HB3).trans (hb4.mono (by omega)))
  have hz4 : w.heap.size + 1 ≤ w4.heap.size := by have := hb4.size; omega
  clear hb4 HT3 HROW3 HB3
  have HN := hide (treeAt_new w4)
  have HBa := hide ((Below.refl w4.heap.size w4).alloc (Nat.le_refl _) (.cells Tryz.zeroCells88 88))
  have HB5 : Hid (Below w4.heap.size w4 ((w4.alloc (.cells Tryz.zeroCells88 88)).setCells w4.heap.size 0 (treeCells T))) := hide (below_setCells (unhide HBa) (Nat.le_refl _) (by simp) _ _)
  have HT5 : Hid (TreeAt ext0 ((w4.alloc (.cells Tryz.zeroCells88 88)).setCells w4.heap.size 0 (treeCells T)) w4.heap.size T) := hide (treeAt_stored (unhide HN) T)
  go_wp2_with (refine wpList_store_mid (by rfl) 88 (.tmp 8) (.tmp 35) (by rfl) w4.heap.size 0 (treeCells T).toArray (by rfl) (by rfl) (by exact treeAt_there (unhide HN) T) (treeSize' T) (treeOne T) ?_)
  refine (unhide HMI _ _ _ _ (unhide HT5) ((unhide HROW4).below (unhide HB5))).mono ?_
  rintro e w6 ⟨rfl, hb6⟩
  have HT6 := hide (((unhide HT4).below (unhide HB5)).below hb6)
  have HT6' := hide ((unhide HT5).below hb6)
  have hsz5 : w4.heap.size ≤ ((w4.alloc (.cells Tryz.zeroCells88 88)).setCells w4.heap.size 0 (treeCells T)).heap.size := (unhide HB5).size
  have HB6 := hide ((unhide HB4).trans (((unhide HB5).trans (hb6.mono hsz5)).mono (by omega)))
  have hz6 : w.heap.size + 1 ≤ w6.heap.size := by have := hb6.size; omega
  clear hb6 HB5 HT5 HBa HN hsz5
  go_wp2_with (refine wpList_store_mid (by rfl) 88 (.tmp 2) (.tmp 43) (by rfl) w.heap.size 0 Tryz.zeroCells88 (by rfl) (by rfl) (treeAt_thereZ (unhide HT6)) zeroSize zeroOne ?_)
  have hl := treeAt_load (treeAt_storedZ (unhide HT6))
  refine bodyPost_ret (v := .tuple #[.agg (treeCells tr0).toArray, .int .i64 M.1, .int .i64 M.2]) (by simp [results, Tryz.results42, asAddr, hl]) rfl ⟨rfl, ?_⟩
  exact below_setCells (unhide HB6) (Nat.le_refl _) (by omega) _ _
set_option maxHeartbeats 1000000 in
theorem read_ok (s : ByteArray) (w : World) (hs : s.size ≤ 4000) (hB : ¬ (readNodes (cut (sl s))).length < (cut (sl s)).length)
    (hU : ¬ scan (unordered (readNodes (cut (sl s)))) 1 (readNodes (cut (sl s))).length < (readNodes (cut (sl s))).length)
    (hM : ((misplaced (gather (readNodes (cut (sl s)))) (readNodes (cut (sl s)))).1 != 0) = false) :
    Calls Tryz.prog 42 #[.string s] w fun e w' => e = .returned (.tuple #[.agg (treeCells (gather (readNodes (cut (sl s))))).toArray, .int .i64 0, .int .i64 0]) ∧ Below w.heap.size w w' := by
  have HC := hide (fun W => cut_any s W hs)
  have hrl : (cut (sl s)).length ≤ 4000 := by have := cut_length_le (sl s); rw [sl_length] at this; omega
  have hrm : ∀ r ∈ cut (sl s), r.length ≤ 4000 := fun r hr => by have := cut_mem_len (sl s) r hr; rw [sl_length] at this; omega
  have hnl := readNodes_length (cut (sl s))
  have HNB := hide (readNodes_bd (cut (sl s)))
  have HRN := hide (fun ao cap W (h : Row W ao (cut (sl s)).length 1 ((cut (sl s)).map strV)) => readNodes_any (cut (sl s)) ao cap W h hrm hrl)
  clear hrm
  have HT := hide (treeAt_new w)
  have HUN := hide (fun ao cap W h => unordered_any (readNodes (cut (sl s))) ao cap W h (by omega))
  have HGA := hide (fun ao cap W h => gather_any (readNodes (cut (sl s))) ao cap W h (fun n hn => ⟨(unhide HNB n hn).1, (unhide HNB n hn).2.1⟩) (by omega))
  have HMI := hide (fun b ao cap W h1 h2 => misplaced_any (x := ext0) (gather (readNodes (cut (sl s)))) b (readNodes (cut (sl s))) ao cap W (gather_ok _) h1 h2 (unhide HNB) (by omega))
  generalize misplaced (gather (readNodes (cut (sl s)))) (readNodes (cut (sl s))) = M at *
  generalize gather (readNodes (cut (sl s))) = T at *
  generalize readNodes (cut (sl s)) = ns at *
  generalize cut (sl s) = rs at *
  generalize scan (unordered ns) 1 ns.length = u at *
  go_enter Tryz.func42, Tryz.ntmps42
  go_wp2_with fail
  refine (unhide HC _).mono ?_
  rintro e w1 ⟨ao, cap, rfl, hrow1, hb1⟩
  have HROW1 := hide hrow1; clear hrow1
  go_wp2_with fail
  refine (unhide HRN _ _ _ (unhide HROW1)).mono ?_
  rintro e w2 ⟨ao2, cap2, rfl, hrow2, hb2⟩
  have HROW2 := hide hrow2; clear hrow2
  have hb12 := hb1.trans (hb2.mono hb1.size)
  have HT2 := hide ((unhide HT).below hb12)
  have HB12 : Hid (Below w.heap.size w w2) := hide (((Below.refl _ _).alloc (Nat.le_refl _) _).trans (hb12.mono (by simp)))
  have hz2 : w.heap.size + 1 ≤ w2.heap.size := by have := hb12.size; simp at this; omega
  clear hb1 hb2 hb12
  go_wp2_with fail
  refine (unhide HUN _ _ _ (unhide HROW2)).mono ?_
  rintro e w3 ⟨rfl, nq, rfl⟩
  have HT3 : Hid (TreeAt ext0 (w2.drewN nq) w.heap.size tr0) := hide ((unhide HT2).drewN nq)
  have HROW3 : Hid (Row (w2.drewN nq) ao2 ns.length 3 (ndCells ns)) := hide ((unhide HROW2).below (below_drewN (Below.refl _ _) nq))
  have HB3 : Hid (Below w.heap.size w (w2.drewN nq)) := hide (below_drewN (unhide HB12) nq)
  have hz3 : w.heap.size + 1 ≤ (w2.drewN nq).heap.size := hz2
  clear hz2 HT2 HROW2 HB12
  obtain ⟨w3, hw3⟩ : ∃ x, w2.drewN nq = x := ⟨_, rfl⟩
  rw [hw3] at HT3 HROW3 HB3 hz3 ⊢
  clear hw3
  go_wp2_with fail
  refine (unhide HGA _ _ _ (unhide HROW3)).mono ?_
  rintro e w4 ⟨rfl, hb4⟩
  have HT4 := hide ((unhide HT3).below hb4)
  have HROW4 := hide ((unhide HROW3).below hb4)
  have HB4 := hide ((unhide HB3).trans (hb4.mono (by omega)))
  have hz4 : w.heap.size + 1 ≤ w4.heap.size := by have := hb4.size; omega
  clear hb4 HT3 HROW3 HB3
  have HN := hide (treeAt_new w4)
  have HBa := hide ((Below.refl w4.heap.size w4).alloc (Nat.le_refl _) (.cells Tryz.zeroCells88 88))
  have HB5 : Hid (Below w4.heap.size w4 ((w4.alloc (.cells Tryz.zeroCells88 88)).setCells w4.heap.size 0 (treeCells T))) := hide (below_setCells (unhide HBa) (Nat.le_refl _) (by simp) _ _)
  have HT5 : Hid (TreeAt ext0 ((w4.alloc (.cells Tryz.zeroCells88 88)).setCells w4.heap.size 0 (treeCells T)) w4.heap.size T) := hide (treeAt_stored (unhide HN) T)
  go_wp2_with (refine wpList_store_mid (by rfl) 88 (.tmp 8) (.tmp 35) (by rfl) w4.heap.size 0 (treeCells T).toArray (by rfl) (by rfl) (by exact treeAt_there (unhide HN) T) (treeSize' T) (treeOne T) ?_)
  refine (unhide HMI _ _ _ _ (unhide HT5) ((unhide HROW4).below (unhide HB5))).mono ?_
  rintro e w6 ⟨rfl, hb6⟩
  have HT6 := hide (((unhide HT4).below (unhide HB5)).below hb6)
  have HT6' := hide ((unhide HT5).below hb6)
  have hsz5 : w4.heap.size ≤ ((w4.alloc (.cells Tryz.zeroCells88 88)).setCells w4.heap.size 0 (treeCells T)).heap.size := (unhide HB5).size
  have HB6 := hide ((unhide HB4).trans (((unhide HB5).trans (hb6.mono hsz5)).mono (by omega)))
  have hz6 : w.heap.size + 1 ≤ w6.heap.size := by have := hb6.size; omega
  clear hb6 HB5 HT5 HBa HN hsz5
  go_wp2_with (first
    | (refine wpList_load_mid (by rfl) 88 (.tmp 8) (by rfl) w4.heap.size 0 (by rfl) (treeCells T) _ (treeAt_range (unhide HT6')) Tryz.underlying88 (by rfl) (treeSize T) ?_)
    | (refine wpList_store_mid (by rfl) 88 (.tmp 2) (.tmp 46) (by rfl) w.heap.size 0 (treeCells T).toArray (by rfl) (by rfl) (treeAt_there (unhide HT6) T) (treeSize' T) (treeOne T) ?_))
  have hl := treeAt_load (treeAt_stored (unhide HT6) T)
  refine bodyPost_ret (v := .tuple #[.agg (treeCells T).toArray, .int .i64 0, .int .i64 0]) (by simp [results, Tryz.results42, asAddr, hl]) rfl ⟨rfl, ?_⟩
  exact below_setCells (unhide HB6) (Nat.le_refl _) (by omega) _ _
theorem misplaced_zero {t : Tr} {ns : List Nd} (h : ((misplaced t ns).1 != 0) = false) : misplaced t ns = (0, 0) := by
  unfold misplaced at h ⊢
  split <;> (try split) <;> (try split) <;> simp_all
theorem read_any (s : ByteArray) (w : World) :
    Calls Tryz.prog 42 #[.string s] w fun e w' => e = .returned (.tuple #[.agg (treeCells (readT (sl s))).toArray, .int .i64 (checkT (sl s)).1, .int .i64 (checkT (sl s)).2]) ∧ Below w.heap.size w w' := by
  by_cases h1 : 4000 < s.size
  · have e : checkT (sl s) = (1, 0) := by unfold checkT; rw [sl_length, if_pos h1]
    rw [readT, e]; exact read_long s w h1
  · by_cases h2 : (readNodes (cut (sl s))).length < (cut (sl s)).length
    · have e : checkT (sl s) = (2, (readNodes (cut (sl s))).length) := by unfold checkT; rw [sl_length, if_neg h1]; simp only []; rw [if_pos h2]
      rw [readT, e]; exact read_form s w (by omega) h2
    · by_cases h3 : scan (unordered (readNodes (cut (sl s)))) 1 (readNodes (cut (sl s))).length < (readNodes (cut (sl s))).length
      · have e : checkT (sl s) = (3, scan (unordered (readNodes (cut (sl s)))) 1 (readNodes (cut (sl s))).length) := by unfold checkT; rw [sl_length, if_neg h1]; simp only []; rw [if_neg h2, if_pos h3]
        rw [readT, e]; exact read_order s w (by omega) h2 h3
      · have e : checkT (sl s) = misplaced (gather (readNodes (cut (sl s)))) (readNodes (cut (sl s))) := by unfold checkT; rw [sl_length, if_neg h1]; simp only []; rw [if_neg h2, if_neg h3]
        cases h4 : ((misplaced (gather (readNodes (cut (sl s)))) (readNodes (cut (sl s)))).1 != 0)
        · rw [readT, e, misplaced_zero h4]; exact read_ok s w (by omega) h2 h3 h4
        · rw [readT, e, if_neg (by simpa using h4)]; exact read_place s w (by omega) h2 h3 h4
set_option maxHeartbeats 1000000 in
theorem check_any (s : ByteArray) (w : World) :
    Calls Tryz.prog 21 #[.string s] w fun e w' => e = .returned (.tuple #[.int .i64 (checkT (sl s)).1, .int .i64 (checkT (sl s)).2]) ∧ Below w.heap.size w w' := by
  have HR := hide (fun W => read_any s W)
  generalize checkT (sl s) = c at *
  generalize readT (sl s) = T at *
  go_enter Tryz.func21, Tryz.ntmps21
  go_wp2_with fail
  refine (unhide HR _).mono ?_
  rintro e w1 ⟨rfl, hb1⟩
  have HN := hide (treeAt_new w1)
  go_wp2_with (refine wpList_store_mid (by rfl) 88 (.tmp 4) (.tmp 10) (by rfl) w1.heap.size 0 (treeCells T).toArray (by rfl) (by rfl) (treeAt_there (unhide HN) T) (treeSize' T) (treeOne T) ?_)
  go_ret2
  exact ⟨rfl, below_setCells (hb1.alloc hb1.size _) hb1.size (by have := hb1.size; simp; omega) _ _⟩
end Go.Proofs.YtkjancfakplogaaGreatDoor
