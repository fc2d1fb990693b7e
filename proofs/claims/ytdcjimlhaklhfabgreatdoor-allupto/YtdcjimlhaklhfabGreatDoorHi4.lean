import Derived.Test.YtdcjimlhaklhfabGreatDoorHi3
import Derived.Test.YtdcjimlhaklhfabGreatDoorHi2
import Derived.Deep.RegionWith
import Derived.Deep.RegionHeld3
namespace Go.Proofs.YtdcjimlhaklhfabGreatDoor
open Go.RowKit
theorem names_eq (a b : Str) : ((bs a).toList == (bs b).toList) = (a == b) := by rw [tl_sl, tl_sl, sl_bs, sl_bs]
theorem same_get (ns : List Nd) (i j : Nat) (hi : i < ns.length) (hj : j < ns.length) : samePlace ns i j = (((ns[j]).parent == (ns[i]).parent) && ((ns[j]).name == (ns[i]).name)) := by
  unfold samePlace; rw [ndAt_get _ _ hi, ndAt_get _ _ hj]
theorem twice_yes {ns : List Nd} {i j : Nat} (h : j < i) (hs : samePlace ns i j = true) : twice ns i = true := by unfold twice; exact decide_eq_true ⟨j, h, hs⟩
theorem twice_no {ns : List Nd} {i : Nat} (h : NoIn (samePlace ns i) 0 i) : twice ns i = false := by
  unfold twice
  apply decide_eq_false
  rintro ⟨j, h1, h2⟩
  rw [h j (by omega) h1] at h2
  cases h2
set_option maxHeartbeats 2000000 in
theorem twice_any (ns : List Nd) (ao : Option Addr) (cap : Nat) (w : World) (hrow : Row w ao ns.length 3 (ndCells ns)) (hl : ns.length ≤ 4000) :
    Calls Tryz.prog 106 #[.slice ao ns.length cap] w fun e w' => e = .returned (.int .i64 (scan (twice ns) 0 ns.length)) ∧ ∃ n, w' = w.drewN n := by
  have HROW := hide hrow; clear hrow
  go_enter Tryz.func106, Tryz.ntmps106
  go_wp2
  go_loopw [7] (fun x wr => ∃ i nq : Nat, i ≤ ns.length ∧ x = .int .i64 i ∧ wr = w.drewN nq ∧ Hid (NoIn (twice ns) 0 i)) (fun x _ => ns.length - (intOf x).toNat)
  case atStart => exact ⟨0, 0, Nat.zero_le _, rfl, rfl, hide (fun j h1 h2 => by omega)⟩
  case round =>
    obtain ⟨i, nq, hi, rfl, rfl, HN⟩ := hrel
    by_cases hlt : i < ns.length
    · have hi0 : (0 : Int) ≤ i := by omega
      have hi1 : (i : Int) < ns.length := by omega
      go_wp2
      go_loopw [4] (fun x wr => ∃ j nq' : Nat, j ≤ i ∧ x = .int .i64 j ∧ wr = w.drewN nq' ∧ Hid (NoIn (samePlace ns i) 0 j)) (fun x _ => i - (intOf x).toNat)
      case atStart => exact ⟨0, nq, Nat.zero_le _, rfl, rfl, hide (fun j h1 h2 => by omega)⟩
      case round =>
        obtain ⟨j, nq', hj, rfl, rfl, HM⟩ := hrel
        by_cases hjl : j < i
        · have HB := hide (Below.refl w.heap.size w)
          have hj0 : (0 : Int) ≤ j := by omega
          have hj1 : (j : Int) < ns.length := by omega
          obtain ⟨g, hao, hg, _, c1, c2⟩ := nd_cells (unhide HROW) (unhide HB) hlt
          obtain ⟨g', hao', _, _, d1, d2⟩ := nd_cells (unhide HROW) (unhide HB) (show j < ns.length by omega)
          rw [hao] at hao'
          have hgg : g = g' := by cases hao'; rfl
          subst hgg
          rw [hao]
          have HU := hide (same_get ns i j hlt (by omega))
          clear hao hao' HB
          cases hpe : ((ns[j]).parent == (ns[i]).parent)
          · have HM2 := hide (noIn_succ (unhide HM) (by rw [unhide HU, hpe]; rfl))
            go_wp2
            go_quiet (fail)
            go_wp2
            go_roundw
            case rel => exact ⟨j + 1, _, by omega, by go_num, rfl, HM2⟩
            case measure => simp [intOf]; omega
          · cases hne : ((ns[j]).name == (ns[i]).name)
            · have HM2 := hide (noIn_succ (unhide HM) (by rw [unhide HU, hpe, hne]; rfl))
              have hne2 : ((bs (ns[j]).name).toList == (bs (ns[i]).name).toList) = false := by rw [names_eq]; exact hne
              clear hne
              go_wp2
              go_quiet (fail)
              go_wp2
              go_roundw
              case rel => exact ⟨j + 1, _, by omega, by go_num, rfl, HM2⟩
              case measure => simp [intOf]; omega
            · have HS : Hid (scan (twice ns) 0 ns.length = i) := hide (scan_hit (by omega) hlt (twice_yes hjl (by rw [unhide HU, hpe, hne]; rfl)) (unhide HN))
              have hne2 : ((bs (ns[j]).name).toList == (bs (ns[i]).name).toList) = true := by rw [names_eq]; exact hne
              clear hne
              go_wp2
              go_quiet (fail)
              go_wp2
              go_ret
              exact ⟨ret_int (by rw [unhide HS]), drew2 _ _ _⟩
        · have hji : j = i := by omega
          subst hji
          have HN2 := hide (noIn_succ (unhide HN) (twice_no (unhide HM)))
          go_wp2
          go_roundw
          case rel => exact ⟨j + 1, _, by omega, by go_num, rfl, HN2⟩
          case measure => simp [intOf]; omega
    · have HS : Hid (scan (twice ns) 0 ns.length = ns.length) := hide (scan_none (fun j h1 h2 => unhide HN j h1 (by omega)))
      go_wp2
      go_ret
      exact ⟨ret_int (by rw [unhide HS]), _, rfl⟩
end Go.Proofs.YtdcjimlhaklhfabGreatDoor

namespace Go.Proofs.YtdcjimlhaklhfabGreatDoor
open Go.RowKit
theorem ret_ii {a b c d : Int} (h : a = c) (g : b = d) : Ending.returned (.tuple #[.int .i64 a, .int .i64 b]) = .returned (.tuple #[.int .i64 c, .int .i64 d]) := by rw [h, g]
set_option maxHeartbeats 2000000 in
theorem misplaced_any {x : Ext} (t : Tr) (b : Nat) (ns : List Nd) (ao : Option Addr) (cap : Nat) (w : World) (ht : TrOk t) (hT : TreeAt x w b t) (hrow : Row w ao ns.length 3 (ndCells ns)) (hn : ∀ n ∈ ns, 1 ≤ n.id ∧ n.id ≤ 99 ∧ 0 ≤ n.parent ∧ n.parent ≤ 99 ∧ isName n.name n.id = true) (hl : ns.length ≤ 4000) :
    Calls Tryz.prog 70 #[.pointer (some ⟨b, 0, none⟩), .slice ao ns.length cap] w fun e w' => e = .returned (.tuple #[.int .i64 (misplaced t ns).1, .int .i64 (misplaced t ns).2]) ∧ Below w.heap.size w w' := by
  have HO := hide (fun W (h1 : TreeAt x W b t) (h2 : Row W ao ns.length 3 (ndCells ns)) => orphan_any t b ns ao cap W ht h1 h2 (fun n hh => ⟨(hn n hh).2.2.1, (hn n hh).2.2.2.1⟩) hl)
  have HL := hide (fun W (h1 : TreeAt x W b t) (h2 : Row W ao ns.length 3 (ndCells ns)) => looped_any t b ns ao cap W ht h1 h2 (fun n hh => ⟨by have := (hn n hh).1; omega, (hn n hh).2.1⟩) hl)
  have HW := hide (fun W (h2 : Row W ao ns.length 3 (ndCells ns)) => twice_any ns ao cap W h2 hl)
  have HM : Hid (misplaced t ns = if scan (orphan t ns) 0 ns.length < ns.length then (4, scan (orphan t ns) 0 ns.length) else if scan (looped t ns) 0 ns.length < ns.length then (5, scan (looped t ns) 0 ns.length) else if scan (twice ns) 0 ns.length < ns.length then (6, scan (twice ns) 0 ns.length) else (0, 0)) := hide rfl
  have b1 := scan_le (orphan t ns) 0 ns.length
  have b2 := scan_le (looped t ns) 0 ns.length
  have b3 := scan_le (twice ns) 0 ns.length
  have HT := hide hT; clear hT
  have HR := hide hrow; clear hrow
  clear hn ht
  generalize scan (orphan t ns) 0 ns.length = x at *
  generalize scan (looped t ns) 0 ns.length = y at *
  generalize scan (twice ns) 0 ns.length = z at *
  generalize misplaced t ns = M at *
  by_cases hx : x < ns.length
  · have HM1 : Hid (M = (4, x)) := by apply hide; rw [unhide HM, if_pos hx]
    go_enter Tryz.func70, Tryz.ntmps70
    go_wp2_with fail
    refine (unhide HO _ (unhide HT) (unhide HR)).mono ?_
    rintro e w1 ⟨rfl, hb1⟩
    go_wp2
    go_ret2
    exact ⟨by rw [unhide HM1]; rfl, hb1⟩
  · by_cases hy : y < ns.length
    · have HM1 : Hid (M = (5, y)) := by apply hide; rw [unhide HM, if_neg hx, if_pos hy]
      go_enter Tryz.func70, Tryz.ntmps70
      go_wp2_with fail
      refine (unhide HO _ (unhide HT) (unhide HR)).mono ?_
      rintro e w1 ⟨rfl, hb1⟩
      go_wp2_with fail
      refine (unhide HL _ ((unhide HT).below hb1) ((unhide HR).below hb1)).mono ?_
      rintro e w2 ⟨rfl, hb2⟩
      go_wp2
      go_ret2
      exact ⟨by rw [unhide HM1]; rfl, hb1.trans (hb2.mono hb1.size)⟩
    · by_cases hz : z < ns.length
      · have HM1 : Hid (M = (6, z)) := by apply hide; rw [unhide HM, if_neg hx, if_neg hy, if_pos hz]
        go_enter Tryz.func70, Tryz.ntmps70
        go_wp2_with fail
        refine (unhide HO _ (unhide HT) (unhide HR)).mono ?_
        rintro e w1 ⟨rfl, hb1⟩
        go_wp2_with fail
        refine (unhide HL _ ((unhide HT).below hb1) ((unhide HR).below hb1)).mono ?_
        rintro e w2 ⟨rfl, hb2⟩
        have HB2 := hide (hb1.trans (hb2.mono hb1.size))
        go_wp2_with fail
        refine (unhide HW _ ((unhide HR).below (unhide HB2))).mono ?_
        rintro e w3 ⟨rfl, nq, rfl⟩
        go_wp2
        go_ret2
        exact ⟨by rw [unhide HM1]; rfl, below_drewN (unhide HB2) _⟩
      · have HM1 : Hid (M = (0, 0)) := by apply hide; rw [unhide HM, if_neg hx, if_neg hy, if_neg hz]
        go_enter Tryz.func70, Tryz.ntmps70
        go_wp2_with fail
        refine (unhide HO _ (unhide HT) (unhide HR)).mono ?_
        rintro e w1 ⟨rfl, hb1⟩
        go_wp2_with fail
        refine (unhide HL _ ((unhide HT).below hb1) ((unhide HR).below hb1)).mono ?_
        rintro e w2 ⟨rfl, hb2⟩
        have HB2 := hide (hb1.trans (hb2.mono hb1.size))
        go_wp2_with fail
        refine (unhide HW _ ((unhide HR).below (unhide HB2))).mono ?_
        rintro e w3 ⟨rfl, nq, rfl⟩
        go_wp2
        go_ret2
        exact ⟨by rw [unhide HM1]; rfl, below_drewN (unhide HB2) _⟩
/-! A whole block stored. -/
theorem heap_setCells_row (b : Nat) (t : TypeId) : ∀ (vs : List Value) (o : Nat) (w : World) (cs : List Value), w.heap[b]? = some (.cells cs.toArray t (0, 0)) → o + vs.length ≤ cs.length →
    (w.setCells b o vs).heap[b]? = some (.cells (cs.take o ++ vs ++ cs.drop (o + vs.length)).toArray t (0, 0))
  | [], o, w, cs, h, hl => by simpa [World.setCells] using h
  | v :: r, o, w, cs, h, hl => by
    simp at hl
    have h1 : (w.setCell ⟨b, o, none⟩ v).heap[b]? = some (.cells (cs.set o v).toArray t (0, 0)) := by rw [heap_setCell_same w b o _ _ v h]; simp
    have := heap_setCells_row b t r (o + 1) _ _ h1 (by simp; omega)
    rw [World.setCells, this]
    have e1 : (cs.set o v).take (o + 1) = cs.take o ++ [v] := by
      rw [List.take_succ_eq_append_getElem (by simp; omega), List.take_set]; simp
      rw [List.set_eq_of_length_le (by simp; omega)]
    have e2 : (cs.set o v).drop (o + 1 + r.length) = cs.drop (o + (v :: r).length) := by
      rw [List.drop_set_of_lt (by omega)]; congr 1; simp; omega
    rw [e1, e2]; simp
theorem treeAt_stored {x : Ext} {w : World} {b : Nat} {t : Tr} (h : TreeAt x w b t) (t' : Tr) : TreeAt x (w.setCells b 0 (treeCells t')) b t' := by
  have := heap_setCells_row b x.ty (treeCells t') 0 w (treeCells t ++ x.rest) h (by simp [treeCells_length])
  unfold TreeAt
  rw [this]
  have hd : (treeCells t ++ x.rest).drop 400 = x.rest := by rw [← treeCells_length t, List.drop_left]
  simp [treeCells_length, hd]
end Go.Proofs.YtdcjimlhaklhfabGreatDoor

namespace Go.Proofs.YtdcjimlhaklhfabGreatDoor
open Go.RowKit
def readT (l : Str) : Tr := if (checkT l).1 = 0 then gather (readNodes (cut l)) else tr0
theorem zeroSize : (Tryz.prog.info? 78).map (·.size) = some Tryz.zeroCells78.size := by rw [zeroTree]; exact treeSize' tr0
theorem zeroOne : Tryz.zeroCells78.all (·.oneCell') = true := by rw [zeroTree]; exact treeOne tr0
theorem treeAt_new (w : World) : TreeAt ext0 (w.alloc (.cells Tryz.zeroCells78 78)) w.heap.size tr0 := by
  unfold TreeAt ext0; rw [zeroTree]; simpa using heap_alloc_new w (.cells (treeCells tr0).toArray 78)
theorem treeAt_thereZ {w : World} {b : Nat} {t : Tr} (h : TreeAt ext0 w b t) : w.there b 0 Tryz.zeroCells78.size := by rw [zeroTree]; exact treeAt_there h tr0
theorem treeAt_storedZ {w : World} {b : Nat} {t : Tr} (h : TreeAt ext0 w b t) : TreeAt ext0 (w.setCells b 0 Tryz.zeroCells78.toList) b tr0 := by rw [zeroTree]; exact treeAt_stored h tr0
theorem treeAt_load {w : World} {b : Nat} {t : Tr} (h : TreeAt ext0 w b t) : (loadVar 78 ⟨b, 0, none⟩).run Tryz.prog w = .ok (.agg (treeCells t).toArray) w :=
  run_loadVar_mid w b 0 78 (treeCells t) _ (treeAt_range h) Tryz.underlying78 rfl (treeSize t)
set_option maxHeartbeats 1000000 in
theorem read_long (s : ByteArray) (w : World) (hs : 4000 < s.size) :
    Calls Tryz.prog 36 #[.string s] w fun e w' => e = .returned (.tuple #[.agg (treeCells tr0).toArray, .int .i64 1, .int .i64 0]) ∧ Below w.heap.size w w' := by
  have HT := hide (treeAt_new w)
  go_enter Tryz.func36, Tryz.ntmps36
  go_wp2_with (refine wpList_store_mid (by rfl) 78 (.tmp 2) (.tmp 13) (by rfl) w.heap.size 0 Tryz.zeroCells78 (by rfl) (by rfl) (treeAt_thereZ (unhide HT)) zeroSize zeroOne ?_)
  have hl := treeAt_load (treeAt_storedZ (unhide HT))
  refine bodyPost_ret (v := .tuple #[.agg (treeCells tr0).toArray, .int .i64 1, .int .i64 0]) (by simp [results, Tryz.results36, asAddr, hl]) rfl ⟨rfl, ?_⟩
  exact below_setCells ((Below.refl _ _).alloc (Nat.le_refl _) _) (Nat.le_refl _) (by simp) _ _
set_option maxHeartbeats 1000000 in
theorem read_form (s : ByteArray) (w : World) (hs : s.size ≤ 4000) (hB : (readNodes (cut (sl s))).length < (cut (sl s)).length) :
    Calls Tryz.prog 36 #[.string s] w fun e w' => e = .returned (.tuple #[.agg (treeCells tr0).toArray, .int .i64 2, .int .i64 (readNodes (cut (sl s))).length]) ∧ Below w.heap.size w w' := by
  have HC := hide (fun W => cut_any s W hs)
  have hrl : (cut (sl s)).length ≤ 4000 := by have := cut_length_le (sl s); rw [sl_length] at this; omega
  have hrm : ∀ r ∈ cut (sl s), r.length ≤ 4000 := fun r hr => by have := cut_mem_len (sl s) r hr; rw [sl_length] at this; omega
  have hnl := readNodes_length (cut (sl s))
  have HNB := hide (readNodes_bd (cut (sl s)))
  have HRN := hide (fun ao cap W (h : Row W ao (cut (sl s)).length 1 ((cut (sl s)).map strV)) => readNodes_any (cut (sl s)) ao cap W h hrm hrl)
  clear hrm
  have HT := hide (treeAt_new w)
  generalize readNodes (cut (sl s)) = ns at *
  generalize cut (sl s) = rs at *
  go_enter Tryz.func36, Tryz.ntmps36
  go_wp2_with fail
  refine (unhide HC _).mono ?_
  rintro e w1 ⟨ao, cap, rfl, hrow1, hb1⟩
  have HROW1 := hide hrow1; clear hrow1
  go_wp2_with fail
  refine (unhide HRN _ _ _ (unhide HROW1)).mono ?_
  rintro e w2 ⟨ao2, cap2, rfl, hrow2, hb2⟩
  have HROW2 := hide hrow2; clear hrow2
  have hb12 := hb1.trans (hb2.mono hb1.size)
  have HT2 := hide ((unhide HT).below hb12)
  have HB12 : Hid (Below w.heap.size w w2) := hide (((Below.refl _ _).alloc (Nat.le_refl _) _).trans (hb12.mono (by simp)))
  have hz2 : w.heap.size + 1 ≤ w2.heap.size := by have := hb12.size; simp at this; omega
  clear hb1 hb2 hb12
  go_wp2_with (refine wpList_store_mid (by rfl) 78 (.tmp 2) (.tmp 23) (by rfl) w.heap.size 0 Tryz.zeroCells78 (by rfl) (by rfl) (treeAt_thereZ (unhide HT2)) zeroSize zeroOne ?_)
  have hl := treeAt_load (treeAt_storedZ (unhide HT2))
  refine bodyPost_ret (v := .tuple #[.agg (treeCells tr0).toArray, .int .i64 2, .int .i64 ns.length]) (by simp [results, Tryz.results36, asAddr, hl]) rfl ⟨rfl, ?_⟩
  exact below_setCells (unhide HB12) (Nat.le_refl _) (by omega) _ _
set_option maxHeartbeats 1000000 in
theorem read_order (s : ByteArray) (w : World) (hs : s.size ≤ 4000) (hB : ¬ (readNodes (cut (sl s))).length < (cut (sl s)).length)
    (hU : scan (unordered (readNodes (cut (sl s)))) 1 (readNodes (cut (sl s))).length < (readNodes (cut (sl s))).length) :
    Calls Tryz.prog 36 #[.string s] w fun e w' => e = .returned (.tuple #[.agg (treeCells tr0).toArray, .int .i64 3, .int .i64 (scan (unordered (readNodes (cut (sl s)))) 1 (readNodes (cut (sl s))).length)]) ∧ Below w.heap.size w w' := by
  have HC := hide (fun W => cut_any s W hs)
  have hrl : (cut (sl s)).length ≤ 4000 := by have := cut_length_le (sl s); rw [sl_length] at this; omega
  have hrm : ∀ r ∈ cut (sl s), r.length ≤ 4000 := fun r hr => by have := cut_mem_len (sl s) r hr; rw [sl_length] at this; omega
  have hnl := readNodes_length (cut (sl s))
  have HNB := hide (readNodes_bd (cut (sl s)))
  have HRN := hide (fun ao cap W (h : Row W ao (cut (sl s)).length 1 ((cut (sl s)).map strV)) => readNodes_any (cut (sl s)) ao cap W h hrm hrl)
  clear hrm
  have HT := hide (treeAt_new w)
  have HUN := hide (fun ao cap W h => unordered_any (readNodes (cut (sl s))) ao cap W h (by omega))
  generalize readNodes (cut (sl s)) = ns at *
  generalize cut (sl s) = rs at *
  generalize scan (unordered ns) 1 ns.length = u at *
  go_enter Tryz.func36, Tryz.ntmps36
  go_wp2_with fail
  refine (unhide HC _).mono ?_
  rintro e w1 ⟨ao, cap, rfl, hrow1, hb1⟩
  have HROW1 := hide hrow1; clear hrow1
  go_wp2_with fail
  refine (unhide HRN _ _ _ (unhide HROW1)).mono ?_
  rintro e w2 ⟨ao2, cap2, rfl, hrow2, hb2⟩
  have HROW2 := hide hrow2; clear hrow2
  have hb12 := hb1.trans (hb2.mono hb1.size)
  have HT2 := hide ((unhide HT).below hb12)
  have HB12 : Hid (Below w.heap.size w w2) := hide (((Below.refl _ _).alloc (Nat.le_refl _) _).trans (hb12.mono (by simp)))
  have hz2 : w.heap.size + 1 ≤ w2.heap.size := by have := hb12.size; simp at this; omega
  clear hb1 hb2 hb12
  go_wp2_with fail
  refine (unhide HUN _ _ _ (unhide HROW2)).mono ?_
  rintro e w3 ⟨rfl, nq, rfl⟩
  have HT3 : Hid (TreeAt ext0 (w2.drewN nq) w.heap.size tr0) := hide ((unhide HT2).drewN nq)
  go_wp2_with (refine wpList_store_mid (by rfl) 78 (.tmp 2) (.tmp 32) (by rfl) w.heap.size 0 Tryz.zeroCells78 (by rfl) (by rfl) (treeAt_thereZ (unhide HT3)) zeroSize zeroOne ?_)
  have hl := treeAt_load (treeAt_storedZ (unhide HT3))
  refine bodyPost_ret (v := .tuple #[.agg (treeCells tr0).toArray, .int .i64 3, .int .i64 u]) (by simp [results, Tryz.results36, asAddr, hl]) rfl ⟨rfl, ?_⟩
  exact below_setCells (below_drewN (unhide HB12) _) (Nat.le_refl _) (show w.heap.size ≤ w2.heap.size by omega) _ _
set_option maxHeartbeats 1000000 in
theorem read_place (s : ByteArray) (w : World) (hs : s.size ≤ 4000) (hB : ¬ (readNodes (cut (sl s))).length < (cut (sl s)).length)
    (hU : ¬ scan (unordered (readNodes (cut (sl s)))) 1 (readNodes (cut (sl s))).length < (readNodes (cut (sl s))).length)
    (hM : ((misplaced (gather (readNodes (cut (sl s)))) (readNodes (cut (sl s)))).1 != 0) = true) :
    Calls Tryz.prog 36 #[.string s] w fun e w' => e = .returned (.tuple #[.agg (treeCells tr0).toArray, .int .i64 (misplaced (gather (readNodes (cut (sl s)))) (readNodes (cut (sl s)))).1, .int .i64 (misplaced (gather (readNodes (cut (sl s)))) (readNodes (cut (sl s)))).2]) ∧ Below w.heap.size w w' := by
  have HC := hide (fun W => cut_any s W hs)
  have hrl : (cut (sl s)).length ≤ 4000 := by have := cut_length_le (sl s); rw [sl_length] at this; omega
  have hrm : ∀ r ∈ cut (sl s), r.length ≤ 4000 := fun r hr => by have := cut_mem_len (sl s) r hr; rw [sl_length] at this; omega
  have hnl := readNodes_length (cut (sl s))
  have HNB := hide (readNodes_bd (cut (sl s)))
  have HRN := hide (fun ao cap W (h : Row W ao (cut (sl s)).length 1 ((cut (sl s)).map strV)) => readNodes_any (cut (sl s)) ao cap W h hrm hrl)
  clear hrm
  have HT := hide (treeAt_new w)
  have HUN := hide (fun ao cap W h => unordered_any (readNodes (cut (sl s))) ao cap W h (by omega))
  have HGA := hide (fun ao cap W h => gather_any (readNodes (cut (sl s))) ao cap W h (fun n hn => ⟨(unhide HNB n hn).1, (unhide HNB n hn).2.1⟩) (by omega))
  have HMI := hide (fun b ao cap W h1 h2 => misplaced_any (x := ext0) (gather (readNodes (cut (sl s)))) b (readNodes (cut (sl s))) ao cap W (gather_ok _) h1 h2 (unhide HNB) (by omega))
  generalize misplaced (gather (readNodes (cut (sl s)))) (readNodes (cut (sl s))) = M at *
  generalize gather (readNodes (cut (sl s))) = T at *
  generalize readNodes (cut (sl s)) = ns at *
  generalize cut (sl s) = rs at *
  generalize scan (unordered ns) 1 ns.length = u at *
  go_enter Tryz.func36, Tryz.ntmps36
  go_wp2_with fail
  refine (unhide HC _).mono ?_
  rintro e w1 ⟨ao, cap, rfl, hrow1, hb1⟩
  have HROW1 := hide hrow1; clear hrow1
  go_wp2_with fail
  refine (unhide HRN _ _ _ (unhide HROW1)).mono ?_
  rintro e w2 ⟨ao2, cap2, rfl, hrow2, hb2⟩
  have HROW2 := hide hrow2; clear hrow2
  have hb12 := hb1.trans (hb2.mono hb1.size)
  have HT2 := hide ((unhide HT).below hb12)
  have HB12 : Hid (Below w.heap.size w w2) := hide (((Below.refl _ _).alloc (Nat.le_refl _) _).trans (hb12.mono (by simp)))
  have hz2 : w.heap.size + 1 ≤ w2.heap.size := by have := hb12.size; simp at this; omega
  clear hb1 hb2 hb12
  go_wp2_with fail
  refine (unhide HUN _ _ _ (unhide HROW2)).mono ?_
  rintro e w3 ⟨rfl, nq, rfl⟩
  have HT3 : Hid (TreeAt ext0 (w2.drewN nq) w.heap.size tr0) := hide ((unhide HT2).drewN nq)
  have HROW3 : Hid (Row (w2.drewN nq) ao2 ns.length 3 (ndCells ns)) := hide ((unhide HROW2).below (below_drewN (Below.refl _ _) nq))
  have HB3 : Hid (Below w.heap.size w (w2.drewN nq)) := hide (below_drewN (unhide HB12) nq)
  have hz3 : w.heap.size + 1 ≤ (w2.drewN nq).heap.size := hz2
  clear hz2 HT2 HROW2 HB12
  obtain ⟨w3, hw3⟩ : ∃ x, w2.drewN nq = x := ⟨_, rfl⟩
  rw [hw3] at HT3 HROW3 HB3 hz3 ⊢
  clear hw3
  go_wp2_with fail
  refine (unhide HGA _ _ _ (unhide HROW3)).mono ?_
  rintro e w4 ⟨rfl, hb4⟩
  have HT4 := hide ((unhide HT3).below hb4)
  have HROW4 := hide ((unhide HROW3).below hb4)
  have HB4 := hide ((unhide HB3).trans (hb4.mono (by omega)))
  have hz4 : w.heap.size + 1 ≤ w4.heap.size := by have := hb4.size; omega
  clear hb4 HT3 HROW3 HB3
  have HN := hide (treeAt_new w4)
  have HBa := hide ((Below.refl w4.heap.size w4).alloc (Nat.le_refl _) (.cells Tryz.zeroCells78 78))
  have HB5 : Hid (Below w4.heap.size w4 ((w4.alloc (.cells Tryz.zeroCells78 78)).setCells w4.heap.size 0 (treeCells T))) := hide (below_setCells (unhide HBa) (Nat.le_refl _) (by simp) _ _)
  have HT5 : Hid (TreeAt ext0 ((w4.alloc (.cells Tryz.zeroCells78 78)).setCells w4.heap.size 0 (treeCells T)) w4.heap.size T) := hide (treeAt_stored (unhide HN) T)
  go_wp2_with (refine wpList_store_mid (by rfl) 78 (.tmp 8) (.tmp 35) (by rfl) w4.heap.size 0 (treeCells T).toArray (by rfl) (by rfl) (by exact treeAt_there (unhide HN) T) (treeSize' T) (treeOne T) ?_)
  refine (unhide HMI _ _ _ _ (unhide HT5) ((unhide HROW4).below (unhide HB5))).mono ?_
  rintro e w6 ⟨rfl, hb6⟩
  have HT6 := hide (((unhide HT4).below (unhide HB5)).below hb6)
  have HT6' := hide ((unhide HT5).below hb6)
  have hsz5 : w4.heap.size ≤ ((w4.alloc (.cells Tryz.zeroCells78 78)).setCells w4.heap.size 0 (treeCells T)).heap.size := (unhide HB5).size
  have HB6 := hide ((unhide HB4).trans (((unhide HB5).trans (hb6.mono hsz5)).mono (by omega)))
  have hz6 : w.heap.size + 1 ≤ w6.heap.size := by have := hb6.size; omega
  clear hb6 HB5 HT5 HBa HN hsz5
  go_wp2_with (refine wpList_store_mid (by rfl) 78 (.tmp 2) (.tmp 43) (by rfl) w.heap.size 0 Tryz.zeroCells78 (by rfl) (by rfl) (treeAt_thereZ (unhide HT6)) zeroSize zeroOne ?_)
  have hl := treeAt_load (treeAt_storedZ (unhide HT6))
  refine bodyPost_ret (v := .tuple #[.agg (treeCells tr0).toArray, .int .i64 M.1, .int .i64 M.2]) (by simp [results, Tryz.results36, asAddr, hl]) rfl ⟨rfl, ?_⟩
  exact below_setCells (unhide HB6) (Nat.le_refl _) (by omega) _ _
set_option maxHeartbeats 1000000 in
theorem read_ok (s : ByteArray) (w : World) (hs : s.size ≤ 4000) (hB : ¬ (readNodes (cut (sl s))).length < (cut (sl s)).length)
    (hU : ¬ scan (unordered (readNodes (cut (sl s)))) 1 (readNodes (cut (sl s))).length < (readNodes (cut (sl s))).length)
    (hM : ((misplaced (gather (readNodes (cut (sl s)))) (readNodes (cut (sl s)))).1 != 0) = false) :
    Calls Tryz.prog 36 #[.string s] w fun e w' => e = .returned (.tuple #[.agg (treeCells (gather (readNodes (cut (sl s))))).toArray, .int .i64 0, .int .i64 0]) ∧ Below w.heap.size w w' := by
  have HC := hide (fun W => cut_any s W hs)
  have hrl : (cut (sl s)).length ≤ 4000 := by have := cut_length_le (sl s); rw [sl_length] at this; omega
  have hrm : ∀ r ∈ cut (sl s), r.length ≤ 4000 := fun r hr => by have := cut_mem_len (sl s) r hr; rw [sl_length] at this; omega
  have hnl := readNodes_length (cut (sl s))
  have HNB := hide (readNodes_bd (cut (sl s)))
  have HRN := hide (fun ao cap W (h : Row W ao (cut (sl s)).length 1 ((cut (sl s)).map strV)) => readNodes_any (cut (sl s)) ao cap W h hrm hrl)
  clear hrm
  have HT := hide (treeAt_new w)
  have HUN := hide (fun ao cap W h => unordered_any (readNodes (cut (sl s))) ao cap W h (by omega))
  have HGA := hide (fun ao cap W h => gather_any (readNodes (cut (sl s))) ao cap W h (fun n hn => ⟨(unhide HNB n hn).1, (unhide HNB n hn).2.1⟩) (by omega))
  have HMI := hide (fun b ao cap W h1 h2 => misplaced_any (x := ext0) (gather (readNodes (cut (sl s)))) b (readNodes (cut (sl s))) ao cap W (gather_ok _) h1 h2 (unhide HNB) (by omega))
  generalize misplaced (gather (readNodes (cut (sl s)))) (readNodes (cut (sl s))) = M at *
  generalize gather (readNodes (cut (sl s))) = T at *
  generalize readNodes (cut (sl s)) = ns at *
  generalize cut (sl s) = rs at *
  generalize scan (unordered ns) 1 ns.length = u at *
  go_enter Tryz.func36, Tryz.ntmps36
  go_wp2_with fail
  refine (unhide HC _).mono ?_
  rintro e w1 ⟨ao, cap, rfl, hrow1, hb1⟩
  have HROW1 := hide hrow1; clear hrow1
  go_wp2_with fail
  refine (unhide HRN _ _ _ (unhide HROW1)).mono ?_
  rintro e w2 ⟨ao2, cap2, rfl, hrow2, hb2⟩
  have HROW2 := hide hrow2; clear hrow2
  have hb12 := hb1.trans (hb2.mono hb1.size)
  have HT2 := hide ((unhide HT).below hb12)
  have HB12 : Hid (Below w.heap.size w w2) := hide (((Below.refl _ _).alloc (Nat.le_refl _) _).trans (hb12.mono (by simp)))
  have hz2 : w.heap.size + 1 ≤ w2.heap.size := by have := hb12.size; simp at this; omega
  clear hb1 hb2 hb12
  go_wp2_with fail
  refine (unhide HUN _ _ _ (unhide HROW2)).mono ?_
  rintro e w3 ⟨rfl, nq, rfl⟩
  have HT3 : Hid (TreeAt ext0 (w2.drewN nq) w.heap.size tr0) := hide ((unhide HT2).drewN nq)
  have HROW3 : Hid (Row (w2.drewN nq) ao2 ns.length 3 (ndCells ns)) := hide ((unhide HROW2).below (below_drewN (Below.refl _ _) nq))
  have HB3 : Hid (Below w.heap.size w (w2.drewN nq)) := hide (below_drewN (unhide HB12) nq)
  have hz3 : w.heap.size + 1 ≤ (w2.drewN nq).heap.size := hz2
  clear hz2 HT2 HROW2 HB12
  obtain ⟨w3, hw3⟩ : ∃ x, w2.drewN nq = x := ⟨_, rfl⟩
  rw [hw3] at HT3 HROW3 HB3 hz3 ⊢
  clear hw3
  go_wp2_with fail
  refine (unhide HGA _ _ _ (unhide HROW3)).mono ?_
  rintro e w4 ⟨rfl, hb4⟩
  have HT4 := hide ((unhide HT3).below hb4)
  have HROW4 := hide ((unhide HROW3).below hb4)
  have HB4 := hide ((unhide HB3).trans (hb4.mono (by omega)))
  have hz4 : w.heap.size + 1 ≤ w4.heap.size := by have := hb4.size; omega
  clear hb4 HT3 HROW3 HB3
  have HN := hide (treeAt_new w4)
  have HBa := hide ((Below.refl w4.heap.size w4).alloc (Nat.le_refl _) (.cells Tryz.zeroCells78 78))
  have HB5 : Hid (Below w4.heap.size w4 ((w4.alloc (.cells Tryz.zeroCells78 78)).setCells w4.heap.size 0 (treeCells T))) := hide (below_setCells (unhide HBa) (Nat.le_refl _) (by simp) _ _)
  have HT5 : Hid (TreeAt ext0 ((w4.alloc (.cells Tryz.zeroCells78 78)).setCells w4.heap.size 0 (treeCells T)) w4.heap.size T) := hide (treeAt_stored (unhide HN) T)
  go_wp2_with (refine wpList_store_mid (by rfl) 78 (.tmp 8) (.tmp 35) (by rfl) w4.heap.size 0 (treeCells T).toArray (by rfl) (by rfl) (by exact treeAt_there (unhide HN) T) (treeSize' T) (treeOne T) ?_)
  refine (unhide HMI _ _ _ _ (unhide HT5) ((unhide HROW4).below (unhide HB5))).mono ?_
  rintro e w6 ⟨rfl, hb6⟩
  have HT6 := hide (((unhide HT4).below (unhide HB5)).below hb6)
  have HT6' := hide ((unhide HT5).below hb6)
  have hsz5 : w4.heap.size ≤ ((w4.alloc (.cells Tryz.zeroCells78 78)).setCells w4.heap.size 0 (treeCells T)).heap.size := (unhide HB5).size
  have HB6 := hide ((unhide HB4).trans (((unhide HB5).trans (hb6.mono hsz5)).mono (by omega)))
  have hz6 : w.heap.size + 1 ≤ w6.heap.size := by have := hb6.size; omega
  clear hb6 HB5 HT5 HBa HN hsz5
  go_wp2_with (first
    | (refine wpList_load_mid (by rfl) 78 (.tmp 8) (by rfl) w4.heap.size 0 (by rfl) (treeCells T) _ (treeAt_range (unhide HT6')) Tryz.underlying78 (by rfl) (treeSize T) ?_)
    | (refine wpList_store_mid (by rfl) 78 (.tmp 2) (.tmp 46) (by rfl) w.heap.size 0 (treeCells T).toArray (by rfl) (by rfl) (treeAt_there (unhide HT6) T) (treeSize' T) (treeOne T) ?_))
  have hl := treeAt_load (treeAt_stored (unhide HT6) T)
  refine bodyPost_ret (v := .tuple #[.agg (treeCells T).toArray, .int .i64 0, .int .i64 0]) (by simp [results, Tryz.results36, asAddr, hl]) rfl ⟨rfl, ?_⟩
  exact below_setCells (unhide HB6) (Nat.le_refl _) (by omega) _ _
theorem misplaced_zero {t : Tr} {ns : List Nd} (h : ((misplaced t ns).1 != 0) = false) : misplaced t ns = (0, 0) := by
  unfold misplaced at h ⊢
  split <;> (try split) <;> (try split) <;> simp_all
theorem read_any (s : ByteArray) (w : World) :
    Calls Tryz.prog 36 #[.string s] w fun e w' => e = .returned (.tuple #[.agg (treeCells (readT (sl s))).toArray, .int .i64 (checkT (sl s)).1, .int .i64 (checkT (sl s)).2]) ∧ Below w.heap.size w w' := by
  by_cases h1 : 4000 < s.size
  · have e : checkT (sl s) = (1, 0) := by unfold checkT; rw [sl_length, if_pos h1]
    rw [readT, e]; exact read_long s w h1
  · by_cases h2 : (readNodes (cut (sl s))).length < (cut (sl s)).length
    · have e : checkT (sl s) = (2, (readNodes (cut (sl s))).length) := by unfold checkT; rw [sl_length, if_neg h1]; simp only []; rw [if_pos h2]
      rw [readT, e]; exact read_form s w (by omega) h2
    · by_cases h3 : scan (unordered (readNodes (cut (sl s)))) 1 (readNodes (cut (sl s))).length < (readNodes (cut (sl s))).length
      · have e : checkT (sl s) = (3, scan (unordered (readNodes (cut (sl s)))) 1 (readNodes (cut (sl s))).length) := by unfold checkT; rw [sl_length, if_neg h1]; simp only []; rw [if_neg h2, if_pos h3]
        rw [readT, e]; exact read_order s w (by omega) h2 h3
      · have e : checkT (sl s) = misplaced (gather (readNodes (cut (sl s)))) (readNodes (cut (sl s))) := by unfold checkT; rw [sl_length, if_neg h1]; simp only []; rw [if_neg h2, if_neg h3]
        cases h4 : ((misplaced (gather (readNodes (cut (sl s)))) (readNodes (cut (sl s)))).1 != 0)
        · rw [readT, e, misplaced_zero h4]; exact read_ok s w (by omega) h2 h3 h4
        · rw [readT, e, if_neg (by simpa using h4)]; exact read_place s w (by omega) h2 h3 h4
set_option maxHeartbeats 1000000 in
theorem check_any (s : ByteArray) (w : World) :
    Calls Tryz.prog 33 #[.string s] w fun e w' => e = .returned (.tuple #[.int .i64 (checkT (sl s)).1, .int .i64 (checkT (sl s)).2]) ∧ Below w.heap.size w w' := by
  have HR := hide (fun W => read_any s W)
  generalize checkT (sl s) = c at *
  generalize readT (sl s) = T at *
  go_enter Tryz.func33, Tryz.ntmps33
  go_wp2_with fail
  refine (unhide HR _).mono ?_
  rintro e w1 ⟨rfl, hb1⟩
  have HN := hide (treeAt_new w1)
  go_wp2_with (refine wpList_store_mid (by rfl) 78 (.tmp 4) (.tmp 10) (by rfl) w1.heap.size 0 (treeCells T).toArray (by rfl) (by rfl) (treeAt_there (unhide HN) T) (treeSize' T) (treeOne T) ?_)
  go_ret2
  exact ⟨rfl, below_setCells (hb1.alloc hb1.size _) hb1.size (by have := hb1.size; simp; omega) _ _⟩
end Go.Proofs.YtdcjimlhaklhfabGreatDoor

namespace Go.Proofs.YtdcjimlhaklhfabGreatDoor
open Go.RowKit
theorem TreeAt.parent {x : Ext} {w : World} {b : Nat} {t : Tr} (h : TreeAt x w b t) (i : Nat) (hi : i < 100) : w.cell? ⟨b, 100 + i * 3 + 1, none⟩ = some (.int .i64 ((t i).getD nd0).parent) := by rw [h.cell (100 + i * 3 + 1), (treeCells_node t i hi).2.1]
theorem TreeAt.name {x : Ext} {w : World} {b : Nat} {t : Tr} (h : TreeAt x w b t) (i : Nat) (hi : i < 100) : w.cell? ⟨b, 100 + i * 3 + 2, none⟩ = some (.string (bs ((t i).getD nd0).name)) := by rw [h.cell (100 + i * 3 + 2), (treeCells_node t i hi).2.2]
theorem TreeAt.id {x : Ext} {w : World} {b : Nat} {t : Tr} (h : TreeAt x w b t) (i : Nat) (hi : i < 100) : w.cell? ⟨b, 100 + i * 3, none⟩ = some (.int .i64 ((t i).getD nd0).id) := by rw [h.cell (100 + i * 3), (treeCells_node t i hi).1]
set_option maxHeartbeats 1000000 in
theorem at_any {x : Ext} (t : Tr) (b : Nat) (parent : Int) (name : Str) (w : World) (hT : TreeAt x w b t) :
    Calls Tryz.prog 99 #[.pointer (some ⟨b, 0, none⟩), .int .i64 parent, .string (bs name)] w fun e w' => e = .returned (.int .i64 (atT t parent name)) ∧ w' = w := by
  have HT := hide hT; clear hT
  go_enter Tryz.func99, Tryz.ntmps99
  go_wp2
  go_loop [7] (fun i => ∃ k : Nat, 1 ≤ k ∧ k ≤ 100 ∧ i = .int .i64 k ∧ Hid (NoIn (spotIs t parent name) 1 k)) (fun i => 101 - (intOf i).toNat)
  case atStart => exact ⟨1, by omega, by omega, rfl, hide (fun j h1 h2 => by omega)⟩
  case round =>
    obtain ⟨k, hk1, hk, rfl, HN⟩ := hrel
    by_cases hlt : k ≤ 99
    · have c0 := (unhide HT).here k (by omega)
      have c1 := (unhide HT).parent k (by omega)
      have c2 := (unhide HT).name k (by omega)
      have HU : Hid (spotIs t parent name k = match t k with | none => false | some n => n.parent == parent && n.name == name) := hide rfl
      cases hq : t k with
      | none =>
        have HN2 := hide (noIn_succ (unhide HN) (by rw [unhide HU, hq]))
        rw [hq] at c0 c1 c2
        clear hq
        go_wp2
        go_round
        case rel => exact ⟨k + 1, by omega, by omega, by go_num, HN2⟩
        case measure => simp [intOf]; omega
      | some n =>
        have HU2 : Hid (spotIs t parent name k = (n.parent == parent && n.name == name)) := by apply hide; rw [unhide HU, hq]
        rw [hq] at c0 c1 c2
        clear hq HU
        cases hp : (n.parent == parent)
        · have HN2 := hide (noIn_succ (unhide HN) (by rw [unhide HU2, hp]; rfl))
          go_wp2
          go_round
          case rel => exact ⟨k + 1, by omega, by omega, by go_num, HN2⟩
          case measure => simp [intOf]; omega
        · cases hn : (n.name == name)
          · have HN2 := hide (noIn_succ (unhide HN) (by rw [unhide HU2, hp, hn]; rfl))
            have hn2 : ((bs n.name).toList == (bs name).toList) = false := by rw [names_eq]; exact hn
            clear hn
            go_wp2
            go_round
            case rel => exact ⟨k + 1, by omega, by omega, by go_num, HN2⟩
            case measure => simp [intOf]; omega
          · have HS : Hid (atT t parent name = k) := by
              apply hide
              have e : scan (spotIs t parent name) 1 100 = k := scan_hit hk1 (by omega) (by rw [unhide HU2, hp, hn]; rfl) (unhide HN)
              unfold atT; rw [e, if_pos (by omega)]
            have hn2 : ((bs n.name).toList == (bs name).toList) = true := by rw [names_eq]; exact hn
            clear hn
            go_wp2
            go_ret
            exact ⟨ret_int (unhide HS).symm, rfl⟩
    · have HS : Hid (atT t parent name = 0) := by
        apply hide
        have e : scan (spotIs t parent name) 1 100 = 100 := scan_none (fun j h1 h2 => unhide HN j h1 (by omega))
        unfold atT; rw [e, if_neg (by omega)]
      go_wp2
      go_ret
      exact ⟨ret_int (unhide HS).symm, rfl⟩
set_option maxHeartbeats 1000000 in
theorem kid_any {x : Ext} (t : Tr) (b : Nat) (id : Int) (w : World) (hT : TreeAt x w b t) :
    Calls Tryz.prog 145 #[.pointer (some ⟨b, 0, none⟩), .int .i64 id] w fun e w' => e = .returned (.int .i64 (kidT t id)) ∧ w' = w := by
  have HT := hide hT; clear hT
  go_enter Tryz.func145, Tryz.ntmps145
  go_wp2
  go_loop [5] (fun i => ∃ k : Nat, 1 ≤ k ∧ k ≤ 100 ∧ i = .int .i64 k ∧ Hid (NoIn (kidIs t id) 1 k)) (fun i => 101 - (intOf i).toNat)
  case atStart => exact ⟨1, by omega, by omega, rfl, hide (fun j h1 h2 => by omega)⟩
  case round =>
    obtain ⟨k, hk1, hk, rfl, HN⟩ := hrel
    by_cases hlt : k ≤ 99
    · have c0 := (unhide HT).here k (by omega)
      have c1 := (unhide HT).parent k (by omega)
      have HU : Hid (kidIs t id k = match t k with | none => false | some n => n.parent == id) := hide rfl
      cases hq : t k with
      | none =>
        have HN2 := hide (noIn_succ (unhide HN) (by rw [unhide HU, hq]))
        rw [hq] at c0 c1
        clear hq
        go_wp2
        go_round
        case rel => exact ⟨k + 1, by omega, by omega, by go_num, HN2⟩
        case measure => simp [intOf]; omega
      | some n =>
        have HU2 : Hid (kidIs t id k = (n.parent == id)) := by apply hide; rw [unhide HU, hq]
        rw [hq] at c0 c1
        clear hq HU
        cases hp : (n.parent == id)
        · have HN2 := hide (noIn_succ (unhide HN) (by rw [unhide HU2, hp]))
          go_wp2
          go_round
          case rel => exact ⟨k + 1, by omega, by omega, by go_num, HN2⟩
          case measure => simp [intOf]; omega
        · have HS : Hid (kidT t id = k) := by
            apply hide
            have e : scan (kidIs t id) 1 100 = k := scan_hit hk1 (by omega) (by rw [unhide HU2, hp]) (unhide HN)
            unfold kidT; rw [e, if_pos (by omega)]
          go_wp2
          go_ret
          exact ⟨ret_int (unhide HS).symm, rfl⟩
    · have HS : Hid (kidT t id = 0) := by
        apply hide
        have e : scan (kidIs t id) 1 100 = 100 := scan_none (fun j h1 h2 => unhide HN j h1 (by omega))
        unfold kidT; rw [e, if_neg (by omega)]
      go_wp2
      go_ret
      exact ⟨ret_int (unhide HS).symm, rfl⟩
theorem treeCells_remove (t : Tr) (m : Nat) (h : m < 100) :
    ((((treeCells t).set m (.bool false)).set (100 + m * 3) (.int .i64 0)).set (100 + m * 3 + 1) (.int .i64 0)).set (100 + m * 3 + 2) (.string ⟨#[]⟩) = treeCells (trRemove t m) := by
  apply List.ext_getElem?
  intro j
  simp only [List.getElem?_set, List.length_set, treeCells_length]
  by_cases hj : j < 100
  · rw [treeCells_here _ j hj, treeCells_here _ j hj]
    rw [if_neg (by omega), if_neg (by omega), if_neg (by omega)]
    unfold trRemove
    by_cases e : m = j
    · subst e; rw [if_pos rfl, if_pos (by omega), if_pos (by omega)]; rfl
    · rw [if_neg e, if_neg (by omega)]
  · by_cases hj4 : j < 400
    · obtain ⟨i, r, hi, hr, rfl⟩ : ∃ i r, i < 100 ∧ r < 3 ∧ j = 100 + i * 3 + r := ⟨(j - 100) / 3, (j - 100) % 3, by omega, by omega, by omega⟩
      have ht := treeCells_node t i hi
      have hp := treeCells_node (trRemove t m) i hi
      by_cases e : m = i
      · subst e
        have e1 : trRemove t m m = none := by unfold trRemove; rw [if_pos rfl]
        rw [e1] at hp
        match r, hr with
        | 0, _ => rw [if_neg (by omega), if_neg (by omega), if_pos (by omega), if_pos (by omega)]; exact hp.1.symm
        | 1, _ => rw [if_neg (by omega), if_pos (by omega), if_pos (by omega)]; exact hp.2.1.symm
        | 2, _ => rw [if_pos (by omega), if_pos (by omega)]; exact hp.2.2.symm
      · have e1 : trRemove t m i = t i := by unfold trRemove; rw [if_neg (by omega)]
        rw [e1] at hp
        rw [if_neg (by omega), if_neg (by omega), if_neg (by omega), if_neg (by omega)]
        match r, hr with
        | 0, _ => exact ht.1.trans hp.1.symm
        | 1, _ => exact ht.2.1.trans hp.2.1.symm
        | 2, _ => exact ht.2.2.trans hp.2.2.symm
    · rw [if_neg (by omega), if_neg (by omega), if_neg (by omega), if_neg (by omega), List.getElem?_eq_none (by rw [treeCells_length]; omega), List.getElem?_eq_none (by rw [treeCells_length]; omega)]
theorem remove_world {x : Ext} {w : World} {t : Tr} {b m : Nat} (hm : m ≤ 99) (hT : TreeAt x w b t) :
    TreeAt x ((((w.setCell ⟨b, m, none⟩ (.bool false)).setCell ⟨b, 100 + m * 3, none⟩ (.int .i64 0)).setCell ⟨b, 100 + m * 3 + 1, none⟩ (.int .i64 0)).setCell ⟨b, 100 + m * 3 + 2, none⟩ (.string ⟨#[]⟩)) b (trRemove t m) ∧
    w.grownBy ((((w.setCell ⟨b, m, none⟩ (.bool false)).setCell ⟨b, 100 + m * 3, none⟩ (.int .i64 0)).setCell ⟨b, 100 + m * 3 + 1, none⟩ (.int .i64 0)).setCell ⟨b, 100 + m * 3 + 2, none⟩ (.string ⟨#[]⟩)) (some b) := by
  constructor
  · unfold TreeAt
    rw [← treeCells_remove t m (by omega)]
    have hl := treeCells_length t
    exact TreeAt.set (by simp only [List.length_set]; omega) (TreeAt.set (by simp only [List.length_set]; omega) (TreeAt.set (by simp only [List.length_set]; omega) (TreeAt.set (by omega) hT)))
  · refine ⟨rfl, rfl, rfl, by simp, fun k hk hne => ?_⟩
    have hne' : k ≠ b := fun e => hne (by rw [e])
    rw [heap_setCell_other _ _ _ _ hne', heap_setCell_other _ _ _ _ hne', heap_setCell_other _ _ _ _ hne', heap_setCell_other _ _ _ _ hne']
set_option maxHeartbeats 1000000 in
theorem remove_nat {x : Ext} (t : Tr) (b m : Nat) (w : World) (ht : TrOk t) (hm : m ≤ 99) (hT : TreeAt x w b t) (hh : (t m).isSome = true) :
    Calls Tryz.prog 146 #[.pointer (some ⟨b, 0, none⟩), .int .i64 m] w fun e w' => e = .returned (.tuple #[]) ∧ TreeAt x w' b (trRemove t m) ∧ w.grownBy w' (some b) := by
  have HH := hide (has_nat t b m w ht hm hT)
  rw [hh] at HH
  have c0 : w.cell? ⟨b, m, none⟩ = some (.bool (t m).isSome) := hT.here m (by omega)
  have c1 := hT.id m (by omega)
  have c2 := hT.parent m (by omega)
  have c3 := hT.name m (by omega)
  have f0 : ∀ j, w.frozen? ⟨b, j, none⟩ = false := hT.free
  have hm0 : (0 : Int) ≤ m := by omega
  have HT := hide hT
  clear hT ht hh
  go_enter Tryz.func146, Tryz.ntmps146
  go_wp2_with fail
  refine (unhide HH).mono ?_
  rintro e w1 ⟨rfl, rfl⟩
  go_wp2
  go_end0
  exact ⟨rfl, remove_world hm (unhide HT)⟩
end Go.Proofs.YtdcjimlhaklhfabGreatDoor

namespace Go.Proofs.YtdcjimlhaklhfabGreatDoor
open Go.RowKit
theorem dash_eq (s : Str) : ((bs s).toList == (({ data := #[45] } : ByteArray)).toList) = (s == [45]) := by
  rw [tl_sl, tl_sl, sl_bs]; rfl
set_option maxHeartbeats 1000000 in
theorem isPlace_any (n : Nd) (w : World) (h0 : 0 ≤ n.id) (h1 : n.id ≤ 99) (h2 : 0 ≤ n.parent) (h3 : n.parent ≤ 100) (hs : n.name.length ≤ 4000) :
    Calls Tryz.prog 94 #[.agg #[.int .i64 n.id, .int .i64 n.parent, .string (bs n.name)]] w fun e w' => e = .returned (.bool (placeB n)) ∧ Below w.heap.size w w' := by
  have HP : Hid (placeB n = if n.parent = 100 then n.name == [45] else (n.parent % 2 == 0 && isName n.name n.id)) := hide rfl
  have HD := hide (dash_eq n.name)
  have HNM := hide (fun W => isName_any (bs n.name) n.id W (by rw [bs_size]; exact hs) h0 h1)
  rw [sl_bs] at HNM
  have HFO := hide (fun W => isFolder_any n.parent W h2 (by omega))
  generalize isName n.name n.id = r at *
  by_cases hp : n.parent = 100
  · have hpe : (n.parent == 100) = true := by simpa using hp
    have HPP := hide hp; clear hp
    have hd := unhide HD
    go_enter Tryz.func94, Tryz.ntmps94
    go_wp2
    go_ret
    exact ⟨ret_bool (by rw [unhide HP, if_pos (unhide HPP)]; try rw [tl_sl, sl_bs]), (Below.refl _ _).alloc (Nat.le_refl _) _⟩
  · have hpe : (n.parent == 100) = false := by simpa using hp
    have HPP := hide hp; clear hp
    cases he : (n.parent % 2 == 0)
    · have HPF : Hid (placeB n = false) := by apply hide; rw [unhide HP, if_neg (unhide HPP), he]; rfl
      rw [he] at HFO
      clear he
      go_enter Tryz.func94, Tryz.ntmps94
      go_wp2_with (go_at_call 126; refine (unhide HFO _).mono ?_; rintro e w' ⟨rfl, rfl⟩)
      go_ret
      exact ⟨ret_bool (unhide HPF).symm, (Below.refl _ _).alloc (Nat.le_refl _) _⟩
    · have HPF : Hid (placeB n = r) := by apply hide; rw [unhide HP, if_neg (unhide HPP), he]; rfl
      rw [he] at HFO
      clear he
      go_enter Tryz.func94, Tryz.ntmps94
      go_wp2_with (first | (go_at_call 126; refine (unhide HFO _).mono ?_; rintro e w' ⟨rfl, rfl⟩) | (go_at_call 127; refine (unhide HNM _).mono ?_; rintro e w' ⟨rfl, nd, rfl⟩))
      go_ret
      exact ⟨ret_bool (unhide HPF).symm, below_drewN ((Below.refl _ _).alloc (Nat.le_refl _) _) _⟩
/-- What readOp answers: where it is none the op does not matter. -/
def OpRes (r : Option Lo) (e : Ending) : Prop := ∃ (a b c d : Int) (z : ByteArray), e = .returned (.tuple #[.agg #[.int .i64 a, .int .i64 b, .int .i64 c, .int .i64 d, .string z], .bool r.isSome]) ∧ ∀ x, r = some x → a = x.count ∧ b = x.site ∧ c = x.node.id ∧ d = x.node.parent ∧ z = bs x.node.name
theorem opRes_none : OpRes none (.returned (.tuple #[.agg #[.int .i64 0, .int .i64 0, .int .i64 0, .int .i64 0, .string ByteArray.empty], .bool false])) := ⟨0, 0, 0, 0, ByteArray.empty, rfl, fun x h => by cases h⟩
theorem readOp_open {r : Str} (h : bodyB r = false) : readOp r = none := by unfold readOp; rw [h]; rfl
theorem readOp_short {r : Str} (h : (parts (bodyS r)).length ≠ 5) : readOp r = none := by unfold readOp; rw [opOf_other h]; split <;> rfl
theorem readOp_five {r a b c d e : Str} (h : bodyB r = true) (h5 : parts (bodyS r) = [a, b, c, d, e]) : readOp r = opOf5 a b c d e := by unfold readOp; rw [h, h5]; rfl
set_option maxHeartbeats 2000000 in
theorem readOp_no (s : ByteArray) (w : World) (hs : s.size ≤ 4000) (hn : bodyB (sl s) = false ∨ (bodyB (sl s) = true ∧ (parts (bodyS (sl s))).length ≠ 5)) :
    Calls Tryz.prog 57 #[.string s] w fun e w' => OpRes (readOp (sl s)) e ∧ Below w.heap.size w w' := by
  have HR : Hid (readOp (sl s) = none) := by
    apply hide; rcases hn with h | ⟨_, h⟩
    · exact readOp_open h
    · exact readOp_short h
  rw [unhide HR]
  clear HR
  have hlb : (bs (bodyS (sl s))).size ≤ 4000 := by rw [bs_size]; have := bodyS_len (sl s); rw [sl_length] at this; omega
  have HBO := hide (fun W => body_any s W hs)
  have HP := hide (fun W => parts_any (bs (bodyS (sl s))) W hlb)
  rw [sl_bs] at HP
  have hne : bodyB (sl s) = false ∨ (bodyB (sl s) = true ∧ (((parts (bodyS (sl s))).length : Int) != 5) = true) := by
    rcases hn with h | ⟨h, g⟩
    · exact .inl h
    · exact .inr ⟨h, by rw [bne_iff_ne]; omega⟩
  clear hn
  generalize bodyB (sl s) = bb at *
  generalize (parts (bodyS (sl s))).length = n at *
  generalize bodyS (sl s) = body at *
  rcases hne with rfl | ⟨rfl, hne⟩
  all_goals
    go_enter Tryz.func57, Tryz.ntmps57
    go_wp2_with fail
    refine (unhide HBO _).mono ?_
    rintro e w1 ⟨rfl, rfl⟩
    go_wp2_with fail
    refine (unhide HP _).mono ?_
    rintro e w1 ⟨ao, cap, rfl, hrow, hbel⟩
    clear hrow
    obtain ⟨hc, hf⟩ := bcell hbel
    have hz : w.heap.size + 1 ≤ w1.heap.size := by have := hbel.size; simp at this; omega
    have HB0 : Hid (Below w.heap.size w w1) := hide (((Below.refl _ _).alloc (Nat.le_refl _) _).trans (hbel.mono (by simp)))
    go_wp2
    refine bodyPost_ret (v := .tuple #[.agg #[.int .i64 0, .int .i64 0, .int .i64 0, .int .i64 0, .string ByteArray.empty], .bool false]) (by simp [results, Tryz.results57, go_sem, hc]; rfl) rfl ⟨opRes_none, ?_⟩
    exact (((((unhide HB0).setCell (by simp) _).setCell (by simp) _).setCell (by simp) _).setCell (by simp) _).setCell (by simp) _
end Go.Proofs.YtdcjimlhaklhfabGreatDoor

namespace Go.Proofs.YtdcjimlhaklhfabGreatDoor
open Go.RowKit
theorem opOf5_no {a b c d e : Str} (h : (number a 1 9999).2 = false ∨ (number b 1 9).2 = false ∨ (number c 1 99).2 = false ∨ (number d 0 100).2 = false) : opOf5 a b c d e = none := by
  unfold opOf5
  rw [if_neg]
  simp only [Bool.and_eq_true, not_and]
  intro h1 
  rcases h with h | h | h | h <;> simp [h] at h1
theorem opOf5_yes {a b c d e : Str} (h1 : (number a 1 9999).2 = true) (h2 : (number b 1 9).2 = true) (h3 : (number c 1 99).2 = true) (h4 : (number d 0 100).2 = true) : opOf5 a b c d e = if placeB ⟨(number c 1 99).1, (number d 0 100).1, e⟩ then some ⟨(number a 1 9999).1, (number b 1 9).1, ⟨(number c 1 99).1, (number d 0 100).1, e⟩⟩ else none := by
  unfold opOf5
  rw [h1, h2, h3, h4]; rfl
set_option maxHeartbeats 4000000 in
set_option maxRecDepth 100000 in
theorem readOp_yes (s : ByteArray) (w : World) (hs : s.size ≤ 4000) (a b c d f : Str) (hb : bodyB (sl s) = true) (h5 : parts (bodyS (sl s)) = [a, b, c, d, f]) :
    Calls Tryz.prog 57 #[.string s] w fun e w' => OpRes (readOp (sl s)) e ∧ Below w.heap.size w w' := by
  rw [readOp_five hb h5]
  have hlb : (bs (bodyS (sl s))).size ≤ 4000 := by rw [bs_size]; have := bodyS_len (sl s); rw [sl_length] at this; omega
  have HBO := hide (fun W => body_any s W hs)
  have HP : Hid (∀ W, Calls Tryz.prog 92 #[.string (bs (bodyS (sl s)))] W fun e w' => ∃ ao cap, e = .returned (.slice ao 5 cap) ∧ Row w' ao 5 1 [.string (bs a), .string (bs b), .string (bs c), .string (bs d), .string (bs f)] ∧ Below W.heap.size W w') := by
    apply hide; intro W; have := parts_any (bs (bodyS (sl s))) W hlb; rw [sl_bs, h5] at this; exact this
  have hl : ∀ x ∈ [a, b, c, d, f], x.length ≤ 4000 := fun x hx => by
    have := part_len (bodyS (sl s)) x (by rw [h5]; exact hx)
    rw [bs_size] at hlb; omega
  have hla : (bs a).size ≤ 4000 := by rw [bs_size]; exact hl a (by simp)
  have hlb' : (bs b).size ≤ 4000 := by rw [bs_size]; exact hl b (by simp)
  have hlc : (bs c).size ≤ 4000 := by rw [bs_size]; exact hl c (by simp)
  have hld : (bs d).size ≤ 4000 := by rw [bs_size]; exact hl d (by simp)
  have hlf : f.length ≤ 4000 := hl f (by simp)
  clear hl h5
  rw [hb] at HBO
  generalize bodyS (sl s) = body at *
  clear hb
  have HA := hide (fun W => number_any (bs a) 1 9999 W hla (by omega) (by omega))
  have HB := hide (fun W => number_any (bs b) 1 9 W hlb' (by omega) (by omega))
  have HC := hide (fun W => number_any (bs c) 1 99 W hlc (by omega) (by omega))
  have HD := hide (fun W => number_any (bs d) 0 100 W hld (by omega) (by omega))
  rw [sl_bs] at HA HB HC HD
  have nc := number_bd c 1 99 (by omega)
  have nd := number_bd d 0 100 (by omega)
  have HPL := hide (fun W => isPlace_any ⟨(number c 1 99).1, (number d 0 100).1, f⟩ W nc.1 nc.2 nd.1 nd.2 hlf)
  have HNO := hide (@opOf5_no a b c d f)
  have HYE := hide (@opOf5_yes a b c d f)
  generalize opOf5 a b c d f = R at *
  generalize (number a 1 9999).1 = x1 at *
  generalize (number a 1 9999).2 = p1 at *
  generalize (number b 1 9).1 = x2 at *
  generalize (number b 1 9).2 = p2 at *
  generalize (number c 1 99).1 = x3 at *
  generalize (number c 1 99).2 = p3 at *
  generalize (number d 0 100).1 = x4 at *
  generalize (number d 0 100).2 = p4 at *
  generalize placeB ⟨x3, x4, f⟩ = q at *
  clear hlb hla hlb' hlc hld nc nd
  rcases (show p1 = false ∨ (p1 = true ∧ p2 = false) ∨ (p1 = true ∧ p2 = true ∧ p3 = false) ∨ (p1 = true ∧ p2 = true ∧ p3 = true ∧ p4 = false) ∨ (p1 = true ∧ p2 = true ∧ p3 = true ∧ p4 = true) from by cases p1 <;> cases p2 <;> cases p3 <;> cases p4 <;> simp) with h1 | ⟨h1, h2⟩ | ⟨h1, h2, h3⟩ | ⟨h1, h2, h3, h4⟩ | ⟨h1, h2, h3, h4⟩
  case inr.inr.inr.inr =>
    subst h1 h2 h3 h4
    have HR : Hid (R = if q then some ⟨x1, x2, ⟨x3, x4, f⟩⟩ else none) := hide (unhide HYE rfl rfl rfl rfl)
    clear HYE HNO
    go_enter Tryz.func57, Tryz.ntmps57
    go_wp2_with fail
    refine (unhide HBO _).mono ?_
    rintro e w1 ⟨rfl, rfl⟩
    go_wp2_with fail
    refine (unhide HP _).mono ?_
    rintro e w1 ⟨ao, cap, rfl, hrow, hbel⟩
    obtain ⟨g, hao, hg, hcel⟩ := hrow.2 (by omega)
    rw [hao]
    have c0 := hcel 0 _ rfl
    have c1 := hcel 1 _ rfl
    have c2 := hcel 2 _ rfl
    have c3 := hcel 3 _ rfl
    have c4 := hcel 4 _ rfl
    clear hcel hao hrow
    obtain ⟨hc, hf⟩ := bcell hbel
    have hz : w.heap.size + 1 ≤ w1.heap.size := by have := hbel.size; simp at this; omega
    have HB0 : Hid (Below w.heap.size w w1) := hide (((Below.refl _ _).alloc (Nat.le_refl _) _).trans (hbel.mono (by simp)))
    clear hbel
    have R0 := hide (show w1.cell? ⟨w.heap.size, 0, none⟩ = some (.int .i64 0) by rw [hc _ _ (by simp)]; simp [go_sem])
    have R1 := hide (show w1.cell? ⟨w.heap.size, 1, none⟩ = some (.int .i64 0) by rw [hc _ _ (by simp)]; simp [go_sem])
    have R2 := hide (show w1.cell? ⟨w.heap.size, 2, none⟩ = some (.int .i64 0) by rw [hc _ _ (by simp)]; simp [go_sem])
    have R3 := hide (show w1.cell? ⟨w.heap.size, 3, none⟩ = some (.int .i64 0) by rw [hc _ _ (by simp)]; simp [go_sem])
    have R4 := hide (show w1.cell? ⟨w.heap.size, 4, none⟩ = some (.string ByteArray.empty) by rw [hc _ _ (by simp)]; simp [go_sem]; rfl)
    have RF := hide (show ∀ j, w1.frozen? ⟨w.heap.size, j, none⟩ = false from fun j => by rw [hf _ _ (by simp)]; simp [go_sem])
    go_wp2_with fail
    refine (unhide HA _).mono ?_
    rintro e w2 ⟨rfl, rfl⟩
    go_wp2_with fail
    refine (unhide HB _).mono ?_
    rintro e w3 ⟨rfl, rfl⟩
    go_wp2_with fail
    refine (unhide HC _).mono ?_
    rintro e w4 ⟨rfl, rfl⟩
    go_wp2_with fail
    refine (unhide HD _).mono ?_
    rintro e w5 ⟨rfl, rfl⟩
    go_wp2
    have N0 := hide (show ((w5.alloc (.cells #[.int .i64 x3, .int .i64 x4, .string (bs f)] 75)).drew).cell? ⟨w5.heap.size, 0, none⟩ = some (.int .i64 x3) from news_three _ _ _ _ 0 _ rfl)
    have N1 := hide (show ((w5.alloc (.cells #[.int .i64 x3, .int .i64 x4, .string (bs f)] 75)).drew).cell? ⟨w5.heap.size, 1, none⟩ = some (.int .i64 x4) from news_three _ _ _ _ 1 _ rfl)
    have N2 := hide (show ((w5.alloc (.cells #[.int .i64 x3, .int .i64 x4, .string (bs f)] 75)).drew).cell? ⟨w5.heap.size, 2, none⟩ = some (.string (bs f)) from news_three _ _ _ _ 2 _ rfl)
    go_region_with (go_at_call 94; refine (unhide HPL _).mono ?_; rintro e w6 ⟨rfl, hb6⟩; have hbb := ((Below.refl w5.heap.size w5).alloc (Nat.le_refl _) _).drew.trans (hb6.mono (by simp [heap_drew])); have r0 := (hbb.cell (p := ⟨w.heap.size, 0, none⟩) hz).trans (unhide R0); have r1 := (hbb.cell (p := ⟨w.heap.size, 1, none⟩) hz).trans (unhide R1); have r2 := (hbb.cell (p := ⟨w.heap.size, 2, none⟩) hz).trans (unhide R2); have r3 := (hbb.cell (p := ⟨w.heap.size, 3, none⟩) hz).trans (unhide R3); have r4 := (hbb.cell (p := ⟨w.heap.size, 4, none⟩) hz).trans (unhide R4); have rf := fun j => (hbb.frozen (p := ⟨w.heap.size, j, none⟩) hz).trans (unhide RF j); have hz6 := hbb.size; have n0 := (hb6.cell (p := ⟨w5.heap.size, 0, none⟩) (by simp [heap_drew])).trans (unhide N0); have n1 := (hb6.cell (p := ⟨w5.heap.size, 1, none⟩) (by simp [heap_drew])).trans (unhide N1); have n2 := (hb6.cell (p := ⟨w5.heap.size, 2, none⟩) (by simp [heap_drew])).trans (unhide N2); clear hb6)
    all_goals
      go_wp2
      refine bodyPost_ret (v := .tuple #[.agg #[.int .i64 x1, .int .i64 x2, .int .i64 x3, .int .i64 x4, .string (bs f)], .bool q]) (by simp [results, Tryz.results57, go_sem, r0, r1, r2, r3, r4]) rfl ⟨?_, ?_⟩
      · exact ⟨x1, x2, x3, x4, bs f, by rw [unhide HR]; cases q <;> rfl, fun x hx => by rw [unhide HR] at hx; cases q <;> cases hx; exact ⟨rfl, rfl, rfl, rfl, rfl⟩⟩
      · exact ((((((unhide HB0).trans (hbb.mono (by omega))).setCell (by simp) _).setCell (by simp) _).setCell (by simp) _).setCell (by simp) _).setCell (by simp) _
  all_goals
    have HR : Hid (R = none) := by
      apply hide; apply unhide HNO
      first | exact .inl h1 | exact .inr (.inl h2) | exact .inr (.inr (.inl h3)) | exact .inr (.inr (.inr h4))
    clear HYE HNO
    have hR := unhide HR
    subst hR
    clear HR
  case' inr.inr.inr.inl => subst h1 h2 h3 h4
  case' inr.inr.inl => subst h1 h2 h3
  case' inr.inl => subst h1 h2
  case' inl => subst h1
  all_goals
    go_enter Tryz.func57, Tryz.ntmps57
    go_wp2_with fail
    refine (unhide HBO _).mono ?_
    rintro e w1 ⟨rfl, rfl⟩
    go_wp2_with fail
    refine (unhide HP _).mono ?_
    rintro e w1 ⟨ao, cap, rfl, hrow, hbel⟩
    obtain ⟨g, hao, hg, hcel⟩ := hrow.2 (by omega)
    rw [hao]
    have c0 := hcel 0 _ rfl
    have c1 := hcel 1 _ rfl
    have c2 := hcel 2 _ rfl
    have c3 := hcel 3 _ rfl
    have c4 := hcel 4 _ rfl
    clear hcel hao hrow
    obtain ⟨hc, hf⟩ := bcell hbel
    have hz : w.heap.size + 1 ≤ w1.heap.size := by have := hbel.size; simp at this; omega
    have HB0 : Hid (Below w.heap.size w w1) := hide (((Below.refl _ _).alloc (Nat.le_refl _) _).trans (hbel.mono (by simp)))
    clear hbel
    go_wp2_with fail
    refine (unhide HA _).mono ?_
    rintro e w2 ⟨rfl, rfl⟩
    go_wp2_with fail
    refine (unhide HB _).mono ?_
    rintro e w3 ⟨rfl, rfl⟩
    go_wp2_with fail
    refine (unhide HC _).mono ?_
    rintro e w4 ⟨rfl, rfl⟩
    go_wp2_with fail
    refine (unhide HD _).mono ?_
    rintro e w5 ⟨rfl, rfl⟩
    go_wp2
    refine bodyPost_ret (v := .tuple #[.agg #[.int .i64 0, .int .i64 0, .int .i64 0, .int .i64 0, .string ByteArray.empty], .bool false]) (by simp [results, Tryz.results57, go_sem, hc]; rfl) rfl ⟨opRes_none, ?_⟩
    exact (((((unhide HB0).setCell (by simp) _).setCell (by simp) _).setCell (by simp) _).setCell (by simp) _).setCell (by simp) _
theorem readOp_any (s : ByteArray) (w : World) (hs : s.size ≤ 4000) :
    Calls Tryz.prog 57 #[.string s] w fun e w' => OpRes (readOp (sl s)) e ∧ Below w.heap.size w w' := by
  cases hb : bodyB (sl s) with
  | false => exact readOp_no s w hs (.inl hb)
  | true =>
    by_cases h5 : (parts (bodyS (sl s))).length = 5
    · obtain ⟨a, b, c, d, e, h⟩ := len5 h5
      exact readOp_yes s w hs a b c d e hb h
    · exact readOp_no s w hs (.inr ⟨hb, h5⟩)
end Go.Proofs.YtdcjimlhaklhfabGreatDoor

namespace Go.Proofs.YtdcjimlhaklhfabGreatDoor
open Go.RowKit
theorem Tryz.infoOp : (Tryz.prog.info? 113).map (fun i => (i.zero, i.size, i.bytes)) = some (some (.agg #[.int .i64 0, .int .i64 0, .int .i64 0, .int .i64 0, .string ByteArray.empty]), 5, 48) := by kernel_rfl
theorem news_five {w : World} (a b c d f : Value) (t : TypeId) : ∀ j x, [a, b, c, d, f][j]? = some x → (w.alloc (.cells #[a, b, c, d, f] t)).cell? ((⟨w.heap.size, 0, none⟩ : Addr).add j) = some x := by
  intro j x hx
  exact World.news_of_block (cs := #[a, b, c, d, f]) (heap_alloc_new w _) j x hx
theorem news_five' {w : World} (o : Obj) (a b c d f : Value) (t : TypeId) : ∀ j x, [a, b, c, d, f][j]? = some x → ((w.alloc o).alloc (.cells #[a, b, c, d, f] t)).cell? ((⟨w.heap.size + 1, 0, none⟩ : Addr).add j) = some x := by
  have := @news_five (w.alloc o) a b c d f t
  simpa using this
/-- What Read answers. -/
def ReadRes (r : Option (List Lo)) (e : Ending) (w' : World) : Prop := match r with
  | none => e = .returned (.tuple #[.slice none 0 0, .bool false])
  | some l => ∃ ao cap, e = .returned (.tuple #[.slice ao l.length cap, .bool true]) ∧ Row w' ao l.length 5 (loCells l)
set_option maxHeartbeats 2000000 in
theorem opsRead_any (s : ByteArray) (w : World) (hs : s.size ≤ 4000) :
    Calls Tryz.prog 29 #[.string s] w fun e w' => ReadRes (readOps (cut (sl s))) e w' ∧ Below w.heap.size w w' := by
  obtain ⟨i0, hi, hz0, hz1, hz2⟩ := info_parts Tryz.infoOp
  have HC := hide (cut_any s w hs)
  have hn : (cut (sl s)).length ≤ 4000 := by have := cut_length_le (sl s); rw [sl_length] at this; omega
  have HL : Hid (∀ r ∈ cut (sl s), r.length ≤ 4000) := hide (fun r hr => by have := cut_mem_len (sl s) r hr; rw [sl_length] at this; omega)
  generalize cut (sl s) = rs at *
  go_enter Tryz.func29, Tryz.ntmps29
  go_wp2_with fail
  refine (unhide HC).mono ?_
  rintro e w0 ⟨ao, cap, rfl, hrow, hbel0⟩
  have HROW := hide hrow; clear hrow
  have hs0 := hbel0.size
  have HB0 := hide hbel0; clear hbel0
  go_wp2
  go_loopw [4, 12] (fun v i wr => ∃ k : Nat, ∃ acc : List Lo, k ≤ rs.length ∧ i = .int .i64 k ∧ wr.ownsRow w0.heap.size 113 5 v k (loCells acc) ∧ Below w0.heap.size w0 wr ∧ Hid (LoInv rs k acc)) (fun _ i _ => rs.length - (intOf i).toNat)
  case atStart => exact ⟨0, [], Nat.zero_le _, rfl, World.ownsRow_nil _ _ _ _, Below.refl _ _, hide (loInv_0 rs)⟩
  case round =>
    obtain ⟨k, acc, hk, rfl, hown, hbel, HI⟩ := hrel
    by_cases hlt : k < rs.length
    · obtain ⟨g, hao, hg, hcell⟩ := str_cell (unhide HROW) hbel hlt
      rw [hao]
      have hrl : (rs[k]).length ≤ 4000 := unhide HL _ (List.getElem_mem hlt)
      have HRD := hide (fun W => readOp_any (bs rs[k]) W (by rw [bs_size]; exact hrl))
      rw [sl_bs] at HRD
      have hsz := hbel.size
      clear hao
      generalize hr : rs[k] = r at *
      have HR := hide hr; clear hr
      generalize hR : readOp r = R at *
      have HRR := hide hR; clear hR
      cases R with
      | none =>
        go_wp2_with fail
        refine (unhide HRD _).mono ?_
        rintro e w2 ⟨⟨a, b, c, d, z, rfl, _⟩, hb2⟩
        have HN := hide (loInv_no (unhide HI) hlt (by rw [unhide HR, unhide HRR]))
        have HB3 := hide (hbel.trans (hb2.mono hbel.size))
        have hz3 := hb2.size
        go_wp2
        go_ret2
        refine ⟨by rw [unhide HN]; rfl, ?_⟩
        exact (unhide HB0).trans (((unhide HB3).alloc (by omega) _).mono hs0)
      | some nd =>
        go_wp2_with fail
        refine (unhide HRD _).mono ?_
        rintro e w2 ⟨⟨a, b, c, d, z, rfl, hx⟩, hb2⟩
        obtain ⟨rfl, rfl, rfl, rfl, rfl⟩ := hx nd rfl
        have HB3 := hide (hbel.trans (hb2.mono hbel.size))
        have HOWN := hide (own_below hown hb2)
        have hz3 := hb2.size
        go_wp2_with (first
          | (at_builtin; (refine wpList_append_own _ rfl _ _ 65 rfl w0.heap.size 113 i0 (.agg #[.int .i64 0, .int .i64 0, .int .i64 0, .int .i64 0, .string ByteArray.empty]) 5 48 Tryz.underlying65 hi hz0 hz1 hz2 rfl (by decide) _ _ _ rfl (own_below (unhide HOWN) (((Below.refl _ _).alloc (Nat.le_refl _) _).alloc (by simp) _)) ⟨w2.heap.size + 1, 0, none⟩ 1 1 (loC nd) rfl rfl (news_five' _ _ _ _ _ _ _) (by simp [Value.oneCell', loC]) (by unfold maxLen; omega) (by omega) (by have := hbel.size; simp; omega) ?_))
          | go_in)
        intro v' w3 hown' hgrow _
        have HN := hide (loInv_yes (unhide HI) hlt (x := nd) (by rw [unhide HR, unhide HRR]))
        have hb4 : Below w0.heap.size w0 w3 := ((((unhide HB3).alloc (by have := hbel.size; omega) _).alloc (by have := hbel.size; simp; omega) _)).grown hgrow (by have := hbel.size; simp; omega) (own_ge hown)
        have hown2 : w3.ownsRow w0.heap.size 113 5 v' (k + 1) (loCells (acc ++ [nd])) := by rw [loCells_snoc]; exact hown'
        clear hgrow hown hbel hown' hb2
        go_wp2
        go_roundw
        case rel => exact ⟨k + 1, _, by omega, by go_num, hown2, hb4, HN⟩
        case measure => simp [intOf]; omega
    · have HN := hide (loInv_end (unhide HI) hlt)
      have HI1 := hide (unhide HI).1
      go_wp2
      obtain ⟨ao', cap', rfl, hr⟩ := row_of_owns hown
      go_ret2
      refine ⟨?_, (unhide HB0).trans (hbel.mono hs0)⟩
      rw [unhide HN]
      rw [← unhide HI1] at hr
      exact ⟨ao', cap', by rw [unhide HI1]; rfl, hr⟩
end Go.Proofs.YtdcjimlhaklhfabGreatDoor

namespace Go.Proofs.YtdcjimlhaklhfabGreatDoor
open Go.RowKit
/-- An op's cells in a block of its own. -/
def OpAt (w : World) (g : Nat) (x : Lo) : Prop := g < w.heap.size ∧ w.cell? ⟨g, 0, none⟩ = some (.int .i64 x.count) ∧ w.cell? ⟨g, 1, none⟩ = some (.int .i64 x.site) ∧ w.cell? ⟨g, 2, none⟩ = some (.int .i64 x.node.id) ∧ w.cell? ⟨g, 3, none⟩ = some (.int .i64 x.node.parent) ∧ w.cell? ⟨g, 4, none⟩ = some (.string (bs x.node.name))
theorem OpAt.below {w w' : World} {g B : Nat} {x : Lo} (h : OpAt w g x) (hb : Below B w w') (hB : g < B) : OpAt w' g x := by
  obtain ⟨h0, h1, h2, h3, h4, h5⟩ := h
  have hs := hb.size
  refine ⟨by omega, ?_, ?_, ?_, ?_, ?_⟩
  · rw [hb.cell (p := ⟨g, 0, none⟩) hB]; exact h1
  · rw [hb.cell (p := ⟨g, 1, none⟩) hB]; exact h2
  · rw [hb.cell (p := ⟨g, 2, none⟩) hB]; exact h3
  · rw [hb.cell (p := ⟨g, 3, none⟩) hB]; exact h4
  · rw [hb.cell (p := ⟨g, 4, none⟩) hB]; exact h5
theorem opAt_new (w : World) (x : Lo) (t : TypeId) : OpAt (w.alloc (.cells #[.int .i64 x.count, .int .i64 x.site, .int .i64 x.node.id, .int .i64 x.node.parent, .string (bs x.node.name)] t)) w.heap.size x := by
  refine ⟨by simp, news_five _ _ _ _ _ _ 0 _ rfl, news_five _ _ _ _ _ _ 1 _ rfl, news_five _ _ _ _ _ _ 2 _ rfl, news_five _ _ _ _ _ _ 3 _ rfl, news_five _ _ _ _ _ _ 4 _ rfl⟩
theorem Row.below' {w w' : World} {ao : Option Addr} {n size : Nat} {xs : List Value} {B : Nat} (h : Row w ao n size xs) (hb : Below B w w') (hB : w.heap.size ≤ B) : Row w' ao n size xs := h.below (hb.mono hB)
theorem fresh_take (L list : List Lo) (k : Nat) (h : k < list.length) : fresh L (list.take (k + 1)) = freshS L (fresh L (list.take k)) list[k] := by
  rw [List.take_succ_eq_append_getElem h, fresh_snoc]
theorem freshS_no {L acc : List Lo} {x : Lo} (h : hasStamp L x = true ∨ hasStamp acc x = true) : freshS L acc x = acc := by
  unfold freshS; rw [if_pos]; rw [Bool.or_eq_true]; exact h
theorem freshS_yes {L acc : List Lo} {x : Lo} (h : hasStamp L x = false) (g : hasStamp acc x = false) : freshS L acc x = acc ++ [x] := by
  unfold freshS; rw [if_neg]; rw [h, g]; simp
set_option maxHeartbeats 4000000 in
theorem fresh_any (L list : List Lo) (b o : Nat) (ao bo : Option Addr) (ca cb : Nat) (w : World) (hlog : w.cell? ⟨b, o, none⟩ = some (.slice ao L.length ca)) (hb : b < w.heap.size) (hL : Row w ao L.length 5 (loCells L)) (hl : Row w bo list.length 5 (loCells list)) (hL0 : L.length ≤ 4000) (hl0 : list.length ≤ 4000) :
    Calls Tryz.prog 58 #[.pointer (some ⟨b, o, none⟩), .slice bo list.length cb] w fun e w' => ∃ fo cf, e = .returned (.slice fo (fresh L list).length cf) ∧ w'.ownsRow w.heap.size 113 5 (.slice fo (fresh L list).length cf) (fresh L list).length (loCells (fresh L list)) ∧ Below w.heap.size w w' := by
  obtain ⟨i0, hi, hz0, hz1, hz2⟩ := info_parts Tryz.infoOp
  have HL := hide hL; clear hL
  have HLI := hide hl; clear hl
  have HLOG := hide hlog; clear hlog
  go_enter Tryz.func58, Tryz.ntmps58
  go_wp2
  go_loopw [5, 12] (fun v i wr => ∃ k : Nat, k ≤ list.length ∧ i = .int .i64 k ∧ wr.ownsRow w.heap.size 113 5 v (fresh L (list.take k)).length (loCells (fresh L (list.take k))) ∧ Below w.heap.size w wr) (fun _ i _ => list.length - (intOf i).toNat)
  case atStart => exact ⟨0, Nat.zero_le _, rfl, World.ownsRow_nil _ _ _ _, Below.refl _ _⟩
  case round =>
    obtain ⟨k, hk, rfl, hown, hbel⟩ := hrel
    have hfl := fresh_len L (list.take k)
    rw [List.length_take] at hfl
    by_cases hlt : k < list.length
    · obtain ⟨g, hao, hg, c0, c1, c2, c3, c4⟩ := lo_cells (unhide HLI) hbel (Nat.le_refl _) hlt
      rw [hao]
      clear hao
      have HST := hide (fresh_take L list k hlt)
      generalize list[k] = x at *
      have hclog : wr.cell? ⟨b, o, none⟩ = some (.slice ao L.length ca) := by rw [hbel.cell (p := ⟨b, o, none⟩) hb]; exact unhide HLOG
      have hsz := hbel.size
      have hbr : b < wr.heap.size := by omega
      generalize fresh L (list.take k) = acc at *
      obtain ⟨fo, cf, rfl, hrow⟩ := row_of_owns hown
      have HOP := hide (opAt_new wr x 113)
      have hB1 := hbel.alloc hsz (.cells #[.int .i64 x.count, .int .i64 x.site, .int .i64 x.node.id, .int .i64 x.node.parent, .string (bs x.node.name)] 113)
      have HH1 := hide (fun W (h : Row W ao L.length 5 (loCells L)) => hasStamp_any L x ao ca W h (by omega))
      have HH2 := hide (fun W (h : Row W fo acc.length 5 (loCells acc)) => hasStamp_any acc x fo cf W h (by omega))
      have HRL : Hid (Row (wr.alloc (.cells #[.int .i64 x.count, .int .i64 x.site, .int .i64 x.node.id, .int .i64 x.node.parent, .string (bs x.node.name)] 113)).drew ao L.length 5 (loCells L)) := hide ((unhide HL).below hB1.drew)
      have HNO := hide (@freshS_no L acc x)
      have HYE := hide (@freshS_yes L acc x)
      generalize hasStamp L x = p at *
      generalize hasStamp acc x = q at *
      have HB1 := hide hB1.drew; clear hB1
      have HOWN := hide (own_below hown ((Below.refl wr.heap.size wr).alloc (Nat.le_refl _) (.cells #[.int .i64 x.count, .int .i64 x.site, .int .i64 x.node.id, .int .i64 x.node.parent, .string (bs x.node.name)] 113)).drew)
      clear hown
      have HROW := hide (hrow.below ((Below.refl wr.heap.size wr).alloc (Nat.le_refl _) (.cells #[.int .i64 x.count, .int .i64 x.site, .int .i64 x.node.id, .int .i64 x.node.parent, .string (bs x.node.name)] 113)).drew)
      clear hrow
      go_wp2
      go_region_with (go_at_call 95; refine (unhide HH1 _ (by exact unhide HRL)).mono ?_; rintro e w2 ⟨rfl, hb2⟩; have hop2 := OpAt.below (w := (wr.alloc (.cells #[.int .i64 x.count, .int .i64 x.site, .int .i64 x.node.id, .int .i64 x.node.parent, .string (bs x.node.name)] 113)).drew) (unhide HOP) hb2 (by simp [heap_drew]); obtain ⟨hz2', d0, d1, d2, d3, d4⟩ := hop2; clear c0 c1 c2 c3 c4 hclog)
      all_goals
        have HW2 := hide ((unhide HB1).trans (hb2.mono (unhide HB1).size))
        have HOWN2 := hide (own_below (unhide HOWN) hb2)
        have HROW2 := hide ((unhide HROW).below hb2)
        have HOP2 : Hid (OpAt w2 wr.heap.size x) := hide ⟨hz2', d0, d1, d2, d3, d4⟩
        clear hb2
        go_wp2_with fail
        refine (unhide HH2 _ (by exact unhide HROW2)).mono ?_
        rintro e w3 ⟨rfl, hb3⟩
        have hop3 := (unhide HOP2).below hb3 hz2'
        obtain ⟨hz3, e0, e1, e2, e3, e4⟩ := hop3
        clear d0 d1 d2 d3 d4
        have HW3 := hide ((unhide HW2).trans (hb3.mono (unhide HW2).size))
        have HOWN3 := hide (own_below (unhide HOWN2) hb3)
        clear hb3
        have hsz3 := (unhide HW3).size
        rcases (show p = true ∨ (p = false ∧ q = true) ∨ (p = false ∧ q = false) from by cases p <;> cases q <;> simp) with hp | ⟨hp, hq⟩ | ⟨hp, hq⟩
        · have HA : Hid (fresh L (list.take (k + 1)) = acc) := hide ((unhide HST).trans (unhide HNO (.inl hp)))
          subst hp
          go_wp2
          go_roundw
          case rel => exact ⟨k + 1, by omega, by go_num, by rw [unhide HA]; exact unhide HOWN3, unhide HW3⟩
          case measure => simp [intOf]; omega
        · have HA : Hid (fresh L (list.take (k + 1)) = acc) := hide ((unhide HST).trans (unhide HNO (.inr hq)))
          subst hp hq
          go_wp2
          go_roundw
          case rel => exact ⟨k + 1, by omega, by go_num, by rw [unhide HA]; exact unhide HOWN3, unhide HW3⟩
          case measure => simp [intOf]; omega
        · have HA : Hid (fresh L (list.take (k + 1)) = acc ++ [x]) := hide ((unhide HST).trans (unhide HYE hp hq))
          subst hp hq
          go_wp2_with (first
            | (at_builtin; (refine wpList_append_own _ rfl _ _ 65 rfl w.heap.size 113 i0 (.agg #[.int .i64 0, .int .i64 0, .int .i64 0, .int .i64 0, .string ByteArray.empty]) 5 48 Tryz.underlying65 hi hz0 hz1 hz2 rfl (by decide) _ _ _ rfl (own_below (unhide HOWN3) ((Below.refl _ _).alloc (Nat.le_refl _) _)) ⟨w3.heap.size, 0, none⟩ 1 1 (loC x) rfl rfl (news_five _ _ _ _ _ _) (by simp [Value.oneCell', loC]) (by unfold maxLen; omega) (by omega) (by simp; omega) ?_))
            | go_in)
          intro v' w4 hown' hgrow _
          have hb4 : Below w.heap.size w w4 := ((unhide HW3).alloc hsz3 _).grown hgrow (by simp; omega) (own_ge (unhide HOWN3))
          have hown2 : w4.ownsRow w.heap.size 113 5 v' (fresh L (list.take (k + 1))).length (loCells (fresh L (list.take (k + 1)))) := by rw [unhide HA, loCells_snoc, List.length_append]; exact hown'
          clear hgrow hown'
          go_wp2
          go_roundw
          case rel => exact ⟨k + 1, by omega, by go_num, hown2, hb4⟩
          case measure => simp [intOf]; omega
    · have HE : Hid (fresh L list = fresh L (list.take k)) := by apply hide; rw [List.take_of_length_le (by omega)]
      generalize fresh L (list.take k) = acc at *
      obtain ⟨fo, cf, rfl, hr⟩ := row_of_owns hown
      go_wp2
      go_ret
      refine ⟨fo, cf, by rw [unhide HE]; rfl, ?_, hbel⟩
      rw [unhide HE]; exact hown
end Go.Proofs.YtdcjimlhaklhfabGreatDoor
