import Derived.Test.YtdcjimlhaklhfabGreatDoorHm2
import Derived.Test.YtdcjimlhaklhfabGreatDoorHm3
namespace Go.Proofs.YtdcjimlhaklhfabGreatDoor
open Go.RowKit
def NoIn (p : Nat → Bool) (lo k : Nat) : Prop := ∀ j, lo ≤ j → j < k → p j = false
theorem noIn_succ {p : Nat → Bool} {lo k : Nat} (h : NoIn p lo k) (hp : p k = false) : NoIn p lo (k + 1) := by
  intro j h1 h2
  by_cases e : j = k
  · subst e; exact hp
  · exact h j h1 (by omega)
theorem drew2 (w : World) (a b : Nat) : ∃ n, (w.drewN a).drewN b = w.drewN n := ⟨a + b, by simp [World.drewN, Nat.add_assoc]⟩
set_option maxHeartbeats 1000000 in
theorem unordered_any (ns : List Nd) (ao : Option Addr) (cap : Nat) (w : World) (hrow : Row w ao ns.length 3 (ndCells ns)) (hl : ns.length ≤ 4000) :
    Calls Tryz.prog 68 #[.slice ao ns.length cap] w fun e w' => e = .returned (.int .i64 (scan (unordered ns) 1 ns.length)) ∧ ∃ n, w' = w.drewN n := by
  have HROW := hide hrow; clear hrow
  go_enter Tryz.func68, Tryz.ntmps68
  go_wp2
  go_loopw [3] (fun i wr => ∃ k nq : Nat, 1 ≤ k ∧ (k ≤ ns.length ∨ k = 1) ∧ i = .int .i64 k ∧ wr = w.drewN nq ∧ Hid (NoIn (unordered ns) 1 k)) (fun i _ => ns.length - (intOf i).toNat)
  case atStart => exact ⟨1, 0, Nat.le_refl _, .inr rfl, rfl, rfl, hide (fun j h1 h2 => by omega)⟩
  case round =>
    obtain ⟨k, nq, hk1, hk, rfl, rfl, HN⟩ := hrel
    by_cases hlt : k < ns.length
    · obtain ⟨j, rfl⟩ : ∃ j, k = j + 1 := ⟨k - 1, by omega⟩
      have HB := hide (Below.refl w.heap.size w)
      obtain ⟨g, hao, hg, c0, _, _⟩ := nd_cells (unhide HROW) (unhide HB) hlt
      obtain ⟨g', hao', _, d0, _, _⟩ := nd_cells (unhide HROW) (unhide HB) (show j < ns.length by omega)
      rw [hao] at hao'
      have hgg : g = g' := by cases hao'; rfl
      subst hgg
      rw [hao]
      have HU : Hid (unordered ns (j + 1) = decide ((ns[j + 1]).id ≤ (ns[j]).id)) := by
        apply hide; unfold unordered; rw [ndAt_get _ _ hlt, show j + 1 - 1 = j from rfl, ndAt_get _ _ (by omega)]
      clear hao hao' HB
      have hj0 : (0 : Int) ≤ j := by omega
      have hj1 : (j : Int) + 1 < ns.length := by omega
      have hj2 : (j : Int) < ns.length := by omega
      have hj3 : (0 : Int) ≤ (j : Int) + 1 := by omega
      have hj4 : ((j : Int) + 1).toNat = j + 1 := by omega
      by_cases hle : (ns[j + 1]).id ≤ (ns[j]).id
      · have HS : Hid (scan (unordered ns) 1 ns.length = j + 1) := hide (scan_hit (by omega) hlt (by rw [unhide HU]; simpa using hle) (unhide HN))
        go_wp2
        go_quiet (fail)
        go_wp2
        go_ret
        exact ⟨ret_int (by rw [unhide HS]), drew2 _ _ _⟩
      · have HN2 := hide (noIn_succ (unhide HN) (by rw [unhide HU]; simpa using hle))
        go_wp2
        go_quiet (fail)
        go_wp2
        go_roundw
        case rel => exact ⟨j + 1 + 1, _, by omega, by omega, by go_num, rfl, HN2⟩
        case measure => simp [intOf]; omega
    · have HS : Hid (scan (unordered ns) 1 ns.length = ns.length) := hide (scan_none (fun j h1 h2 => unhide HN j h1 (by omega)))
      go_wp2
      go_ret
      exact ⟨ret_int (by rw [unhide HS]), _, rfl⟩
set_option maxHeartbeats 1000000 in
theorem orphan_any {x : Ext} (t : Tr) (b : Nat) (ns : List Nd) (ao : Option Addr) (cap : Nat) (w : World) (ht : TrOk t) (hT : TreeAt x w b t) (hrow : Row w ao ns.length 3 (ndCells ns)) (hn : ∀ n ∈ ns, 0 ≤ n.parent ∧ n.parent ≤ 99) (hl : ns.length ≤ 4000) :
    Calls Tryz.prog 104 #[.pointer (some ⟨b, 0, none⟩), .slice ao ns.length cap] w fun e w' => e = .returned (.int .i64 (scan (orphan t ns) 0 ns.length)) ∧ Below w.heap.size w w' := by
  have HROW := hide hrow; clear hrow
  have HT := hide hT; clear hT
  have HO := hide ht; clear ht
  have HNB := hide hn; clear hn
  go_enter Tryz.func104, Tryz.ntmps104
  go_wp2
  go_loopw [9] (fun i wr => ∃ k : Nat, k ≤ ns.length ∧ i = .int .i64 k ∧ Below w.heap.size w wr ∧ Hid (NoIn (orphan t ns) 0 k)) (fun i _ => ns.length - (intOf i).toNat)
  case atStart => exact ⟨0, Nat.zero_le _, rfl, Below.refl _ _, hide (fun j h1 h2 => by omega)⟩
  case round =>
    obtain ⟨k, hk, rfl, hbel, HN⟩ := hrel
    by_cases hlt : k < ns.length
    · obtain ⟨g, hao, hg, c0, c1, c2⟩ := nd_cells (unhide HROW) hbel hlt
      rw [hao]
      have hp := unhide HNB _ (List.getElem_mem hlt)
      have HU : Hid (orphan t ns k = !isParentT t (ns[k]).parent) := by apply hide; unfold orphan; rw [ndAt_get _ _ hlt]
      have hsz := hbel.size
      have HB1 := hide (hbel.alloc hsz (.cells #[.int .i64 (ns[k]).id, .int .i64 (ns[k]).parent, .string (bs (ns[k]).name)] 75))
      have HP := hide (isParent_any t b (ns[k]).parent _ (unhide HO) hp.1 hp.2 ((unhide HT).below (unhide HB1)))
      clear hao hbel
      generalize ns[k] = nd at *
      cases hq : isParentT t nd.parent
      · have HS : Hid (scan (orphan t ns) 0 ns.length = k) := hide (scan_hit (by omega) hlt (by rw [unhide HU, hq]; rfl) (unhide HN))
        rw [hq] at HP
        clear hq
        go_wp2_with fail
        refine (unhide HP).mono ?_
        rintro e w2 ⟨rfl, rfl⟩
        go_wp2
        go_ret
        exact ⟨ret_int (by rw [unhide HS]), unhide HB1⟩
      · have HN2 := hide (noIn_succ (unhide HN) (by rw [unhide HU, hq]; rfl))
        rw [hq] at HP
        clear hq
        go_wp2_with fail
        refine (unhide HP).mono ?_
        rintro e w2 ⟨rfl, rfl⟩
        go_wp2
        go_roundw
        case rel => exact ⟨k + 1, by omega, by go_num, unhide HB1, HN2⟩
        case measure => simp [intOf]; omega
    · have HS : Hid (scan (orphan t ns) 0 ns.length = ns.length) := hide (scan_none (fun j h1 h2 => unhide HN j h1 (by omega)))
      go_wp2
      go_ret
      exact ⟨ret_int (by rw [unhide HS]), hbel⟩
set_option maxHeartbeats 1000000 in
theorem looped_any {x : Ext} (t : Tr) (b : Nat) (ns : List Nd) (ao : Option Addr) (cap : Nat) (w : World) (ht : TrOk t) (hT : TreeAt x w b t) (hrow : Row w ao ns.length 3 (ndCells ns)) (hn : ∀ n ∈ ns, 0 ≤ n.id ∧ n.id ≤ 99) (hl : ns.length ≤ 4000) :
    Calls Tryz.prog 105 #[.pointer (some ⟨b, 0, none⟩), .slice ao ns.length cap] w fun e w' => e = .returned (.int .i64 (scan (looped t ns) 0 ns.length)) ∧ Below w.heap.size w w' := by
  have HROW := hide hrow; clear hrow
  have HT := hide hT; clear hT
  have HO := hide ht; clear ht
  have HNB := hide hn; clear hn
  go_enter Tryz.func105, Tryz.ntmps105
  go_wp2
  go_loopw [9] (fun i wr => ∃ k : Nat, k ≤ ns.length ∧ i = .int .i64 k ∧ Below w.heap.size w wr ∧ Hid (NoIn (looped t ns) 0 k)) (fun i _ => ns.length - (intOf i).toNat)
  case atStart => exact ⟨0, Nat.zero_le _, rfl, Below.refl _ _, hide (fun j h1 h2 => by omega)⟩
  case round =>
    obtain ⟨k, hk, rfl, hbel, HN⟩ := hrel
    by_cases hlt : k < ns.length
    · obtain ⟨g, hao, hg, c0, c1, c2⟩ := nd_cells (unhide HROW) hbel hlt
      rw [hao]
      have hp := unhide HNB _ (List.getElem_mem hlt)
      have HU : Hid (looped t ns k = !meetsT t (ns[k]).id 0) := by apply hide; unfold looped; rw [ndAt_get _ _ hlt]
      have hsz := hbel.size
      have HB1 := hide (hbel.alloc hsz (.cells #[.int .i64 (ns[k]).id, .int .i64 (ns[k]).parent, .string (bs (ns[k]).name)] 75))
      have HP := hide (meets_any t b (ns[k]).id 0 _ (unhide HO) hp.1 hp.2 ((unhide HT).below (unhide HB1)))
      clear hao hbel
      generalize ns[k] = nd at *
      cases hq : meetsT t nd.id 0
      · have HS : Hid (scan (looped t ns) 0 ns.length = k) := hide (scan_hit (by omega) hlt (by rw [unhide HU, hq]; rfl) (unhide HN))
        rw [hq] at HP
        clear hq
        go_wp2_with fail
        refine (unhide HP).mono ?_
        rintro e w2 ⟨rfl, rfl⟩
        go_wp2
        go_ret
        exact ⟨ret_int (by rw [unhide HS]), unhide HB1⟩
      · have HN2 := hide (noIn_succ (unhide HN) (by rw [unhide HU, hq]; rfl))
        rw [hq] at HP
        clear hq
        go_wp2_with fail
        refine (unhide HP).mono ?_
        rintro e w2 ⟨rfl, rfl⟩
        go_wp2
        go_roundw
        case rel => exact ⟨k + 1, by omega, by go_num, unhide HB1, HN2⟩
        case measure => simp [intOf]; omega
    · have HS : Hid (scan (looped t ns) 0 ns.length = ns.length) := hide (scan_none (fun j h1 h2 => unhide HN j h1 (by omega)))
      go_wp2
      go_ret
      exact ⟨ret_int (by rw [unhide HS]), hbel⟩
end Go.Proofs.YtdcjimlhaklhfabGreatDoor

namespace Go.Proofs.YtdcjimlhaklhfabGreatDoor
open Go.RowKit
theorem names_eq (a b : Str) : ((bs a).toList == (bs b).toList) = (a == b) := by rw [tl_sl, tl_sl, sl_bs, sl_bs]
theorem same_get (ns : List Nd) (i j : Nat) (hi : i < ns.length) (hj : j < ns.length) : samePlace ns i j = (((ns[j]).parent == (ns[i]).parent) && ((ns[j]).name == (ns[i]).name)) := by
  unfold samePlace; rw [ndAt_get _ _ hi, ndAt_get _ _ hj]
theorem twice_yes {ns : List Nd} {i j : Nat} (h : j < i) (hs : samePlace ns i j = true) : twice ns i = true := by unfold twice; exact decide_eq_true ⟨j, h, hs⟩
theorem twice_no {ns : List Nd} {i : Nat} (h : NoIn (samePlace ns i) 0 i) : twice ns i = false := by
  unfold twice
  apply decide_eq_false
  rintro ⟨j, h1, h2⟩
  rw [h j (by omega) h1] at h2
  cases h2
set_option maxHeartbeats 2000000 in
theorem twice_any (ns : List Nd) (ao : Option Addr) (cap : Nat) (w : World) (hrow : Row w ao ns.length 3 (ndCells ns)) (hl : ns.length ≤ 4000) :
    Calls Tryz.prog 106 #[.slice ao ns.length cap] w fun e w' => e = .returned (.int .i64 (scan (twice ns) 0 ns.length)) ∧ ∃ n, w' = w.drewN n := by
  have HROW := hide hrow; clear hrow
  go_enter Tryz.func106, Tryz.ntmps106
  go_wp2
  go_loopw [7] (fun x wr => ∃ i nq : Nat, i ≤ ns.length ∧ x = .int .i64 i ∧ wr = w.drewN nq ∧ Hid (NoIn (twice ns) 0 i)) (fun x _ => ns.length - (intOf x).toNat)
  case atStart => exact ⟨0, 0, Nat.zero_le _, rfl, rfl, hide (fun j h1 h2 => by omega)⟩
  case round =>
    obtain ⟨i, nq, hi, rfl, rfl, HN⟩ := hrel
    by_cases hlt : i < ns.length
    · have hi0 : (0 : Int) ≤ i := by omega
      have hi1 : (i : Int) < ns.length := by omega
      go_wp2
      go_loopw [4] (fun x wr => ∃ j nq' : Nat, j ≤ i ∧ x = .int .i64 j ∧ wr = w.drewN nq' ∧ Hid (NoIn (samePlace ns i) 0 j)) (fun x _ => i - (intOf x).toNat)
      case atStart => exact ⟨0, nq, Nat.zero_le _, rfl, rfl, hide (fun j h1 h2 => by omega)⟩
      case round =>
        obtain ⟨j, nq', hj, rfl, rfl, HM⟩ := hrel
        by_cases hjl : j < i
        · have HB := hide (Below.refl w.heap.size w)
          have hj0 : (0 : Int) ≤ j := by omega
          have hj1 : (j : Int) < ns.length := by omega
          obtain ⟨g, hao, hg, _, c1, c2⟩ := nd_cells (unhide HROW) (unhide HB) hlt
          obtain ⟨g', hao', _, _, d1, d2⟩ := nd_cells (unhide HROW) (unhide HB) (show j < ns.length by omega)
          rw [hao] at hao'
          have hgg : g = g' := by cases hao'; rfl
          subst hgg
          rw [hao]
          have HU := hide (same_get ns i j hlt (by omega))
          clear hao hao' HB
          cases hpe : ((ns[j]).parent == (ns[i]).parent)
          · have HM2 := hide (noIn_succ (unhide HM) (by rw [unhide HU, hpe]; rfl))
            go_wp2
            go_quiet (fail)
            go_wp2
            go_roundw
            case rel => exact ⟨j + 1, _, by omega, by go_num, rfl, HM2⟩
            case measure => simp [intOf]; omega
          · cases hne : ((ns[j]).name == (ns[i]).name)
            · have HM2 := hide (noIn_succ (unhide HM) (by rw [unhide HU, hpe, hne]; rfl))
              have hne2 : ((bs (ns[j]).name).toList == (bs (ns[i]).name).toList) = false := by rw [names_eq]; exact hne
              clear hne
              go_wp2
              go_quiet (fail)
              go_wp2
              go_roundw
              case rel => exact ⟨j + 1, _, by omega, by go_num, rfl, HM2⟩
              case measure => simp [intOf]; omega
            · have HS : Hid (scan (twice ns) 0 ns.length = i) := hide (scan_hit (by omega) hlt (twice_yes hjl (by rw [unhide HU, hpe, hne]; rfl)) (unhide HN))
              have hne2 : ((bs (ns[j]).name).toList == (bs (ns[i]).name).toList) = true := by rw [names_eq]; exact hne
              clear hne
              go_wp2
              go_quiet (fail)
              go_wp2
              go_ret
              exact ⟨ret_int (by rw [unhide HS]), drew2 _ _ _⟩
        · have hji : j = i := by omega
          subst hji
          have HN2 := hide (noIn_succ (unhide HN) (twice_no (unhide HM)))
          go_wp2
          go_roundw
          case rel => exact ⟨j + 1, _, by omega, by go_num, rfl, HN2⟩
          case measure => simp [intOf]; omega
    · have HS : Hid (scan (twice ns) 0 ns.length = ns.length) := hide (scan_none (fun j h1 h2 => unhide HN j h1 (by omega)))
      go_wp2
      go_ret
      exact ⟨ret_int (by rw [unhide HS]), _, rfl⟩
end Go.Proofs.YtdcjimlhaklhfabGreatDoor

namespace Go.Proofs.YtdcjimlhaklhfabGreatDoor
open Go.RowKit
theorem ret_ii {a b c d : Int} (h : a = c) (g : b = d) : Ending.returned (.tuple #[.int .i64 a, .int .i64 b]) = .returned (.tuple #[.int .i64 c, .int .i64 d]) := by rw [h, g]
set_option maxHeartbeats 2000000 in
theorem misplaced_any {x : Ext} (t : Tr) (b : Nat) (ns : List Nd) (ao : Option Addr) (cap : Nat) (w : World) (ht : TrOk t) (hT : TreeAt x w b t) (hrow : Row w ao ns.length 3 (ndCells ns)) (hn : ∀ n ∈ ns, 1 ≤ n.id ∧ n.id ≤ 99 ∧ 0 ≤ n.parent ∧ n.parent ≤ 99 ∧ isName n.name n.id = true) (hl : ns.length ≤ 4000) :
    Calls Tryz.prog 70 #[.pointer (some ⟨b, 0, none⟩), .slice ao ns.length cap] w fun e w' => e = .returned (.tuple #[.int .i64 (misplaced t ns).1, .int .i64 (misplaced t ns).2]) ∧ Below w.heap.size w w' := by
  have HO := hide (fun W (h1 : TreeAt x W b t) (h2 : Row W ao ns.length 3 (ndCells ns)) => orphan_any t b ns ao cap W ht h1 h2 (fun n hh => ⟨(hn n hh).2.2.1, (hn n hh).2.2.2.1⟩) hl)
  have HL := hide (fun W (h1 : TreeAt x W b t) (h2 : Row W ao ns.length 3 (ndCells ns)) => looped_any t b ns ao cap W ht h1 h2 (fun n hh => ⟨by have := (hn n hh).1; omega, (hn n hh).2.1⟩) hl)
  have HW := hide (fun W (h2 : Row W ao ns.length 3 (ndCells ns)) => twice_any ns ao cap W h2 hl)
  have HM : Hid (misplaced t ns = if scan (orphan t ns) 0 ns.length < ns.length then (4, scan (orphan t ns) 0 ns.length) else if scan (looped t ns) 0 ns.length < ns.length then (5, scan (looped t ns) 0 ns.length) else if scan (twice ns) 0 ns.length < ns.length then (6, scan (twice ns) 0 ns.length) else (0, 0)) := hide rfl
  have b1 := scan_le (orphan t ns) 0 ns.length
  have b2 := scan_le (looped t ns) 0 ns.length
  have b3 := scan_le (twice ns) 0 ns.length
  have HT := hide hT; clear hT
  have HR := hide hrow; clear hrow
  clear hn ht
  generalize scan (orphan t ns) 0 ns.length = x at *
  generalize scan (looped t ns) 0 ns.length = y at *
  generalize scan (twice ns) 0 ns.length = z at *
  generalize misplaced t ns = M at *
  by_cases hx : x < ns.length
  · have HM1 : Hid (M = (4, x)) := by apply hide; rw [unhide HM, if_pos hx]
    go_enter Tryz.func70, Tryz.ntmps70
    go_wp2_with fail
    refine (unhide HO _ (unhide HT) (unhide HR)).mono ?_
    rintro e w1 ⟨rfl, hb1⟩
    go_wp2
    go_ret2
    exact ⟨by rw [unhide HM1]; rfl, hb1⟩
  · by_cases hy : y < ns.length
    · have HM1 : Hid (M = (5, y)) := by apply hide; rw [unhide HM, if_neg hx, if_pos hy]
      go_enter Tryz.func70, Tryz.ntmps70
      go_wp2_with fail
      refine (unhide HO _ (unhide HT) (unhide HR)).mono ?_
      rintro e w1 ⟨rfl, hb1⟩
      go_wp2_with fail
      refine (unhide HL _ ((unhide HT).below hb1) ((unhide HR).below hb1)).mono ?_
      rintro e w2 ⟨rfl, hb2⟩
      go_wp2
      go_ret2
      exact ⟨by rw [unhide HM1]; rfl, hb1.trans (hb2.mono hb1.size)⟩
    · by_cases hz : z < ns.length
      · have HM1 : Hid (M = (6, z)) := by apply hide; rw [unhide HM, if_neg hx, if_neg hy, if_pos hz]
        go_enter Tryz.func70, Tryz.ntmps70
        go_wp2_with fail
        refine (unhide HO _ (unhide HT) (unhide HR)).mono ?_
        rintro e w1 ⟨rfl, hb1⟩
        go_wp2_with fail
        refine (unhide HL _ ((unhide HT).below hb1) ((unhide HR).below hb1)).mono ?_
        rintro e w2 ⟨rfl, hb2⟩
        have HB2 := hide (hb1.trans (hb2.mono hb1.size))
        go_wp2_with fail
        refine (unhide HW _ ((unhide HR).below (unhide HB2))).mono ?_
        rintro e w3 ⟨rfl, nq, rfl⟩
        go_wp2
        go_ret2
        exact ⟨by rw [unhide HM1]; rfl, below_drewN (unhide HB2) _⟩
      · have HM1 : Hid (M = (0, 0)) := by apply hide; rw [unhide HM, if_neg hx, if_neg hy, if_neg hz]
        go_enter Tryz.func70, Tryz.ntmps70
        go_wp2_with fail
        refine (unhide HO _ (unhide HT) (unhide HR)).mono ?_
        rintro e w1 ⟨rfl, hb1⟩
        go_wp2_with fail
        refine (unhide HL _ ((unhide HT).below hb1) ((unhide HR).below hb1)).mono ?_
        rintro e w2 ⟨rfl, hb2⟩
        have HB2 := hide (hb1.trans (hb2.mono hb1.size))
        go_wp2_with fail
        refine (unhide HW _ ((unhide HR).below (unhide HB2))).mono ?_
        rintro e w3 ⟨rfl, nq, rfl⟩
        go_wp2
        go_ret2
        exact ⟨by rw [unhide HM1]; rfl, below_drewN (unhide HB2) _⟩
/-! A whole block stored. -/
theorem heap_setCells_row (b : Nat) (t : TypeId) : ∀ (vs : List Value) (o : Nat) (w : World) (cs : List Value), w.heap[b]? = some (.cells cs.toArray t (0, 0)) → o + vs.length ≤ cs.length →
    (w.setCells b o vs).heap[b]? = some (.cells (cs.take o ++ vs ++ cs.drop (o + vs.length)).toArray t (0, 0))
  | [], o, w, cs, h, hl => by simpa [World.setCells] using h
  | v :: r, o, w, cs, h, hl => by
    simp at hl
    have h1 : (w.setCell ⟨b, o, none⟩ v).heap[b]? = some (.cells (cs.set o v).toArray t (0, 0)) := by rw [heap_setCell_same w b o _ _ v h]; simp
    have := heap_setCells_row b t r (o + 1) _ _ h1 (by simp; omega)
    rw [World.setCells, this]
    have e1 : (cs.set o v).take (o + 1) = cs.take o ++ [v] := by
      rw [List.take_succ_eq_append_getElem (by simp; omega), List.take_set]; simp
      rw [List.set_eq_of_length_le (by simp; omega)]
    have e2 : (cs.set o v).drop (o + 1 + r.length) = cs.drop (o + (v :: r).length) := by
      rw [List.drop_set_of_lt (by omega)]; congr 1; simp; omega
    rw [e1, e2]; simp
theorem treeAt_stored {x : Ext} {w : World} {b : Nat} {t : Tr} (h : TreeAt x w b t) (t' : Tr) : TreeAt x (w.setCells b 0 (treeCells t')) b t' := by
  have := heap_setCells_row b x.ty (treeCells t') 0 w (treeCells t ++ x.rest) h (by simp [treeCells_length])
  unfold TreeAt
  rw [this]
  have hd : (treeCells t ++ x.rest).drop 400 = x.rest := by rw [← treeCells_length t, List.drop_left]
  simp [treeCells_length, hd]
end Go.Proofs.YtdcjimlhaklhfabGreatDoor

namespace Go.Proofs.YtdcjimlhaklhfabGreatDoor
open Go.RowKit
def readT (l : Str) : Tr := if (checkT l).1 = 0 then gather (readNodes (cut l)) else tr0
theorem zeroSize : (Tryz.prog.info? 78).map (·.size) = some Tryz.zeroCells78.size := by rw [zeroTree]; exact treeSize' tr0
theorem zeroOne : Tryz.zeroCells78.all (·.oneCell') = true := by rw [zeroTree]; exact treeOne tr0
theorem treeAt_new (w : World) : TreeAt ext0 (w.alloc (.cells Tryz.zeroCells78 78)) w.heap.size tr0 := by
  unfold TreeAt ext0; rw [zeroTree]; simpa using heap_alloc_new w (.cells (treeCells tr0).toArray 78)
theorem treeAt_thereZ {w : World} {b : Nat} {t : Tr} (h : TreeAt ext0 w b t) : w.there b 0 Tryz.zeroCells78.size := by rw [zeroTree]; exact treeAt_there h tr0
theorem treeAt_storedZ {w : World} {b : Nat} {t : Tr} (h : TreeAt ext0 w b t) : TreeAt ext0 (w.setCells b 0 Tryz.zeroCells78.toList) b tr0 := by rw [zeroTree]; exact treeAt_stored h tr0
theorem treeAt_load {w : World} {b : Nat} {t : Tr} (h : TreeAt ext0 w b t) : (loadVar 78 ⟨b, 0, none⟩).run Tryz.prog w = .ok (.agg (treeCells t).toArray) w :=
  run_loadVar_mid w b 0 78 (treeCells t) _ (treeAt_range h) Tryz.underlying78 rfl (treeSize t)
set_option maxHeartbeats 1000000 in
theorem read_long (s : ByteArray) (w : World) (hs : 4000 < s.size) :
    Calls Tryz.prog 36 #[.string s] w fun e w' => e = .returned (.tuple #[.agg (treeCells tr0).toArray, .int .i64 1, .int .i64 0]) ∧ Below w.heap.size w w' := by
  have HT := hide (treeAt_new w)
  go_enter Tryz.func36, Tryz.ntmps36
  go_wp2_with (refine wpList_store_mid (by rfl) 78 (.tmp 2) (.tmp 13) (by rfl) w.heap.size 0 Tryz.zeroCells78 (by rfl) (by rfl) (treeAt_thereZ (unhide HT)) zeroSize zeroOne ?_)
  have hl := treeAt_load (treeAt_storedZ (unhide HT))
  refine bodyPost_ret (v := .tuple #[.agg (treeCells tr0).toArray, .int .i64 1, .int .i64 0]) (by simp [results, Tryz.results36, asAddr, hl]) rfl ⟨rfl, ?_⟩
  exact below_setCells ((Below.refl _ _).alloc (Nat.le_refl _) _) (Nat.le_refl _) (by simp) _ _
set_option maxHeartbeats 1000000 in
theorem read_form (s : ByteArray) (w : World) (hs : s.size ≤ 4000) (hB : (readNodes (cut (sl s))).length < (cut (sl s)).length) :
    Calls Tryz.prog 36 #[.string s] w fun e w' => e = .returned (.tuple #[.agg (treeCells tr0).toArray, .int .i64 2, .int .i64 (readNodes (cut (sl s))).length]) ∧ Below w.heap.size w w' := by
  have HC := hide (fun W => cut_any s W hs)
  have hrl : (cut (sl s)).length ≤ 4000 := by have := cut_length_le (sl s); rw [sl_length] at this; omega
  have hrm : ∀ r ∈ cut (sl s), r.length ≤ 4000 := fun r hr => by have := cut_mem_len (sl s) r hr; rw [sl_length] at this; omega
  have hnl := readNodes_length (cut (sl s))
  have HNB := hide (readNodes_bd (cut (sl s)))
  have HRN := hide (fun ao cap W (h : Row W ao (cut (sl s)).length 1 ((cut (sl s)).map strV)) => readNodes_any (cut (sl s)) ao cap W h hrm hrl)
  clear hrm
  have HT := hide (treeAt_new w)
  generalize readNodes (cut (sl s)) = ns at *
  generalize cut (sl s) = rs at *
  go_enter Tryz.func36, Tryz.ntmps36
  go_wp2_with fail
  refine (unhide HC _).mono ?_
  rintro e w1 ⟨ao, cap, rfl, hrow1, hb1⟩
  have HROW1 := hide hrow1; clear hrow1
  go_wp2_with fail
  refine (unhide HRN _ _ _ (unhide HROW1)).mono ?_
  rintro e w2 ⟨ao2, cap2, rfl, hrow2, hb2⟩
  have HROW2 := hide hrow2; clear hrow2
  have hb12 := hb1.trans (hb2.mono hb1.size)
  have HT2 := hide ((unhide HT).below hb12)
  have HB12 : Hid (Below w.heap.size w w2) := hide (((Below.refl _ _).alloc (Nat.le_refl _) _).trans (hb12.mono (by simp)))
  have hz2 : w.heap.size + 1 ≤ w2.heap.size := by have := hb12.size; simp at this; omega
  clear hb1 hb2 hb12
  go_wp2_with (refine wpList_store_mid (by rfl) 78 (.tmp 2) (.tmp 23) (by rfl) w.heap.size 0 Tryz.zeroCells78 (by rfl) (by rfl) (treeAt_thereZ (unhide HT2)) zeroSize zeroOne ?_)
  have hl := treeAt_load (treeAt_storedZ (unhide HT2))
  refine bodyPost_ret (v := .tuple #[.agg (treeCells tr0).toArray, .int .i64 2, .int .i64 ns.length]) (by simp [results, Tryz.results36, asAddr, hl]) rfl ⟨rfl, ?_⟩
  exact below_setCells (unhide HB12) (Nat.le_refl _) (by omega) _ _
set_option maxHeartbeats 1000000 in
theorem read_order (s : ByteArray) (w : World) (hs : s.size ≤ 4000) (hB : ¬ (readNodes (cut (sl s))).length < (cut (sl s)).length)
    (hU : scan (unordered (readNodes (cut (sl s)))) 1 (readNodes (cut (sl s))).length < (readNodes (cut (sl s))).length) :
    Calls Tryz.prog 36 #[.string s] w fun e w' => e = .returned (.tuple #[.agg (treeCells tr0).toArray, .int .i64 3, .int .i64 (scan (unordered (readNodes (cut (sl s)))) 1 (readNodes (cut (sl s))).length)]) ∧ Below w.heap.size w w' := by
  have HC := hide (fun W => cut_any s W hs)
  have hrl : (cut (sl s)).length ≤ 4000 := by have := cut_length_le (sl s); rw [sl_length] at this; omega
  have hrm : ∀ r ∈ cut (sl s), r.length ≤ 4000 := fun r hr => by have := cut_mem_len (sl s) r hr; rw [sl_length] at this; omega
  have hnl := readNodes_length (cut (sl s))
  have HNB := hide (readNodes_bd (cut (sl s)))
  have HRN := hide (fun ao cap W (h : Row W ao (cut (sl s)).length 1 ((cut (sl s)).map strV)) => readNodes_any (cut (sl s)) ao cap W h hrm hrl)
  clear hrm
  have HT := hide (treeAt_new w)
  have HUN := hide (fun ao cap W h => unordered_any (readNodes (cut (sl s))) ao cap W h (by omega))
  generalize readNodes (cut (sl s)) = ns at *
  generalize cut (sl s) = rs at *
  generalize scan (unordered ns) 1 ns.length = u at *
  go_enter Tryz.func36, Tryz.ntmps36
  go_wp2_with fail
  refine (unhide HC _).mono ?_
  rintro e w1 ⟨ao, cap, rfl, hrow1, hb1⟩
  have HROW1 := hide hrow1; clear hrow1
  go_wp2_with fail
  refine (unhide HRN _ _ _ (unhide HROW1)).mono ?_
  rintro e w2 ⟨ao2, cap2, rfl, hrow2, hb2⟩
  have HROW2 := hide hrow2; clear hrow2
  have hb12 := hb1.trans (hb2.mono hb1.size)
  have HT2 := hide ((unhide HT).below hb12)
  have HB12 : Hid (Below w.heap.size w w2) := hide (((Below.refl _ _).alloc (Nat.le_refl _) _).trans (hb12.mono (by simp)))
  have hz2 : w.heap.size + 1 ≤ w2.heap.size := by have := hb12.size; simp at this; omega
  clear hb1 hb2 hb12
  go_wp2_with fail
  refine (unhide HUN _ _ _ (unhide HROW2)).mono ?_
  rintro e w3 ⟨rfl, nq, rfl⟩
  have HT3 : Hid (TreeAt ext0 (w2.drewN nq) w.heap.size tr0) := hide ((unhide HT2).drewN nq)
  go_wp2_with (refine wpList_store_mid (by rfl) 78 (.tmp 2) (.tmp 32) (by rfl) w.heap.size 0 Tryz.zeroCells78 (by rfl) (by rfl) (treeAt_thereZ (unhide HT3)) zeroSize zeroOne ?_)
  have hl := treeAt_load (treeAt_storedZ (unhide HT3))
  refine bodyPost_ret (v := .tuple #[.agg (treeCells tr0).toArray, .int .i64 3, .int .i64 u]) (by simp [results, Tryz.results36, asAddr, hl]) rfl ⟨rfl, ?_⟩
  exact below_setCells (below_drewN (unhide HB12) _) (Nat.le_refl _) (show w.heap.size ≤ w2.heap.size by omega) _ _
set_option maxHeartbeats 1000000 in
theorem read_place (s : ByteArray) (w : World) (hs : s.size ≤ 4000) (hB : ¬ (readNodes (cut (sl s))).length < (cut (sl s)).length)
    (hU : ¬ scan (unordered (readNodes (cut (sl s)))) 1 (readNodes (cut (sl s))).length < (readNodes (cut (sl s))).length)
    (hM : ((misplaced (gather (readNodes (cut (sl s)))) (readNodes (cut (sl s)))).1 != 0) = true) :
    Calls Tryz.prog 36 #[.string s] w fun e w' => e = .returned (.tuple #[.agg (treeCells tr0).toArray, .int .i64 (misplaced (gather (readNodes (cut (sl s)))) (readNodes (cut (sl s)))).1, .int .i64 (misplaced (gather (readNodes (cut (sl s)))) (readNodes (cut (sl s)))).2]) ∧ Below w.heap.size w w' := by
  have HC := hide (fun W => cut_any s W hs)
  have hrl : (cut (sl s)).length ≤ 4000 := by have := cut_length_le (sl s); rw [sl_length] at this; omega
  have hrm : ∀ r ∈ cut (sl s), r.length ≤ 4000 := fun r hr => by have := cut_mem_len (sl s) r hr; rw [sl_length] at this; omega
  have hnl := readNodes_length (cut (sl s))
  have HNB := hide (readNodes_bd (cut (sl s)))
  have HRN := hide (fun ao cap W (h : Row W ao (cut (sl s)).length 1 ((cut (sl s)).map strV)) => readNodes_any (cut (sl s)) ao cap W h hrm hrl)
  clear hrm
  have HT := hide (treeAt_new w)
  have HUN := hide (fun ao cap W h => unordered_any (readNodes (cut (sl s))) ao cap W h (by omega))
  have HGA := hide (fun ao cap W h => gather_any (readNodes (cut (sl s))) ao cap W h (fun n hn => ⟨(unhide HNB n hn).1, (unhide HNB n hn).2.1⟩) (by omega))
  have HMI := hide (fun b ao cap W h1 h2 => misplaced_any (x := ext0) (gather (readNodes (cut (sl s)))) b (readNodes (cut (sl s))) ao cap W (gather_ok _) h1 h2 (unhide HNB) (by omega))
  generalize misplaced (gather (readNodes (cut (sl s)))) (readNodes (cut (sl s))) = M at *
  generalize gather (readNodes (cut (sl s))) = T at *
  generalize readNodes (cut (sl s)) = ns at *
  generalize cut (sl s) = rs at *
  generalize scan (unordered ns) 1 ns.length = u at *
  go_enter Tryz.func36, Tryz.ntmps36
  go_wp2_with fail
  refine (unhide HC _).mono ?_
  rintro e w1 ⟨ao, cap, rfl, hrow1, hb1⟩
  have HROW1 := hide hrow1; clear hrow1
  go_wp2_with fail
  refine (unhide HRN _ _ _ (unhide HROW1)).mono ?_
  rintro e w2 ⟨ao2, cap2, rfl, hrow2, hb2⟩
  have HROW2 := hide hrow2; clear hrow2
  have hb12 := hb1.trans (hb2.mono hb1.size)
  have HT2 := hide ((unhide HT).below hb12)
  have HB12 : Hid (Below w.heap.size w w2) := hide (((Below.refl _ _).alloc (Nat.le_refl _) _).trans (hb12.mono (by simp)))
  have hz2 : w.heap.size + 1 ≤ w2.heap.size := by have := hb12.size; simp at this; omega
  clear hb1 hb2 hb12
  go_wp2_with fail
  refine (unhide HUN _ _ _ (unhide HROW2)).mono ?_
  rintro e w3 ⟨rfl, nq, rfl⟩
  have HT3 : Hid (TreeAt ext0 (w2.drewN nq) w.heap.size tr0) := hide ((unhide HT2).drewN nq)
  have HROW3 : Hid (Row (w2.drewN nq) ao2 ns.length 3 (ndCells ns)) := hide ((unhide HROW2).below (below_drewN (Below.refl _ _) nq))
  have HB3 : Hid (Below w.heap.size w (w2.drewN nq)) := hide (below_drewN (unhide HB12) nq)
  have hz3 : w.heap.size + 1 ≤ (w2.drewN nq).heap.size := hz2
  clear hz2 HT2 HROW2 HB12
  obtain ⟨w3, hw3⟩ : ∃ x, w2.drewN nq = x := ⟨_, rfl⟩
  rw [hw3] at HT3 HROW3 HB3 hz3 ⊢
  clear hw3
  go_wp2_with fail
  refine (unhide HGA _ _ _ (unhide HROW3)).mono ?_
  rintro e w4 ⟨rfl, hb4⟩
  have HT4 := hide ((unhide HT3).below hb4)
  have HROW4 := hide ((unhide HROW3).below hb4)
  have HB4 := hide ((unhide HB3).trans (hb4.mono (by omega)))
  have hz4 : w.heap.size + 1 ≤ w4.heap.size := by have := hb4.size; omega
  clear hb4 HT3 HROW3 HB3
  have HN := hide (treeAt_new w4)
  have HBa := hide ((Below.refl w4.heap.size w4).alloc (Nat.le_refl _) (.cells Tryz.zeroCells78 78))
  have HB5 : Hid (Below w4.heap.size w4 ((w4.alloc (.cells Tryz.zeroCells78 78)).setCells w4.heap.size 0 (treeCells T))) := hide (below_setCells (unhide HBa) (Nat.le_refl _) (by simp) _ _)
  have HT5 : Hid (TreeAt ext0 ((w4.alloc (.cells Tryz.zeroCells78 78)).setCells w4.heap.size 0 (treeCells T)) w4.heap.size T) := hide (treeAt_stored (unhide HN) T)
  go_wp2_with (refine wpList_store_mid (by rfl) 78 (.tmp 8) (.tmp 35) (by rfl) w4.heap.size 0 (treeCells T).toArray (by rfl) (by rfl) (by exact treeAt_there (unhide HN) T) (treeSize' T) (treeOne T) ?_)
  refine (unhide HMI _ _ _ _ (unhide HT5) ((unhide HROW4).below (unhide HB5))).mono ?_
  rintro e w6 ⟨rfl, hb6⟩
  have HT6 := hide (((unhide HT4).below (unhide HB5)).below hb6)
  have HT6' := hide ((unhide HT5).below hb6)
  have hsz5 : w4.heap.size ≤ ((w4.alloc (.cells Tryz.zeroCells78 78)).setCells w4.heap.size 0 (treeCells T)).heap.size := (unhide HB5).size
  have HB6 := hide ((unhide HB4).trans (((unhide HB5).trans (hb6.mono hsz5)).mono (by omega)))
  have hz6 : w.heap.size + 1 ≤ w6.heap.size := by have := hb6.size; omega
  clear hb6 HB5 HT5 HBa HN hsz5
  go_wp2_with (refine wpList_store_mid (by rfl) 78 (.tmp 2) (.tmp 43) (by rfl) w.heap.size 0 Tryz.zeroCells78 (by rfl) (by rfl) (treeAt_thereZ (unhide HT6)) zeroSize zeroOne ?_)
  have hl := treeAt_load (treeAt_storedZ (unhide HT6))
  refine bodyPost_ret (v := .tuple #[.agg (treeCells tr0).toArray, .int .i64 M.1, .int .i64 M.2]) (by simp [results, Tryz.results36, asAddr, hl]) rfl ⟨rfl, ?_⟩
  exact below_setCells (unhide HB6) (Nat.le_refl _) (by omega) _ _
set_option maxHeartbeats 1000000 in
theorem read_ok (s : ByteArray) (w : World) (hs : s.size ≤ 4000) (hB : ¬ (readNodes (cut (sl s))).length < (cut (sl s)).length)
    (hU : ¬ scan (unordered (readNodes (cut (sl s)))) 1 (readNodes (cut (sl s))).length < (readNodes (cut (sl s))).length)
    (hM : ((misplaced (gather (readNodes (cut (sl s)))) (readNodes (cut (sl s)))).1 != 0) = false) :
    Calls Tryz.prog 36 #[.string s] w fun e w' => e = .returned (.tuple #[.agg (treeCells (gather (readNodes (cut (sl s))))).toArray, .int .i64 0, .int .i64 0]) ∧ Below w.heap.size w w' := by
  have HC := hide (fun W => cut_any s W hs)
  have hrl : (cut (sl s)).length ≤ 4000 := by have := cut_length_le (sl s); rw [sl_length] at this; omega
  have hrm : ∀ r ∈ cut (sl s), r.length ≤ 4000 := fun r hr => by have := cut_mem_len (sl s) r hr; rw [sl_length] at this; omega
  have hnl := readNodes_length (cut (sl s))
  have HNB := hide (readNodes_bd (cut (sl s)))
  have HRN := hide (fun ao cap W (h : Row W ao (cut (sl s)).length 1 ((cut (sl s)).map strV)) => readNodes_any (cut (sl s)) ao cap W h hrm hrl)
  clear hrm
  have HT := hide (treeAt_new w)
  have HUN := hide (fun ao cap W h => unordered_any (readNodes (cut (sl s))) ao cap W h (by omega))
  have HGA := hide (fun ao cap W h => gather_any (readNodes (cut (sl s))) ao cap W h (fun n hn => ⟨(unhide HNB n hn).1, (unhide HNB n hn).2.1⟩) (by omega))
  have HMI := hide (fun b ao cap W h1 h2 => misplaced_any (x := ext0) (gather (readNodes (cut (sl s)))) b (readNodes (cut (sl s))) ao cap W (gather_ok _) h1 h2 (unhide HNB) (by omega))
  generalize misplaced (gather (readNodes (cut (sl s)))) (readNodes (cut (sl s))) = M at *
  generalize gather (readNodes (cut (sl s))) = T at *
  generalize readNodes (cut (sl s)) = ns at *
  generalize cut (sl s) = rs at *
  generalize scan (unordered ns) 1 ns.length = u at *
  go_enter Tryz.func36, Tryz.ntmps36
  go_wp2_with fail
  refine (unhide HC _).mono ?_
  rintro e w1 ⟨ao, cap, rfl, hrow1, hb1⟩
  have HROW1 := hide hrow1; clear hrow1
  go_wp2_with fail
  refine (unhide HRN _ _ _ (unhide HROW1)).mono ?_
  rintro e w2 ⟨ao2, cap2, rfl, hrow2, hb2⟩
  have HROW2 := hide hrow2; clear hrow2
  have hb12 := hb1.trans (hb2.mono hb1.size)
  have HT2 := hide ((unhide HT).below hb12)
  have HB12 : Hid (Below w.heap.size w w2) := hide (((Below.refl _ _).alloc (Nat.le_refl _) _).trans (hb12.mono (by simp)))
  have hz2 : w.heap.size + 1 ≤ w2.heap.size := by have := hb12.size; simp at this; omega
  clear hb1 hb2 hb12
  go_wp2_with fail
  refine (unhide HUN _ _ _ (unhide HROW2)).mono ?_
  rintro e w3 ⟨rfl, nq, rfl⟩
  have HT3 : Hid (TreeAt ext0 (w2.drewN nq) w.heap.size tr0) := hide ((unhide HT2).drewN nq)
  have HROW3 : Hid (Row (w2.drewN nq) ao2 ns.length 3 (ndCells ns)) := hide ((unhide HROW2).below (below_drewN (Below.refl _ _) nq))
  have HB3 : Hid (Below w.heap.size w (w2.drewN nq)) := hide (below_drewN (unhide HB12) nq)
  have hz3 : w.heap.size + 1 ≤ (w2.drewN nq).heap.size := hz2
  clear hz2 HT2 HROW2 HB12
  obtain ⟨w3, hw3⟩ : ∃ x, w2.drewN nq = x := ⟨_, rfl⟩
  rw [hw3] at HT3 HROW3 HB3 hz3 ⊢
  clear hw3
  go_wp2_with fail
  refine (unhide HGA _ _ _ (unhide HROW3)).mono ?_
  rintro e w4 ⟨rfl, hb4⟩
  have HT4 := hide ((unhide HT3).below hb4)
  have HROW4 := hide ((unhide HROW3).below hb4)
  have HB4 := hide ((unhide HB3).trans (hb4.mono (by omega)))
  have hz4 : w.heap.size + 1 ≤ w4.heap.size := by have := hb4.size; omega
  clear hb4 HT3 HROW3 HB3
  have HN := hide (treeAt_new w4)
  have HBa := hide ((Below.refl w4.heap.size w4).alloc (Nat.le_refl _) (.cells Tryz.zeroCells78 78))
  have HB5 : Hid (Below w4.heap.size w4 ((w4.alloc (.cells Tryz.zeroCells78 78)).setCells w4.heap.size 0 (treeCells T))) := hide (below_setCells (unhide HBa) (Nat.le_refl _) (by simp) _ _)
  have HT5 : Hid (TreeAt ext0 ((w4.alloc (.cells Tryz.zeroCells78 78)).setCells w4.heap.size 0 (treeCells T)) w4.heap.size T) := hide (treeAt_stored (unhide HN) T)
  go_wp2_with (refine wpList_store_mid (by rfl) 78 (.tmp 8) (.tmp 35) (by rfl) w4.heap.size 0 (treeCells T).toArray (by rfl) (by rfl) (by exact treeAt_there (unhide HN) T) (treeSize' T) (treeOne T) ?_)
  refine (unhide HMI _ _ _ _ (unhide HT5) ((unhide HROW4).below (unhide HB5))).mono ?_
  rintro e w6 ⟨rfl, hb6⟩
  have HT6 := hide (((unhide HT4).below (unhide HB5)).below hb6)
  have HT6' := hide ((unhide HT5).below hb6)
  have hsz5 : w4.heap.size ≤ ((w4.alloc (.cells Tryz.zeroCells78 78)).setCells w4.heap.size 0 (treeCells T)).heap.size := (unhide HB5).size
  have HB6 := hide ((unhide HB4).trans (((unhide HB5).trans (hb6.mono hsz5)).mono (by omega)))
  have hz6 : w.heap.size + 1 ≤ w6.heap.size := by have := hb6.size; omega
  clear hb6 HB5 HT5 HBa HN hsz5
  go_wp2_with (first
    | (refine wpList_load_mid (by rfl) 78 (.tmp 8) (by rfl) w4.heap.size 0 (by rfl) (treeCells T) _ (treeAt_range (unhide HT6')) Tryz.underlying78 (by rfl) (treeSize T) ?_)
    | (refine wpList_store_mid (by rfl) 78 (.tmp 2) (.tmp 46) (by rfl) w.heap.size 0 (treeCells T).toArray (by rfl) (by rfl) (treeAt_there (unhide HT6) T) (treeSize' T) (treeOne T) ?_))
  have hl := treeAt_load (treeAt_stored (unhide HT6) T)
  refine bodyPost_ret (v := .tuple #[.agg (treeCells T).toArray, .int .i64 0, .int .i64 0]) (by simp [results, Tryz.results36, asAddr, hl]) rfl ⟨rfl, ?_⟩
  exact below_setCells (unhide HB6) (Nat.le_refl _) (by omega) _ _
theorem misplaced_zero {t : Tr} {ns : List Nd} (h : ((misplaced t ns).1 != 0) = false) : misplaced t ns = (0, 0) := by
  unfold misplaced at h ⊢
  split <;> (try split) <;> (try split) <;> simp_all
theorem read_any (s : ByteArray) (w : World) :
    Calls Tryz.prog 36 #[.string s] w fun e w' => e = .returned (.tuple #[.agg (treeCells (readT (sl s))).toArray, .int .i64 (checkT (sl s)).1, .int .i64 (checkT (sl s)).2]) ∧ Below w.heap.size w w' := by
  by_cases h1 : 4000 < s.size
  · have e : checkT (sl s) = (1, 0) := by unfold checkT; rw [sl_length, if_pos h1]
    rw [readT, e]; exact read_long s w h1
  · by_cases h2 : (readNodes (cut (sl s))).length < (cut (sl s)).length
    · have e : checkT (sl s) = (2, (readNodes (cut (sl s))).length) := by unfold checkT; rw [sl_length, if_neg h1]; simp only []; rw [if_pos h2]
      rw [readT, e]; exact read_form s w (by omega) h2
    · by_cases h3 : scan (unordered (readNodes (cut (sl s)))) 1 (readNodes (cut (sl s))).length < (readNodes (cut (sl s))).length
      · have e : checkT (sl s) = (3, scan (unordered (readNodes (cut (sl s)))) 1 (readNodes (cut (sl s))).length) := by unfold checkT; rw [sl_length, if_neg h1]; simp only []; rw [if_neg h2, if_pos h3]
        rw [readT, e]; exact read_order s w (by omega) h2 h3
      · have e : checkT (sl s) = misplaced (gather (readNodes (cut (sl s)))) (readNodes (cut (sl s))) := by unfold checkT; rw [sl_length, if_neg h1]; simp only []; rw [if_neg h2, if_neg h3]
        cases h4 : ((misplaced (gather (readNodes (cut (sl s)))) (readNodes (cut (sl s)))).1 != 0)
        · rw [readT, e, misplaced_zero h4]; exact read_ok s w (by omega) h2 h3 h4
        · rw [readT, e, if_neg (by simpa using h4)]; exact read_place s w (by omega) h2 h3 h4
set_option maxHeartbeats 1000000 in
theorem check_any (s : ByteArray) (w : World) :
    Calls Tryz.prog 33 #[.string s] w fun e w' => e = .returned (.tuple #[.int .i64 (checkT (sl s)).1, .int .i64 (checkT (sl s)).2]) ∧ Below w.heap.size w w' := by
  have HR := hide (fun W => read_any s W)
  generalize checkT (sl s) = c at *
  generalize readT (sl s) = T at *
  go_enter Tryz.func33, Tryz.ntmps33
  go_wp2_with fail
  refine (unhide HR _).mono ?_
  rintro e w1 ⟨rfl, hb1⟩
  have HN := hide (treeAt_new w1)
  go_wp2_with (refine wpList_store_mid (by rfl) 78 (.tmp 4) (.tmp 10) (by rfl) w1.heap.size 0 (treeCells T).toArray (by rfl) (by rfl) (treeAt_there (unhide HN) T) (treeSize' T) (treeOne T) ?_)
  go_ret2
  exact ⟨rfl, below_setCells (hb1.alloc hb1.size _) hb1.size (by have := hb1.size; simp; omega) _ _⟩
end Go.Proofs.YtdcjimlhaklhfabGreatDoor

namespace Go.Proofs.YtdcjimlhaklhfabGreatDoor
open Go.RowKit
theorem TreeAt.parent {x : Ext} {w : World} {b : Nat} {t : Tr} (h : TreeAt x w b t) (i : Nat) (hi : i < 100) : w.cell? ⟨b, 100 + i * 3 + 1, none⟩ = some (.int .i64 ((t i).getD nd0).parent) := by rw [h.cell (100 + i * 3 + 1), (treeCells_node t i hi).2.1]
theorem TreeAt.name {x : Ext} {w : World} {b : Nat} {t : Tr} (h : TreeAt x w b t) (i : Nat) (hi : i < 100) : w.cell? ⟨b, 100 + i * 3 + 2, none⟩ = some (.string (bs ((t i).getD nd0).name)) := by rw [h.cell (100 + i * 3 + 2), (treeCells_node t i hi).2.2]
theorem TreeAt.id {x : Ext} {w : World} {b : Nat} {t : Tr} (h : TreeAt x w b t) (i : Nat) (hi : i < 100) : w.cell? ⟨b, 100 + i * 3, none⟩ = some (.int .i64 ((t i).getD nd0).id) := by rw [h.cell (100 + i * 3), (treeCells_node t i hi).1]
set_option maxHeartbeats 1000000 in
theorem at_any {x : Ext} (t : Tr) (b : Nat) (parent : Int) (name : Str) (w : World) (hT : TreeAt x w b t) :
    Calls Tryz.prog 99 #[.pointer (some ⟨b, 0, none⟩), .int .i64 parent, .string (bs name)] w fun e w' => e = .returned (.int .i64 (atT t parent name)) ∧ w' = w := by
  have HT := hide hT; clear hT
  go_enter Tryz.func99, Tryz.ntmps99
  go_wp2
  go_loop [7] (fun i => ∃ k : Nat, 1 ≤ k ∧ k ≤ 100 ∧ i = .int .i64 k ∧ Hid (NoIn (spotIs t parent name) 1 k)) (fun i => 101 - (intOf i).toNat)
  case atStart => exact ⟨1, by omega, by omega, rfl, hide (fun j h1 h2 => by omega)⟩
  case round =>
    obtain ⟨k, hk1, hk, rfl, HN⟩ := hrel
    by_cases hlt : k ≤ 99
    · have c0 := (unhide HT).here k (by omega)
      have c1 := (unhide HT).parent k (by omega)
      have c2 := (unhide HT).name k (by omega)
      have HU : Hid (spotIs t parent name k = match t k with | none => false | some n => n.parent == parent && n.name == name) := hide rfl
      cases hq : t k with
      | none =>
        have HN2 := hide (noIn_succ (unhide HN) (by rw [unhide HU, hq]))
        rw [hq] at c0 c1 c2
        clear hq
        go_wp2
        go_round
        case rel => exact ⟨k + 1, by omega, by omega, by go_num, HN2⟩
        case measure => simp [intOf]; omega
      | some n =>
        have HU2 : Hid (spotIs t parent name k = (n.parent == parent && n.name == name)) := by apply hide; rw [unhide HU, hq]
        rw [hq] at c0 c1 c2
        clear hq HU
        cases hp : (n.parent == parent)
        · have HN2 := hide (noIn_succ (unhide HN) (by rw [unhide HU2, hp]; rfl))
          go_wp2
          go_round
          case rel => exact ⟨k + 1, by omega, by omega, by go_num, HN2⟩
          case measure => simp [intOf]; omega
        · cases hn : (n.name == name)
          · have HN2 := hide (noIn_succ (unhide HN) (by rw [unhide HU2, hp, hn]; rfl))
            have hn2 : ((bs n.name).toList == (bs name).toList) = false := by rw [names_eq]; exact hn
            clear hn
            go_wp2
            go_round
            case rel => exact ⟨k + 1, by omega, by omega, by go_num, HN2⟩
            case measure => simp [intOf]; omega
          · have HS : Hid (atT t parent name = k) := by
              apply hide
              have e : scan (spotIs t parent name) 1 100 = k := scan_hit hk1 (by omega) (by rw [unhide HU2, hp, hn]; rfl) (unhide HN)
              unfold atT; rw [e, if_pos (by omega)]
            have hn2 : ((bs n.name).toList == (bs name).toList) = true := by rw [names_eq]; exact hn
            clear hn
            go_wp2
            go_ret
            exact ⟨ret_int (unhide HS).symm, rfl⟩
    · have HS : Hid (atT t parent name = 0) := by
        apply hide
        have e : scan (spotIs t parent name) 1 100 = 100 := scan_none (fun j h1 h2 => unhide HN j h1 (by omega))
        unfold atT; rw [e, if_neg (by omega)]
      go_wp2
      go_ret
      exact ⟨ret_int (unhide HS).symm, rfl⟩
set_option maxHeartbeats 1000000 in
theorem kid_any {x : Ext} (t : Tr) (b : Nat) (id : Int) (w : World) (hT : TreeAt x w b t) :
    Calls Tryz.prog 145 #[.pointer (some ⟨b, 0, none⟩), .int .i64 id] w fun e w' => e = .returned (.int .i64 (kidT t id)) ∧ w' = w := by
  have HT := hide hT; clear hT
  go_enter Tryz.func145, Tryz.ntmps145
  go_wp2
  go_loop [5] (fun i => ∃ k : Nat, 1 ≤ k ∧ k ≤ 100 ∧ i = .int .i64 k ∧ Hid (NoIn (kidIs t id) 1 k)) (fun i => 101 - (intOf i).toNat)
  case atStart => exact ⟨1, by omega, by omega, rfl, hide (fun j h1 h2 => by omega)⟩
  case round =>
    obtain ⟨k, hk1, hk, rfl, HN⟩ := hrel
    by_cases hlt : k ≤ 99
    · have c0 := (unhide HT).here k (by omega)
      have c1 := (unhide HT).parent k (by omega)
      have HU : Hid (kidIs t id k = match t k with | none => false | some n => n.parent == id) := hide rfl
      cases hq : t k with
      | none =>
        have HN2 := hide (noIn_succ (unhide HN) (by rw [unhide HU, hq]))
        rw [hq] at c0 c1
        clear hq
        go_wp2
        go_round
        case rel => exact ⟨k + 1, by omega, by omega, by go_num, HN2⟩
        case measure => simp [intOf]; omega
      | some n =>
        have HU2 : Hid (kidIs t id k = (n.parent == id)) := by apply hide; rw [unhide HU, hq]
        rw [hq] at c0 c1
        clear hq HU
        cases hp : (n.parent == id)
        · have HN2 := hide (noIn_succ (unhide HN) (by rw [unhide HU2, hp]))
          go_wp2
          go_round
          case rel => exact ⟨k + 1, by omega, by omega, by go_num, HN2⟩
          case measure => simp [intOf]; omega
        · have HS : Hid (kidT t id = k) := by
            apply hide
            have e : scan (kidIs t id) 1 100 = k := scan_hit hk1 (by omega) (by rw [unhide HU2, hp]) (unhide HN)
            unfold kidT; rw [e, if_pos (by omega)]
          go_wp2
          go_ret
          exact ⟨ret_int (unhide HS).symm, rfl⟩
    · have HS : Hid (kidT t id = 0) := by
        apply hide
        have e : scan (kidIs t id) 1 100 = 100 := scan_none (fun j h1 h2 => unhide HN j h1 (by omega))
        unfold kidT; rw [e, if_neg (by omega)]
      go_wp2
      go_ret
      exact ⟨ret_int (unhide HS).symm, rfl⟩
theorem treeCells_remove (t : Tr) (m : Nat) (h : m < 100) :
    ((((treeCells t).set m (.bool false)).set (100 + m * 3) (.int .i64 0)).set (100 + m * 3 + 1) (.int .i64 0)).set (100 + m * 3 + 2) (.string ⟨#[]⟩) = treeCells (trRemove t m) := by
  apply List.ext_getElem?
  intro j
  simp only [List.getElem?_set, List.length_set, treeCells_length]
  by_cases hj : j < 100
  · rw [treeCells_here _ j hj, treeCells_here _ j hj]
    rw [if_neg (by omega), if_neg (by omega), if_neg (by omega)]
    unfold trRemove
    by_cases e : m = j
    · subst e; rw [if_pos rfl, if_pos (by omega), if_pos (by omega)]; rfl
    · rw [if_neg e, if_neg (by omega)]
  · by_cases hj4 : j < 400
    · obtain ⟨i, r, hi, hr, rfl⟩ : ∃ i r, i < 100 ∧ r < 3 ∧ j = 100 + i * 3 + r := ⟨(j - 100) / 3, (j - 100) % 3, by omega, by omega, by omega⟩
      have ht := treeCells_node t i hi
      have hp := treeCells_node (trRemove t m) i hi
      by_cases e : m = i
      · subst e
        have e1 : trRemove t m m = none := by unfold trRemove; rw [if_pos rfl]
        rw [e1] at hp
        match r, hr with
        | 0, _ => rw [if_neg (by omega), if_neg (by omega), if_pos (by omega), if_pos (by omega)]; exact hp.1.symm
        | 1, _ => rw [if_neg (by omega), if_pos (by omega), if_pos (by omega)]; exact hp.2.1.symm
        | 2, _ => rw [if_pos (by omega), if_pos (by omega)]; exact hp.2.2.symm
      · have e1 : trRemove t m i = t i := by unfold trRemove; rw [if_neg (by omega)]
        rw [e1] at hp
        rw [if_neg (by omega), if_neg (by omega), if_neg (by omega), if_neg (by omega)]
        match r, hr with
        | 0, _ => exact ht.1.trans hp.1.symm
        | 1, _ => exact ht.2.1.trans hp.2.1.symm
        | 2, _ => exact ht.2.2.trans hp.2.2.symm
    · rw [if_neg (by omega), if_neg (by omega), if_neg (by omega), if_neg (by omega), List.getElem?_eq_none (by rw [treeCells_length]; omega), List.getElem?_eq_none (by rw [treeCells_length]; omega)]
theorem remove_world {x : Ext} {w : World} {t : Tr} {b m : Nat} (hm : m ≤ 99) (hT : TreeAt x w b t) :
    TreeAt x ((((w.setCell ⟨b, m, none⟩ (.bool false)).setCell ⟨b, 100 + m * 3, none⟩ (.int .i64 0)).setCell ⟨b, 100 + m * 3 + 1, none⟩ (.int .i64 0)).setCell ⟨b, 100 + m * 3 + 2, none⟩ (.string ⟨#[]⟩)) b (trRemove t m) ∧
    w.grownBy ((((w.setCell ⟨b, m, none⟩ (.bool false)).setCell ⟨b, 100 + m * 3, none⟩ (.int .i64 0)).setCell ⟨b, 100 + m * 3 + 1, none⟩ (.int .i64 0)).setCell ⟨b, 100 + m * 3 + 2, none⟩ (.string ⟨#[]⟩)) (some b) := by
  constructor
  · unfold TreeAt
    rw [← treeCells_remove t m (by omega)]
    have hl := treeCells_length t
    exact TreeAt.set (by simp only [List.length_set]; omega) (TreeAt.set (by simp only [List.length_set]; omega) (TreeAt.set (by simp only [List.length_set]; omega) (TreeAt.set (by omega) hT)))
  · refine ⟨rfl, rfl, rfl, by simp, fun k hk hne => ?_⟩
    have hne' : k ≠ b := fun e => hne (by rw [e])
    rw [heap_setCell_other _ _ _ _ hne', heap_setCell_other _ _ _ _ hne', heap_setCell_other _ _ _ _ hne', heap_setCell_other _ _ _ _ hne']
set_option maxHeartbeats 1000000 in
theorem remove_nat {x : Ext} (t : Tr) (b m : Nat) (w : World) (ht : TrOk t) (hm : m ≤ 99) (hT : TreeAt x w b t) (hh : (t m).isSome = true) :
    Calls Tryz.prog 146 #[.pointer (some ⟨b, 0, none⟩), .int .i64 m] w fun e w' => e = .returned (.tuple #[]) ∧ TreeAt x w' b (trRemove t m) ∧ w.grownBy w' (some b) := by
  have HH := hide (has_nat t b m w ht hm hT)
  rw [hh] at HH
  have c0 : w.cell? ⟨b, m, none⟩ = some (.bool (t m).isSome) := hT.here m (by omega)
  have c1 := hT.id m (by omega)
  have c2 := hT.parent m (by omega)
  have c3 := hT.name m (by omega)
  have f0 : ∀ j, w.frozen? ⟨b, j, none⟩ = false := hT.free
  have hm0 : (0 : Int) ≤ m := by omega
  have HT := hide hT
  clear hT ht hh
  go_enter Tryz.func146, Tryz.ntmps146
  go_wp2_with fail
  refine (unhide HH).mono ?_
  rintro e w1 ⟨rfl, rfl⟩
  go_wp2
  go_end0
  exact ⟨rfl, remove_world hm (unhide HT)⟩
end Go.Proofs.YtdcjimlhaklhfabGreatDoor

namespace Go.Proofs.YtdcjimlhaklhfabGreatDoor
open Go.RowKit
theorem trW_far {t : Tr} (ht : TrW t) {m : Nat} (h : 99 < m) : t m = none := by
  cases hm : t m with
  | none => rfl
  | some n => have := (ht.2 m n hm).2.2.1; omega
set_option maxHeartbeats 400000 in
theorem has_w {x : Ext} (t : Tr) (b m : Nat) (w : World) (ht : TrW t) (hm : m ≤ 1000) (hT : TreeAt x w b t) :
    Calls Tryz.prog 97 #[.pointer (some ⟨b, 0, none⟩), .int .i64 m] w fun e w' => e = .returned (.bool (t m).isSome) ∧ w' = w := by
  have HT0 := hide ht.1
  by_cases h1 : 1 ≤ m
  · by_cases h2 : m ≤ 99
    · have hcell := hT.here m (by omega)
      clear hT ht
      go_enter Tryz.func97, Tryz.ntmps97
      go_wp2
      go_ret
      exact ⟨rfl, rfl⟩
    · have HF := hide (trW_far ht (show 99 < m by omega))
      clear hT ht
      go_enter Tryz.func97, Tryz.ntmps97
      go_wp2
      go_ret
      exact ⟨by rw [unhide HF]; rfl, rfl⟩
  · have hm0 : m = 0 := by omega
    subst hm0
    clear hT ht
    go_enter Tryz.func97, Tryz.ntmps97
    go_wp2
    go_ret
    exact ⟨by rw [unhide HT0]; rfl, rfl⟩
set_option maxHeartbeats 1000000 in
theorem meets_w {x : Ext} (t : Tr) (b : Nat) (id goal : Int) (w : World) (ht : TrW t) (h0 : 0 ≤ id) (h1 : id ≤ 100) (hT : TreeAt x w b t) :
    Calls Tryz.prog 61 #[.pointer (some ⟨b, 0, none⟩), .int .i64 id, .int .i64 goal] w fun e w' => e = .returned (.bool (meetsT t id goal)) ∧ w' = w := by
  have HO := hide ht
  have HT := hide hT
  clear ht hT
  have HM : Hid (meetsT t id goal = meetsF t 100 id goal) := hide rfl
  generalize meetsT t id goal = M at *
  go_enter Tryz.func61, Tryz.ntmps61
  go_wp2
  go_loop [7, 8] (fun d i => ∃ k : Nat, ∃ m : Int, k ≤ 100 ∧ i = .int .i64 k ∧ d = .int .i64 m ∧ 0 ≤ m ∧ m ≤ 100 ∧ Hid (M = meetsF t (100 - k) m goal)) (fun _ i => 101 - (intOf i).toNat)
  case atStart => exact ⟨0, id, by omega, rfl, rfl, h0, h1, HM⟩
  case round =>
    obtain ⟨k, m, hk, rfl, rfl, hm0, hm1, HI⟩ := hrel
    by_cases hlt : k ≤ 99
    · have hf : 100 - k = (99 - k) + 1 := by omega
      have HI2 : Hid (M = meetsF t ((99 - k) + 1) m goal) := by apply hide; rw [← hf]; exact unhide HI
      clear hf HI HM
      by_cases hg : m = goal
      · subst hg
        have hM := unhide HI2
        rw [meetsF_hit] at hM
        have HMt := hide hM; clear hM
        go_wp2
        go_ret
        exact ⟨ret_bool (unhide HMt).symm, rfl⟩
      · have hg' : (m == goal) = false := by simpa using hg
        obtain ⟨mn, rfl⟩ := Int.eq_ofNat_of_zero_le hm0
        have HH := hide (has_w t b mn w (unhide HO) (by omega) (unhide HT))
        cases hn : t mn with
        | none =>
          have HMf := hide ((unhide HI2).trans (meetsF_none hg (by simpa using hn)))
          rw [hn] at HH
          clear hn
          go_wp2_with (go_at_call 97; refine (unhide HH).mono ?_; rintro e w' ⟨rfl, rfl⟩)
          go_ret
          exact ⟨ret_bool (unhide HMf).symm, rfl⟩
        | some n =>
          have HMf := hide ((unhide HI2).trans (meetsF_some hg (by simpa using hn)))
          have hb := (unhide HO).2 mn n hn
          have hmn := hb.2.2.1
          have hcell := (unhide HT).cell (100 + mn * 3 + 1)
          rw [(treeCells_node t mn (by omega)).2.1, hn] at hcell
          rw [hn] at HH
          have hp0 : 0 ≤ n.parent := hb.2.2.2.2.2.1
          have hp1 : n.parent ≤ 100 := hb.2.2.2.2.2.2.1
          have hmi : (mn : Int) < 100 := by omega
          clear hn hb
          go_wp2_with (go_at_call 97; refine (unhide HH).mono ?_; rintro e w' ⟨rfl, rfl⟩)
          go_round
          case rel => exact ⟨k + 1, n.parent, by omega, by go_num, rfl, hp0, hp1, by apply hide; rw [show 100 - (k + 1) = 99 - k by omega]; exact unhide HMf⟩
          case measure => simp [intOf]; omega
    · have HMf : Hid (M = false) := by apply hide; rw [unhide HI, show 100 - k = 0 by omega]; rfl
      go_wp2
      go_ret
      exact ⟨ret_bool (unhide HMf).symm, rfl⟩
theorem placeS_no {t : Tr} {x : Lo} (h : meetsT t x.node.parent x.node.id = true) : placeS t x = t := by unfold placeS; rw [if_pos h]
theorem placeS_yes {t : Tr} {x : Lo} (h : meetsT t x.node.parent x.node.id = false) : placeS t x = trPut t x.node := by unfold placeS; rw [if_neg (by rw [h]; simp)]
set_option maxHeartbeats 2000000 in
theorem places_any (L : List Lo) (b o : Nat) (ao : Option Addr) (cap : Nat) (w : World) (hlog : w.cell? ⟨b, o, none⟩ = some (.slice ao L.length cap)) (hb : b < w.heap.size) (hrow : Row w ao L.length 5 (loCells L)) (hx : ∀ x ∈ L, LoOk x) (hl : L.length ≤ 4000) :
    Calls Tryz.prog 60 #[.pointer (some ⟨b, o, none⟩)] w fun e w' => e = .returned (.agg (treeCells (places L)).toArray) ∧ Below w.heap.size w w' := by
  have HROW := hide hrow; clear hrow
  have HX := hide hx; clear hx
  have HZ := hide zeroTree
  go_enter Tryz.func60, Tryz.ntmps60
  go_wp2
  go_loopw [11] (fun i wr => ∃ k : Nat, k ≤ L.length ∧ i = .int .i64 k ∧ Below w.heap.size w wr ∧ Hid (TreeAt ext0 wr (w.heap.size + 1) (places (L.take k))) ∧ Hid (TreeAt ext0 wr w.heap.size tr0)) (fun i _ => L.length - (intOf i).toNat)
  case atStart =>
    refine ⟨0, Nat.zero_le _, rfl, ((Below.refl _ _).alloc (Nat.le_refl _) _).alloc (by simp) _, ?_, ?_⟩
    · apply hide; rw [show places (List.take 0 L) = tr0 by simp [places]]; unfold TreeAt ext0; rw [unhide HZ]; simpa using heap_alloc_new (w.alloc (.cells (treeCells tr0).toArray 78)) (.cells (treeCells tr0).toArray 78)
    · apply hide; unfold TreeAt ext0; rw [unhide HZ, Below.heap_alloc _ _ _ (by simp)]; simpa using heap_alloc_new w (.cells (treeCells tr0).toArray 78)
  case round =>
    obtain ⟨k, hk, rfl, hbel, HT1, HT0⟩ := hrel
    have HOK : Hid (TrW (places (L.take k))) := hide (places_ok (fun x h => unhide HX x (List.mem_of_mem_take h)))
    by_cases hlt : k < L.length
    · obtain ⟨g, hao, hg, c0, c1, c2, c3, c4⟩ := lo_cells (unhide HROW) hbel (Nat.le_refl _) hlt
      rw [hao]
      have hxk := unhide HX _ (List.getElem_mem hlt)
      have HS := hide (places_snoc L k hlt)
      have hsz := hbel.size
      clear hao
      generalize L[k] = x at *
      have hwx := hxk.2.2.2.2
      have hw1 := hwx.1
      have hw2 := hwx.2.1
      have hw3 := hwx.2.2.1
      have hw4 := hwx.2.2.2.1
      clear hwx hxk
      have hB1 : Below wr.heap.size wr (wr.alloc (.cells #[.int .i64 x.count, .int .i64 x.site, .int .i64 x.node.id, .int .i64 x.node.parent, .string (bs x.node.name)] 113)) := (Below.refl _ _).alloc (Nat.le_refl _) _
      have HT1b := hide ((unhide HT1).below hB1)
      have HT0b := hide ((unhide HT0).below hB1)
      have HB1 := hide (hbel.trans (hB1.mono hsz))
      clear hB1
      have HME := hide (meets_w _ _ x.node.parent x.node.id _ (unhide HOK) hw3 hw4 (unhide HT1b))
      generalize hmq : meetsT (places (L.take k)) x.node.parent x.node.id = q at *
      have HMQ := hide hmq; clear hmq
      cases q with
      | true =>
        have HS2 := hide ((unhide HS).trans (placeS_no (unhide HMQ)))
        go_wp2_with (go_at_call 61; refine (unhide HME).mono ?_; rintro e w' ⟨rfl, rfl⟩)
        go_roundw
        case rel => exact ⟨k + 1, by omega, by go_num, unhide HB1, by rw [unhide HS2]; exact HT1b, HT0b⟩
        case measure => simp [intOf]; omega
      | false =>
        have HS2 := hide ((unhide HS).trans (placeS_yes (unhide HMQ)))
        go_wp2_with (first | (go_at_call 61; refine (unhide HME).mono ?_; rintro e w' ⟨rfl, rfl⟩) | fail)
        refine (put_any _ _ x.node _ hw1 hw2 (unhide HT1b)).mono ?_
        rintro e w2 ⟨rfl, hT2, hg2⟩
        have HT2 : Hid (TreeAt ext0 w2 (w.heap.size + 1) (places (L.take (k + 1)))) := by apply hide; rw [unhide HS2]; exact hT2
        have HT02 : Hid (TreeAt ext0 w2 w.heap.size tr0) := hide (treeAt_grown (unhide HT0b) hg2 (by omega))
        have hb2 : Below w.heap.size w w2 := (unhide HB1).grown hg2 (by simp; omega) (fun k hk => by cases hk; omega)
        clear hT2 hg2 c0 c1 c2 c3 c4 hbel
        go_wp2
        go_roundw
        case rel => exact ⟨k + 1, by omega, by go_num, hb2, HT2, HT02⟩
        case measure => simp [intOf]; omega
    · have HE : Hid (places L = places (L.take k)) := by apply hide; rw [List.take_of_length_le (by omega)]
      generalize places (L.take k) = T at *
      have hRange : wr.rangeAt (w.heap.size + 1) 0 (treeCells T) := treeAt_range (unhide HT1)
      have hThere : wr.there w.heap.size 0 (treeCells T).toArray.size := treeAt_there (unhide HT0) T
      have HR := hide hRange; clear hRange
      have HTH := hide hThere; clear hThere
      go_wp2_with (first
        | (refine wpList_load_mid (by rfl) 78 (.tmp 3) (by rfl) (w.heap.size + 1) 0 (by rfl) (treeCells T) _ (unhide HR) Tryz.underlying78 (by rfl) (treeSize T) ?_)
        | (refine wpList_store_mid (by rfl) 78 (.tmp 2) (.tmp 27) (by rfl) w.heap.size 0 (treeCells T).toArray (by rfl) (by rfl) (unhide HTH) (treeSize' T) (treeOne T) ?_))
      have hr := World.rangeAt_setCells_same wr w.heap.size 0 (treeCells T) (by have := unhide HTH; rwa [List.size_toArray] at this)
      refine bodyPost_ret (v := .agg (treeCells T).toArray) (by simp [results, Tryz.results60, Act.put, asAddr, run_loadVar_mid _ _ _ _ _ _ hr Tryz.underlying78 rfl (treeSize T)]) rfl ⟨by rw [unhide HE], ?_⟩
      exact below_setCells hbel (Nat.le_refl _) hbel.size _ _
end Go.Proofs.YtdcjimlhaklhfabGreatDoor

namespace Go.Proofs.YtdcjimlhaklhfabGreatDoor
open Go.RowKit
theorem grown_refl (w : World) (r : Option Nat) : w.grownBy w r := ⟨rfl, rfl, rfl, Nat.le_refl _, fun _ _ _ => rfl⟩
theorem grown_trans {a b c : World} {r : Option Nat} (h : a.grownBy b r) (k : b.grownBy c r) : a.grownBy c r :=
  ⟨k.os.trans h.os, k.tape.trans h.tape, k.output.trans h.output, Nat.le_trans h.size k.size, fun i hi hne => (k.block i (Nat.lt_of_lt_of_le hi h.size) hne).trans (h.block i hi hne)⟩
theorem grown_of_below {w w' : World} (h : Below w.heap.size w w') (r : Option Nat) : w.grownBy w' r := ⟨h.os, h.tape, h.output, h.size, fun k hk _ => h.block k hk⟩
theorem row_grown {w w' : World} {ao : Option Addr} {n size : Nat} {xs : List Value} {b : Nat} (h : Row w ao n size xs) (hg : w.grownBy w' (some b)) (hne : ∀ g, ao = some ⟨g, 0, none⟩ → g ≠ b) : Row w' ao n size xs := by
  refine ⟨h.1, fun hn => ?_⟩
  obtain ⟨g, h1, h2, h3⟩ := h.2 hn
  refine ⟨g, h1, by have := hg.size; omega, fun j u hu => ?_⟩
  rw [World.cell?_of_block (a := ⟨g, j, none⟩) (hg.block g h2 (fun e => hne g h1 (by cases e; rfl)))]
  exact h3 j u hu
/-- Create. -/
theorem createE_1 {t : Tr} {n : Nd} (h : hasT t n.id = true) : createE t n = 8 := by unfold createE; rw [h]; rfl
theorem createE_2 {t : Tr} {n : Nd} (h : hasT t n.id = false) (h2 : isParentT t n.parent = false) : createE t n = 4 := by unfold createE; rw [h, h2]; rfl
theorem createE_3 {t : Tr} {n : Nd} (h : hasT t n.id = false) (h2 : isParentT t n.parent = true) (h3 : (atT t n.parent n.name != 0) = true) : createE t n = 6 := by unfold createE; rw [h, h2, h3]; rfl
theorem createE_4 {t : Tr} {n : Nd} (h : hasT t n.id = false) (h2 : isParentT t n.parent = true) (h3 : (atT t n.parent n.name != 0) = false) : createE t n = 0 := by unfold createE; rw [h, h2, h3]; rfl
set_option maxHeartbeats 1000000 in
theorem create_any {x : Ext} (t : Tr) (b : Nat) (n : Nd) (w : World) (ht : TrOk t) (hT : TreeAt x w b t) (hn : 1 ≤ n.id ∧ n.id ≤ 99 ∧ 0 ≤ n.parent ∧ n.parent ≤ 99) :
    Calls Tryz.prog 129 #[.pointer (some ⟨b, 0, none⟩), .agg #[.int .i64 n.id, .int .i64 n.parent, .string (bs n.name)]] w fun e w' => e = .returned (.int .i64 (createE t n)) ∧ TreeAt x w' b (if createE t n = 0 then trPut t n else t) ∧ w.grownBy w' (some b) := by
  have hb1 := (Below.refl w.heap.size w).alloc (Nat.le_refl _) (.cells #[.int .i64 n.id, .int .i64 n.parent, .string (bs n.name)] 75)
  have hT1 := hT.below hb1
  have HHAS := hide (has_any t b n.id _ ht (by omega) hn.2.1 hT1)
  have HPAR := hide (isParent_any t b n.parent _ ht hn.2.2.1 hn.2.2.2 hT1)
  have HAT := hide (at_any t b n.parent n.name _ hT1)
  have HPUT := hide (put_any t b n _ hn.1 hn.2.1 hT1)
  have HG := hide (grown_of_below hb1 (some b))
  have HT1 := hide hT1
  clear hb1 hT1 hT ht
  cases h1 : hasT t n.id
  · cases h2 : isParentT t n.parent
    · rw [createE_2 h1 h2, if_neg (by omega)]
      rw [h1] at HHAS
      rw [h2] at HPAR
      go_enter Tryz.func129, Tryz.ntmps129
      go_wp2_with fail
      refine (unhide HHAS).mono ?_
      rintro e w1 ⟨rfl, rfl⟩
      go_wp2_with fail
      refine (unhide HPAR).mono ?_
      rintro e w1 ⟨rfl, rfl⟩
      go_wp2
      go_ret
      exact ⟨rfl, unhide HT1, unhide HG⟩
    · cases h3 : (atT t n.parent n.name != 0)
      · rw [createE_4 h1 h2 h3, if_pos rfl]
        rw [h1] at HHAS
        rw [h2] at HPAR
        generalize atT t n.parent n.name = q at *
        go_enter Tryz.func129, Tryz.ntmps129
        go_wp2_with fail
        refine (unhide HHAS).mono ?_
        rintro e w1 ⟨rfl, rfl⟩
        go_wp2_with fail
        refine (unhide HPAR).mono ?_
        rintro e w1 ⟨rfl, rfl⟩
        go_wp2_with fail
        refine (unhide HAT).mono ?_
        rintro e w1 ⟨rfl, rfl⟩
        go_wp2_with fail
        refine (unhide HPUT).mono ?_
        rintro e w1 ⟨rfl, hT2, hg2⟩
        go_wp2
        go_ret
        exact ⟨rfl, hT2, grown_trans (unhide HG) hg2⟩
      · rw [createE_3 h1 h2 h3, if_neg (by omega)]
        rw [h1] at HHAS
        rw [h2] at HPAR
        generalize atT t n.parent n.name = q at *
        go_enter Tryz.func129, Tryz.ntmps129
        go_wp2_with fail
        refine (unhide HHAS).mono ?_
        rintro e w1 ⟨rfl, rfl⟩
        go_wp2_with fail
        refine (unhide HPAR).mono ?_
        rintro e w1 ⟨rfl, rfl⟩
        go_wp2_with fail
        refine (unhide HAT).mono ?_
        rintro e w1 ⟨rfl, rfl⟩
        go_wp2
        go_ret
        exact ⟨rfl, unhide HT1, unhide HG⟩
  · rw [createE_1 h1, if_neg (by omega)]
    rw [h1] at HHAS
    go_enter Tryz.func129, Tryz.ntmps129
    go_wp2_with fail
    refine (unhide HHAS).mono ?_
    rintro e w1 ⟨rfl, rfl⟩
    go_wp2
    go_ret
    exact ⟨rfl, unhide HT1, unhide HG⟩
theorem moveE_1 {t : Tr} {n : Nd} (h : hasT t n.id = false) : moveE t n = 9 := by unfold moveE; rw [h]; rfl
theorem moveE_2 {t : Tr} {n : Nd} (h : hasT t n.id = true) (h2 : isParentT t n.parent = false) : moveE t n = 4 := by unfold moveE; rw [h, h2]; rfl
theorem moveE_3 {t : Tr} {n : Nd} (h : hasT t n.id = true) (h2 : isParentT t n.parent = true) (h3 : meetsT t n.parent n.id = true) : moveE t n = 5 := by unfold moveE; rw [h, h2, h3]; rfl
theorem moveE_4 {t : Tr} {n : Nd} (h : hasT t n.id = true) (h2 : isParentT t n.parent = true) (h3 : meetsT t n.parent n.id = false) (h4 : (atT t n.parent n.name != 0) = true) (h5 : (atT t n.parent n.name != n.id) = true) : moveE t n = 6 := by unfold moveE; rw [h, h2, h3, h4, h5]; rfl
theorem moveE_5 {t : Tr} {n : Nd} (h : hasT t n.id = true) (h2 : isParentT t n.parent = true) (h3 : meetsT t n.parent n.id = false) (h4 : (atT t n.parent n.name != 0) = true) (h5 : (atT t n.parent n.name != n.id) = false) : moveE t n = 0 := by unfold moveE; rw [h, h2, h3, h4, h5]; rfl
theorem moveE_6 {t : Tr} {n : Nd} (h : hasT t n.id = true) (h2 : isParentT t n.parent = true) (h3 : meetsT t n.parent n.id = false) (h4 : (atT t n.parent n.name != 0) = false) : moveE t n = 0 := by unfold moveE; rw [h, h2, h3, h4]; rfl
set_option maxHeartbeats 2000000 in
theorem move_any {x : Ext} (t : Tr) (b : Nat) (n : Nd) (w : World) (ht : TrOk t) (hT : TreeAt x w b t) (hn : 1 ≤ n.id ∧ n.id ≤ 99 ∧ 0 ≤ n.parent ∧ n.parent ≤ 99) :
    Calls Tryz.prog 130 #[.pointer (some ⟨b, 0, none⟩), .agg #[.int .i64 n.id, .int .i64 n.parent, .string (bs n.name)]] w fun e w' => e = .returned (.int .i64 (moveE t n)) ∧ TreeAt x w' b (if moveE t n = 0 then trPut t n else t) ∧ w.grownBy w' (some b) := by
  have hb1 := (Below.refl w.heap.size w).alloc (Nat.le_refl _) (.cells #[.int .i64 n.id, .int .i64 n.parent, .string (bs n.name)] 75)
  have hT1 := hT.below hb1
  have HHAS := hide (has_any t b n.id _ ht (by omega) hn.2.1 hT1)
  have HPAR := hide (isParent_any t b n.parent _ ht hn.2.2.1 hn.2.2.2 hT1)
  have HME := hide (meets_any t b n.parent n.id _ ht hn.2.2.1 hn.2.2.2 hT1)
  have HAT := hide (at_any t b n.parent n.name _ hT1)
  have HPUT := hide (put_any t b n _ hn.1 hn.2.1 hT1)
  have HG := hide (grown_of_below hb1 (some b))
  have HT1 := hide hT1
  clear hb1 hT1 hT ht
  cases h1 : hasT t n.id
  · rw [moveE_1 h1, if_neg (by omega)]
    rw [h1] at HHAS
    go_enter Tryz.func130, Tryz.ntmps130
    go_wp2_with fail
    refine (unhide HHAS).mono ?_
    rintro e w1 ⟨rfl, rfl⟩
    go_wp2
    go_ret
    exact ⟨rfl, unhide HT1, unhide HG⟩
  · cases h2 : isParentT t n.parent
    · rw [moveE_2 h1 h2, if_neg (by omega)]
      rw [h1] at HHAS
      rw [h2] at HPAR
      go_enter Tryz.func130, Tryz.ntmps130
      go_wp2_with fail
      refine (unhide HHAS).mono ?_
      rintro e w1 ⟨rfl, rfl⟩
      go_wp2_with fail
      refine (unhide HPAR).mono ?_
      rintro e w1 ⟨rfl, rfl⟩
      go_wp2
      go_ret
      exact ⟨rfl, unhide HT1, unhide HG⟩
    · cases h3 : meetsT t n.parent n.id
      · cases h4 : (atT t n.parent n.name != 0)
        · rw [moveE_6 h1 h2 h3 h4, if_pos rfl]
          rw [h1] at HHAS
          rw [h2] at HPAR
          rw [h3] at HME
          generalize atT t n.parent n.name = q at *
          go_enter Tryz.func130, Tryz.ntmps130
          go_wp2_with fail
          refine (unhide HHAS).mono ?_
          rintro e w1 ⟨rfl, rfl⟩
          go_wp2_with fail
          refine (unhide HPAR).mono ?_
          rintro e w1 ⟨rfl, rfl⟩
          go_wp2_with fail
          refine (unhide HME).mono ?_
          rintro e w1 ⟨rfl, rfl⟩
          go_wp2_with fail
          refine (unhide HAT).mono ?_
          rintro e w1 ⟨rfl, rfl⟩
          go_wp2_with fail
          refine (unhide HPUT).mono ?_
          rintro e w1 ⟨rfl, hT2, hg2⟩
          go_wp2
          go_ret
          exact ⟨rfl, hT2, grown_trans (unhide HG) hg2⟩
        · cases h5 : (atT t n.parent n.name != n.id)
          · rw [moveE_5 h1 h2 h3 h4 h5, if_pos rfl]
            rw [h1] at HHAS
            rw [h2] at HPAR
            rw [h3] at HME
            generalize atT t n.parent n.name = q at *
            go_enter Tryz.func130, Tryz.ntmps130
            go_wp2_with fail
            refine (unhide HHAS).mono ?_
            rintro e w1 ⟨rfl, rfl⟩
            go_wp2_with fail
            refine (unhide HPAR).mono ?_
            rintro e w1 ⟨rfl, rfl⟩
            go_wp2_with fail
            refine (unhide HME).mono ?_
            rintro e w1 ⟨rfl, rfl⟩
            go_wp2_with fail
            refine (unhide HAT).mono ?_
            rintro e w1 ⟨rfl, rfl⟩
            go_wp2_with fail
            refine (unhide HPUT).mono ?_
            rintro e w1 ⟨rfl, hT2, hg2⟩
            go_wp2
            go_ret
            exact ⟨rfl, hT2, grown_trans (unhide HG) hg2⟩
          · rw [moveE_4 h1 h2 h3 h4 h5, if_neg (by omega)]
            rw [h1] at HHAS
            rw [h2] at HPAR
            rw [h3] at HME
            generalize atT t n.parent n.name = q at *
            go_enter Tryz.func130, Tryz.ntmps130
            go_wp2_with fail
            refine (unhide HHAS).mono ?_
            rintro e w1 ⟨rfl, rfl⟩
            go_wp2_with fail
            refine (unhide HPAR).mono ?_
            rintro e w1 ⟨rfl, rfl⟩
            go_wp2_with fail
            refine (unhide HME).mono ?_
            rintro e w1 ⟨rfl, rfl⟩
            go_wp2_with fail
            refine (unhide HAT).mono ?_
            rintro e w1 ⟨rfl, rfl⟩
            go_wp2
            go_ret
            exact ⟨rfl, unhide HT1, unhide HG⟩
      · rw [moveE_3 h1 h2 h3, if_neg (by omega)]
        rw [h1] at HHAS
        rw [h2] at HPAR
        rw [h3] at HME
        go_enter Tryz.func130, Tryz.ntmps130
        go_wp2_with fail
        refine (unhide HHAS).mono ?_
        rintro e w1 ⟨rfl, rfl⟩
        go_wp2_with fail
        refine (unhide HPAR).mono ?_
        rintro e w1 ⟨rfl, rfl⟩
        go_wp2_with fail
        refine (unhide HME).mono ?_
        rintro e w1 ⟨rfl, rfl⟩
        go_wp2
        go_ret
        exact ⟨rfl, unhide HT1, unhide HG⟩
theorem deleteE_1 {t : Tr} {id : Int} (h : hasT t id = false) : deleteE t id = 9 := by unfold deleteE; rw [h]; rfl
theorem deleteE_2 {t : Tr} {id : Int} (h : hasT t id = true) (h2 : kidsT t id = true) : deleteE t id = 10 := by unfold deleteE; rw [h, h2]; rfl
theorem deleteE_3 {t : Tr} {id : Int} (h : hasT t id = true) (h2 : kidsT t id = false) : deleteE t id = 0 := by unfold deleteE; rw [h, h2]; rfl
set_option maxHeartbeats 1000000 in
theorem delete_nat {x : Ext} (t : Tr) (b m : Nat) (w : World) (ht : TrOk t) (hT : TreeAt x w b t) (hm : m ≤ 99) :
    Calls Tryz.prog 131 #[.pointer (some ⟨b, 0, none⟩), .int .i64 m] w fun e w' => e = .returned (.int .i64 (deleteE t m)) ∧ TreeAt x w' b (if deleteE t m = 0 then trRemove t m else t) ∧ w.grownBy w' (some b) := by
  have HHAS := hide (has_any t b m w ht (by omega) (by omega) hT)
  have HKID := hide (kid_any t b m w hT)
  have hkk := kids_kid t m
  generalize kidT t m = kd at *
  have HT1 := hide hT
  have HG := hide (grown_refl w (some b))
  cases h1 : hasT t m
  · rw [deleteE_1 h1, if_neg (by omega)]
    rw [h1] at HHAS
    go_enter Tryz.func131, Tryz.ntmps131
    go_wp2_with fail
    refine (unhide HHAS).mono ?_
    rintro e w1 ⟨rfl, rfl⟩
    go_wp2
    go_ret
    exact ⟨rfl, unhide HT1, unhide HG⟩
  · have HREM := hide (remove_nat t b m w ht hm hT (by simpa [hasT] using h1))
    cases h2 : kidsT t m
    · rw [deleteE_3 h1 h2, if_pos rfl]
      rw [h1] at HHAS
      rw [h2] at hkk
      have hkk2 := hkk.symm
      clear hkk
      go_enter Tryz.func131, Tryz.ntmps131
      go_wp2_with fail
      refine (unhide HHAS).mono ?_
      rintro e w1 ⟨rfl, rfl⟩
      go_wp2_with fail
      refine (unhide HKID).mono ?_
      rintro e w1 ⟨rfl, rfl⟩
      go_wp2_with fail
      refine (unhide HREM).mono ?_
      rintro e w1 ⟨rfl, hT2, hg2⟩
      go_wp2
      go_ret
      exact ⟨rfl, hT2, hg2⟩
    · rw [deleteE_2 h1 h2, if_neg (by omega)]
      rw [h1] at HHAS
      rw [h2] at hkk
      have hkk2 := hkk.symm
      clear hkk
      go_enter Tryz.func131, Tryz.ntmps131
      go_wp2_with fail
      refine (unhide HHAS).mono ?_
      rintro e w1 ⟨rfl, rfl⟩
      go_wp2_with fail
      refine (unhide HKID).mono ?_
      rintro e w1 ⟨rfl, rfl⟩
      go_wp2
      go_ret
      exact ⟨rfl, unhide HT1, unhide HG⟩
theorem delete_any {x : Ext} (t : Tr) (b : Nat) (id : Int) (w : World) (ht : TrOk t) (hT : TreeAt x w b t) (h0 : 0 ≤ id) (h1 : id ≤ 99) :
    Calls Tryz.prog 131 #[.pointer (some ⟨b, 0, none⟩), .int .i64 id] w fun e w' => e = .returned (.int .i64 (deleteE t id)) ∧ TreeAt x w' b (if deleteE t id = 0 then trRemove t id else t) ∧ w.grownBy w' (some b) := by
  obtain ⟨m, rfl⟩ := Int.eq_ofNat_of_zero_le h0
  exact delete_nat t b m w ht hT (by omega)
end Go.Proofs.YtdcjimlhaklhfabGreatDoor

namespace Go.Proofs.YtdcjimlhaklhfabGreatDoor
open Go.RowKit
def stC (s : St) : List Value := [.int .u8 s.kind.toNat, .int .i64 s.node.id, .int .i64 s.node.parent, .string (bs s.node.name)]
def stCells (l : List St) : List Value := l.flatMap stC
theorem stCells_length (l : List St) : (stCells l).length = l.length * 4 := by
  induction l with
  | nil => rfl
  | cons n l ih => simp only [stCells, List.flatMap_cons, List.length_append] at ih ⊢; simp [stC] at ih ⊢; omega
theorem stCells_snoc (l : List St) (n : St) : stCells (l ++ [n]) = stCells l ++ stC n := by simp [stCells]
theorem stCells_get (l : List St) (k : Nat) (h : k < l.length) :
    (stCells l)[k * 4]? = some (.int .u8 (l[k]).kind.toNat) ∧ (stCells l)[k * 4 + 1]? = some (.int .i64 (l[k]).node.id) ∧ (stCells l)[k * 4 + 2]? = some (.int .i64 (l[k]).node.parent) ∧ (stCells l)[k * 4 + 3]? = some (.string (bs (l[k]).node.name)) := by
  induction l generalizing k with
  | nil => simp at h
  | cons n l ih =>
    cases k with
    | zero => simp [stCells, stC]
    | succ k =>
      have := ih k (by simpa using h)
      have e : stCells (n :: l) = stC n ++ stCells l := rfl
      rw [e, show (k + 1) * 4 = 4 + k * 4 by omega]
      have hl : (stC n).length = 4 := rfl
      refine ⟨?_, ?_, ?_, ?_⟩
      · rw [List.getElem?_append_right (by rw [hl]; omega), hl]; simpa using this.1
      · rw [List.getElem?_append_right (by rw [hl]; omega), hl, show 4 + k * 4 + 1 - 4 = k * 4 + 1 by omega]; simpa using this.2.1
      · rw [List.getElem?_append_right (by rw [hl]; omega), hl, show 4 + k * 4 + 2 - 4 = k * 4 + 2 by omega]; simpa using this.2.2.1
      · rw [List.getElem?_append_right (by rw [hl]; omega), hl, show 4 + k * 4 + 3 - 4 = k * 4 + 3 by omega]; simpa using this.2.2.2
theorem st_cells {wr : World} {ao : Option Addr} {ss : List St} (hrow : Row wr ao ss.length 4 (stCells ss)) {k : Nat} (hk : k < ss.length) :
    ∃ g, ao = some ⟨g, 0, none⟩ ∧ g < wr.heap.size ∧ wr.cell? ⟨g, k * 4, none⟩ = some (.int .u8 (ss[k]).kind.toNat) ∧ wr.cell? ⟨g, k * 4 + 1, none⟩ = some (.int .i64 (ss[k]).node.id) ∧ wr.cell? ⟨g, k * 4 + 2, none⟩ = some (.int .i64 (ss[k]).node.parent) ∧ wr.cell? ⟨g, k * 4 + 3, none⟩ = some (.string (bs (ss[k]).node.name)) := by
  obtain ⟨g, h1, h2, h3⟩ := hrow.2 (by omega)
  have := stCells_get ss k hk
  exact ⟨g, h1, h2, h3 _ _ this.1, h3 _ _ this.2.1, h3 _ _ this.2.2.1, h3 _ _ this.2.2.2⟩
set_option maxHeartbeats 1000000 in
theorem do_any {x : Ext} (t : Tr) (b : Nat) (s : St) (w : World) (ht : TrOk t) (hT : TreeAt x w b t) (hs : StOk s) :
    Calls Tryz.prog 102 #[.agg #[.int .u8 s.kind.toNat, .int .i64 s.node.id, .int .i64 s.node.parent, .string (bs s.node.name)], .pointer (some ⟨b, 0, none⟩)] w fun e w' => e = .returned (.int .i64 (stepE t s)) ∧ TreeAt x w' b (stepT t s) ∧ w.grownBy w' (some b) := by
  have hb1 := (Below.refl w.heap.size w).alloc (Nat.le_refl _) (.cells #[.int .u8 s.kind.toNat, .int .i64 s.node.id, .int .i64 s.node.parent, .string (bs s.node.name)] 169)
  have hT1 := hT.below hb1
  have HG := hide (grown_of_below hb1 (some b))
  obtain ⟨kind, n⟩ := s
  rcases hs with ⟨h1 | h1, h2⟩ | ⟨h1, h2⟩
  · simp only at h1 h2 hT1 HG ⊢
    subst h1
    have HC := hide (create_any t b n _ ht hT1 ⟨h2.1, h2.2.1, h2.2.2.1, h2.2.2.2.1⟩)
    have e1 : stepE t ⟨43, n⟩ = createE t n := by unfold stepE; rw [if_pos rfl]
    have e2 : stepT t ⟨43, n⟩ = if createE t n = 0 then trPut t n else t := by unfold stepT; rw [e1]; show (if createE t n = 0 then (if (43 : UInt8) = 45 then trRemove t n.id else trPut t n) else t) = _; rw [if_neg (show ¬ ((43 : UInt8) = 45) by decide)]
    rw [e1, e2]
    clear hb1 hT1 hT ht e1 e2
    generalize (if createE t n = 0 then trPut t n else t) = T2 at *
    generalize createE t n = ee at *
    go_enter Tryz.func102, Tryz.ntmps102
    go_wp2_with fail
    refine (unhide HC).mono ?_
    rintro e w1 ⟨rfl, hT2, hg2⟩
    go_wp2
    go_ret
    exact ⟨rfl, hT2, grown_trans (unhide HG) hg2⟩
  · simp only at h1 h2 hT1 HG ⊢
    subst h1
    have HC := hide (move_any t b n _ ht hT1 ⟨h2.1, h2.2.1, h2.2.2.1, h2.2.2.2.1⟩)
    have e1 : stepE t ⟨61, n⟩ = moveE t n := by unfold stepE; rw [if_neg (by show ¬ ((61 : UInt8) = 43); decide), if_pos rfl]
    have e2 : stepT t ⟨61, n⟩ = if moveE t n = 0 then trPut t n else t := by unfold stepT; rw [e1]; show (if moveE t n = 0 then (if (61 : UInt8) = 45 then trRemove t n.id else trPut t n) else t) = _; rw [if_neg (show ¬ ((61 : UInt8) = 45) by decide)]
    rw [e1, e2]
    clear hb1 hT1 hT ht e1 e2
    generalize (if moveE t n = 0 then trPut t n else t) = T2 at *
    generalize moveE t n = ee at *
    go_enter Tryz.func102, Tryz.ntmps102
    go_wp2_with fail
    refine (unhide HC).mono ?_
    rintro e w1 ⟨rfl, hT2, hg2⟩
    go_wp2
    go_ret
    exact ⟨rfl, hT2, grown_trans (unhide HG) hg2⟩
  · simp only at h1 h2 hT1 HG ⊢
    subst h1
    have HC := hide (delete_any t b n.id _ ht hT1 (by omega) h2.2)
    have e1 : stepE t ⟨45, n⟩ = deleteE t n.id := by unfold stepE; rw [if_neg (by show ¬ ((45 : UInt8) = 43); decide), if_neg (by show ¬ ((45 : UInt8) = 61); decide), if_pos rfl]
    have e2 : stepT t ⟨45, n⟩ = if deleteE t n.id = 0 then trRemove t n.id else t := by unfold stepT; rw [e1, if_pos (show (⟨45, n⟩ : St).kind = 45 from rfl)]
    rw [e1, e2]
    clear hb1 hT1 hT ht e1 e2
    generalize (if deleteE t n.id = 0 then trRemove t n.id else t) = T2 at *
    generalize deleteE t n.id = ee at *
    go_enter Tryz.func102, Tryz.ntmps102
    go_wp2_with fail
    refine (unhide HC).mono ?_
    rintro e w1 ⟨rfl, hT2, hg2⟩
    go_wp2
    go_ret
    exact ⟨rfl, hT2, grown_trans (unhide HG) hg2⟩
theorem doAll_cons {ss : List St} {t' : Tr} {k : Nat} (hk : k < ss.length) (h : stepE t' ss[k] = 0) : doAllE (ss.drop k) t' k = doAllE (ss.drop (k + 1)) (stepT t' ss[k]) (k + 1) ∧ doAllT (ss.drop k) t' = doAllT (ss.drop (k + 1)) (stepT t' ss[k]) := by
  rw [List.drop_eq_getElem_cons hk, doAllE, doAllT, if_pos h, if_pos h]; exact ⟨rfl, rfl⟩
theorem doAll_stop {ss : List St} {t' : Tr} {k : Nat} (hk : k < ss.length) (h : ¬ stepE t' ss[k] = 0) : doAllE (ss.drop k) t' k = (stepE t' ss[k], k) ∧ doAllT (ss.drop k) t' = t' ∧ stepT t' ss[k] = t' := by
  refine ⟨?_, ?_, ?_⟩
  · rw [List.drop_eq_getElem_cons hk, doAllE, if_neg h]
  · rw [List.drop_eq_getElem_cons hk, doAllT, if_neg h]
  · unfold stepT; rw [if_neg h]
set_option maxHeartbeats 1000000 in
theorem doAll_any {x : Ext} (t : Tr) (b : Nat) (ss : List St) (ao : Option Addr) (cap : Nat) (w : World) (ht : TrOk t) (hT : TreeAt x w b t) (hrow : Row w ao ss.length 4 (stCells ss)) (hne : ∀ g, ao = some ⟨g, 0, none⟩ → g ≠ b) (hs : ∀ s ∈ ss, StOk s) (hl : ss.length ≤ 4000) :
    Calls Tryz.prog 66 #[.slice ao ss.length cap, .pointer (some ⟨b, 0, none⟩)] w fun e w' => e = .returned (.tuple #[.int .i64 (doAllE ss t 0).1, .int .i64 (doAllE ss t 0).2]) ∧ TreeAt x w' b (doAllT ss t) ∧ w.grownBy w' (some b) := by
  have HROW := hide hrow; clear hrow
  have HNE := hide hne; clear hne
  have HS := hide hs; clear hs
  have HT := hide hT; clear hT
  have HO := hide ht; clear ht
  have HI0 : Hid (doAllE ss t 0 = doAllE (ss.drop 0) t 0 ∧ doAllT ss t = doAllT (ss.drop 0) t) := hide ⟨rfl, rfl⟩
  generalize doAllE ss t 0 = E at *
  generalize doAllT ss t = T at *
  go_enter Tryz.func66, Tryz.ntmps66
  go_wp2
  go_loopw [11] (fun i wr => ∃ k : Nat, ∃ t' : Tr, k ≤ ss.length ∧ i = .int .i64 k ∧ Hid (TrOk t') ∧ Hid (TreeAt x wr b t') ∧ Hid (w.grownBy wr (some b)) ∧ Hid (E = doAllE (ss.drop k) t' k ∧ T = doAllT (ss.drop k) t')) (fun i _ => ss.length - (intOf i).toNat)
  case atStart => exact ⟨0, t, Nat.zero_le _, rfl, HO, HT, hide (grown_refl _ _), HI0⟩
  case round =>
    obtain ⟨k, t', hk, rfl, HO', HT', HG, HI⟩ := hrel
    by_cases hlt : k < ss.length
    · obtain ⟨g, hao, hg, c0, c1, c2, c3⟩ := st_cells (row_grown (unhide HROW) (unhide HG) (unhide HNE)) hlt
      rw [hao]
      have HSK := hide (unhide HS _ (List.getElem_mem hlt))
      have HB1 := hide ((Below.refl wr.heap.size wr).alloc (Nat.le_refl _) (.cells #[.int .u8 (ss[k]).kind.toNat, .int .i64 (ss[k]).node.id, .int .i64 (ss[k]).node.parent, .string (bs (ss[k]).node.name)] 169))
      have HD := hide (do_any t' b ss[k] _ (unhide HO') ((unhide HT').below (unhide HB1)) (unhide HSK))
      have HG1 := hide (grown_trans (unhide HG) (grown_of_below (unhide HB1) (some b)))
      clear hao
      by_cases hE : stepE t' ss[k] = 0
      · have HI2 := hide (doAll_cons hlt hE)
        have HOK := hide (stepT_ok (unhide HO') (unhide HSK))
        rw [hE] at HD
        clear hE
        generalize ss[k] = s at *
        go_wp2_with fail
        refine (unhide HD).mono ?_
        rintro e w2 ⟨rfl, hT2, hg2⟩
        have HT2 := hide hT2
        have HG2 := hide (grown_trans (unhide HG1) hg2)
        clear hT2 hg2 c0 c1 c2 c3
        go_wp2
        go_roundw
        case rel => exact ⟨k + 1, _, by omega, by go_num, HOK, HT2, HG2, hide ⟨(unhide HI).1.trans (unhide HI2).1, (unhide HI).2.trans (unhide HI2).2⟩⟩
        case measure => simp [intOf]; omega
      · have HI2 := hide (doAll_stop hlt hE)
        have hE' : (stepE t' ss[k] != 0) = true := by rw [bne_iff_ne]; exact hE
        clear hE
        rw [(unhide HI2).2.2] at HD
        generalize stepE t' ss[k] = ee at *
        generalize ss[k] = s at *
        go_wp2_with fail
        refine (unhide HD).mono ?_
        rintro e w2 ⟨rfl, hT2, hg2⟩
        have HT2 := hide hT2
        have HG2 := hide (grown_trans (unhide HG1) hg2)
        clear hT2 hg2 c0 c1 c2 c3
        go_wp2
        go_ret2
        rw [(unhide HI).1, (unhide HI).2, (unhide HI2).1, (unhide HI2).2.1]
        exact ⟨rfl, unhide HT2, unhide HG2⟩
    · have HE : Hid (E = (0, 0) ∧ T = t') := by
        apply hide; rw [(unhide HI).1, (unhide HI).2, List.drop_eq_nil_of_le (by omega)]; exact ⟨rfl, rfl⟩
      go_wp2
      go_ret2
      rw [(unhide HE).1, (unhide HE).2]
      exact ⟨rfl, unhide HT', unhide HG⟩
end Go.Proofs.YtdcjimlhaklhfabGreatDoor
