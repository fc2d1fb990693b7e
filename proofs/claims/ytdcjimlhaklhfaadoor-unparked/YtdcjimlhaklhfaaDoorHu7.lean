import Derived.Test.YtdcjimlhaklhfaaDoorHu5
import Derived.Test.YtdcjimlhaklhfaaDoorHu6
import Derived.Deep.RegionWith
import Derived.Test.YtdcjimlhaklhfaaDoorHu1
import Derived.Laws.StructEq
import Derived.BigQuiet
namespace Go.Proofs.YtdcjimlhaklhfaaDoor
open Go.RowKit
set_option maxHeartbeats 1000000 in
theorem homesCount_any (s t : ByteArray) (w : World) (hs : s.size ≤ 4000) (ht : t.size ≤ 4000) (h1 : ¬ (readNodes (cut (sl s))).length < (cut (sl s)).length) (h2 : ¬ (readNodes (cut (sl t))).length < (cut (sl t)).length) :
    Calls Tryd.prog 28 #[.string s, .string t] w fun e w' => e = .returned (.int .i64 (homesR (readNodes (cut (sl s))) (readNodes (cut (sl t)))).length) ∧ Below w.heap.size w w' := by
  have HN1 := hide (fun W => nodes_any s W hs)
  have HN2 := hide (fun W => nodes_any t W ht)
  have hl1 : (readNodes (cut (sl s))).length ≤ 4000 := by have h3 := readNodes_length (cut (sl s)); have := cut_length_le (sl s); rw [sl_length] at this; omega
  have hl2 : (readNodes (cut (sl t))).length ≤ 4000 := by have h3 := readNodes_length (cut (sl t)); have := cut_length_le (sl t); rw [sl_length] at this; omega
  generalize readNodes (cut (sl s)) = a at *
  generalize readNodes (cut (sl t)) = b at *
  have HH := hide (fun ao bo ca cb W ha hb => homes_any a b ao bo ca cb W ha hb hl1 hl2)
  have hhl := homesR_len a b
  generalize homesR a b = L at *
  go_enter Tryd.func28, Tryd.ntmps28
  go_wp2_with fail
  refine (unhide HN1 _).mono ?_
  rintro e w1 ⟨⟨hno, _⟩ | ⟨_, ao, ca, rfl, hr1, _⟩, hb1⟩
  · exact absurd hno h1
  · have HR1 := hide hr1
    have HB1 := hide hb1
    clear hr1 hb1
    go_wp2_with fail
    refine (unhide HN2 _).mono ?_
    rintro e w2 ⟨⟨hno, _⟩ | ⟨_, bo, cb, rfl, hr2, _⟩, hb2⟩
    · exact absurd hno h2
    · have HR1' := hide ((unhide HR1).below hb2)
      have HR2 := hide hr2
      have HB2 := hide ((unhide HB1).trans (hb2.mono (unhide HB1).size))
      clear hr2 hb2
      go_wp2_with fail
      refine (unhide HH _ _ _ _ _ (unhide HR1') (unhide HR2)).mono ?_
      rintro e w3 ⟨⟨ao', cap', rfl, hr3⟩, hb3⟩
      clear hr3
      go_wp2
      go_ret
      exact ⟨rfl, (unhide HB2).trans (hb3.mono (unhide HB2).size)⟩
end Go.Proofs.YtdcjimlhaklhfaaDoor

namespace Go.Proofs.YtdcjimlhaklhfaaDoor
open Go.RowKit
def freeR (na nb : List Nd) (left : List St) (s : St) : Bool := left.all (fun o => !waitsR na nb s o)
theorem freeR_iff {na nb : List Nd} {left : List St} {s : St} : freeR na nb left s = true ↔ FreeAt na nb left s := by
  unfold freeR FreeAt; rw [List.all_eq_true]
  exact ⟨fun h o ho => by simpa using h o ho, fun h o ho => by simpa using h o ho⟩
def NoWait (na nb : List Nd) (left : List St) (s : St) (k : Nat) : Prop := ∀ o ∈ left.take k, waitsR na nb s o = false
theorem noWait_succ {na nb : List Nd} {left : List St} {s : St} {k : Nat} (h : NoWait na nb left s k) (hk : k < left.length) (hw : waitsR na nb s left[k] = false) : NoWait na nb left s (k + 1) := by
  intro o ho
  rw [List.take_succ_eq_append_getElem hk] at ho
  rcases List.mem_append.1 ho with ho | ho
  · exact h o ho
  · rw [List.mem_singleton.1 ho]; exact hw
theorem noWait_hit {na nb : List Nd} {left : List St} {s : St} {k : Nat} (hk : k < left.length) (hw : waitsR na nb s left[k] = true) : freeR na nb left s = false := by
  cases h : freeR na nb left s
  · rfl
  · rw [freeR_iff.1 h _ (List.getElem_mem hk)] at hw; cases hw
theorem noWait_end {na nb : List Nd} {left : List St} {s : St} {k : Nat} (h : NoWait na nb left s k) (hk : ¬ k < left.length) : freeR na nb left s = true :=
  freeR_iff.2 (fun o ho => h o (by rw [List.take_of_length_le (by omega)]; exact ho))
set_option maxHeartbeats 4000000 in
set_option maxRecDepth 100000 in
theorem free_any (na nb : List Nd) (left : List St) (j : Nat) (hj : j < left.length) (ao bo lo : Option Addr) (ca cb lc : Nat) (w : World) (ha : Row w ao na.length 3 (ndCells na)) (hla : na.length ≤ 4000) (hb : Row w bo nb.length 3 (ndCells nb)) (hlb : nb.length ≤ 4000) (hl : Row w lo left.length 4 (stCells left)) (hll : left.length ≤ 8000) (hs : ∀ s ∈ left, StOk s) :
    Calls Tryd.prog 48 #[.slice ao na.length ca, .slice bo nb.length cb, .slice lo left.length lc, .int .i64 j] w fun e w' => e = .returned (.bool (freeR na nb left left[j])) ∧ Below w.heap.size w w' := by
  have HA := hide ha
  have HB := hide hb
  have HL := hide hl
  have HWT := hide (fun o W (x1 : Row W ao na.length 3 (ndCells na)) (x2 : Row W bo nb.length 3 (ndCells nb)) => waits_any na nb left[j] o (hs _ (List.getElem_mem hj)) ao bo ca cb W x1 hla x2 hlb)
  clear ha hb hl hs
  generalize hsj : left[j] = s at *
  have HSJ := hide hsj
  clear hsj
  go_enter Tryd.func48, Tryd.ntmps48
  go_wp2
  go_loopw [9] (fun i wr => ∃ k : Nat, k ≤ left.length ∧ i = .int .i64 k ∧ Below w.heap.size w wr ∧ Hid (NoWait na nb left s k)) (fun i _ => left.length - (intOf i).toNat)
  case atStart => exact ⟨0, Nat.zero_le _, rfl, Below.refl _ _, hide (fun o ho => by simp at ho)⟩
  case round =>
    obtain ⟨k, hk, rfl, hbel, HN⟩ := hrel
    have hsz := hbel.size
    by_cases hlt : k < left.length
    · have hl2 := Row.below (unhide HL) hbel
      obtain ⟨g, hlo, hg, c0, c1, c2, c3⟩ := st_cells hl2 hlt
      obtain ⟨g', hlo', _, d0, d1, d2, d3⟩ := st_cells hl2 hj
      rw [hlo] at hlo'
      have hgg : g = g' := by cases hlo'; rfl
      subst hgg
      rw [unhide HSJ] at d0 d1 d2 d3
      have HA2 := hide (Row.below (unhide HA) hbel)
      have HB2 := hide (Row.below (unhide HB) hbel)
      have HW := hide (fun W x1 x2 => unhide HWT left[k] W x1 x2)
      have hj0 : (0 : Int) ≤ j := by omega
      have hj1 : (j : Int) < left.length := by omega
      have hk0 : (0 : Int) ≤ k := by omega
      have hk1 : (k : Int) < left.length := by omega
      rw [hlo]
      clear hlo hlo' hl2
      cases hq : waitsR na nb s left[k]
      · have HN2 := hide (noWait_succ (unhide HN) hlt hq)
        rw [hq] at HW
        clear hq
        generalize left[k] = o at *
        go_wp2_with fail
        go_region_with (go_at_call 69; refine (unhide HW _ (Row.below (unhide HA2) (below_drewN (Below.refl _ _) 1)) (Row.below (unhide HB2) (below_drewN (Below.refl _ _) 1))).mono ?_; rintro e w1 ⟨rfl, hb1⟩; have hb2 : Below w.heap.size w w1 := hbel.trans (((below_drewN (Below.refl wr.heap.size wr) 1).trans hb1).mono hsz); clear hb1)
        all_goals
          go_wp2
          go_roundw
          case rel => exact ⟨k + 1, by omega, by go_num, hb2, HN2⟩
          case measure => simp [intOf]; omega
      · have HF := hide (noWait_hit (s := s) hlt hq)
        rw [hq] at HW
        clear hq
        generalize left[k] = o at *
        go_wp2_with fail
        go_region_with (go_at_call 69; refine (unhide HW _ (Row.below (unhide HA2) (below_drewN (Below.refl _ _) 1)) (Row.below (unhide HB2) (below_drewN (Below.refl _ _) 1))).mono ?_; rintro e w1 ⟨rfl, hb1⟩; have hb2 : Below w.heap.size w w1 := hbel.trans (((below_drewN (Below.refl wr.heap.size wr) 1).trans hb1).mono hsz); clear hb1)
        all_goals
          go_wp2
          go_ret
          exact ⟨ret_bool (unhide HF).symm, hb2⟩
    · have HF := hide (noWait_end (unhide HN) hlt)
      go_wp2
      go_ret
      exact ⟨ret_bool (unhide HF).symm, hbel⟩
def lenV : Value → Nat
  | .slice _ n _ => n
  | _ => 0
set_option maxHeartbeats 4000000 in
set_option maxRecDepth 100000 in
theorem ringless_any (s t : ByteArray) (w : World) (h1 : (checkT (sl s)).1 = 0) (h2 : (checkT (sl t)).1 = 0) (hs : s.size ≤ 4000) (ht : t.size ≤ 4000) :
    Calls Tryd.prog 26 #[.string s, .string t] w fun e w' => (∃ r, e = .returned (.bool r) ∧ (r = true → Elim (readNodes (cut (sl s))) (readNodes (cut (sl t))) (homesR (readNodes (cut (sl s))) (readNodes (cut (sl t)))))) ∧ Below w.heap.size w w' := by
  have HN1 := hide (fun W => nodes_any s W hs)
  have HN2 := hide (fun W => nodes_any t W ht)
  have hf1 := (check_parts h1).2.2.1
  have hf2 := (check_parts h2).2.2.1
  have ra := rep_read h1
  have rg := rep_read h2
  have hla := rep_len ra
  have hlb := rep_len rg
  have hli := left_start ra rg (valid_of_check h1).ok (valid_of_check h2).ok
  have HOK := hide (left_ok hli (valid_of_check h2).ok)
  have hl0 := left_len hli
  clear ra rg h1 h2 hli
  generalize readNodes (cut (sl s)) = na at *
  generalize readNodes (cut (sl t)) = nb at *
  have HHO := hide (fun ao bo ca cb W (x1 : Row W ao na.length 3 (ndCells na)) (x2 : Row W bo nb.length 3 (ndCells nb)) => homes_any na nb ao bo ca cb W x1 x2 (by omega) (by omega))
  generalize homesR na nb = L0 at *
  go_enter Tryd.func26, Tryd.ntmps26
  go_wp2_with fail
  refine (unhide HN1 _).mono ?_
  rintro e w1 ⟨⟨hno, _⟩ | ⟨_, ao, ca, rfl, hr1, _⟩, hb1⟩
  · exact absurd hno hf1
  · have HR1 := hide hr1
    have HB1 := hide hb1
    clear hr1 hb1
    go_wp2_with fail
    refine (unhide HN2 _).mono ?_
    rintro e w2 ⟨⟨hno, _⟩ | ⟨_, bo, cb, rfl, hr2, _⟩, hb2⟩
    · exact absurd hno hf2
    · have HR2 := hide hr2
      have HR1' := hide (Row.below (unhide HR1) hb2)
      have HB2 := hide ((unhide HB1).trans (hb2.mono (unhide HB1).size))
      clear hr2 hb2
      go_wp2_with fail
      refine (unhide HHO _ _ _ _ _ (unhide HR1') (unhide HR2)).mono ?_
      rintro e w3 ⟨⟨lo, lc, rfl, hlr⟩, hb3⟩
      have HL := hide hlr
      have HA := hide (Row.below (unhide HR1') hb3)
      have HB := hide (Row.below (unhide HR2) hb3)
      have HB3 := hide ((unhide HB2).trans (hb3.mono (unhide HB2).size))
      clear hlr hb3
      go_wp2_with fail
      go_loopw [9, 10] (fun x i wr => ∃ k : Nat, ∃ left : List St, ∃ lo : Option Addr, ∃ lc : Nat, k ≤ left.length ∧ left.length ≤ 99 ∧ i = .int .i64 k ∧ x = .slice lo left.length lc ∧ Hid (Row wr lo left.length 4 (stCells left)) ∧ Below w3.heap.size w3 wr ∧ Hid (∀ s ∈ left, StOk s) ∧ Hid (Elim na nb left → Elim na nb L0)) (fun x i _ => lenV x * 1000 - (intOf i).toNat)
      case atStart => exact ⟨0, L0, lo, lc, Nat.zero_le _, hl0, rfl, rfl, HL, Below.refl _ _, HOK, hide (fun h => h)⟩
      case round =>
        obtain ⟨k, left, lo, lc, hk, hll, rfl, rfl, HRL, hbel, HSO, HE⟩ := hrel
        have hsz := hbel.size
        by_cases hlt : k < left.length
        · have HFR := hide (free_any na nb left k hlt ao bo lo ca cb lc wr (Row.below (unhide HA) hbel) (by omega) (Row.below (unhide HB) hbel) (by omega) (unhide HRL) (by omega) (unhide HSO))
          cases hq : freeR na nb left left[k]
          · rw [hq] at HFR
            clear hq
            go_wp2_with fail
            refine (unhide HFR).mono ?_
            rintro e w4 ⟨rfl, hb4⟩
            have HRL4 := hide (Row.below (unhide HRL) hb4)
            have hb5 := hbel.trans (hb4.mono hsz)
            clear hb4 hbel
            go_wp2
            go_roundw
            case rel => exact ⟨k + 1, left, lo, lc, by omega, hll, by go_num, rfl, HRL4, hb5, HSO, HE⟩
            case measure => simp [intOf, lenV]; omega
          · rw [hq] at HFR
            have HE2 : Hid (Elim na nb (left.eraseIdx k) → Elim na nb L0) := hide (fun h => unhide HE (Elim.step hlt (freeR_iff.1 hq) h))
            have HSO2 : Hid (∀ s ∈ left.eraseIdx k, StOk s) := hide (fun s hs => unhide HSO s (List.mem_of_mem_eraseIdx hs))
            have hel := List.length_eraseIdx_of_lt hlt
            have HWO := hide (fun W (x : Row W lo left.length 4 (stCells left)) => without_any left k lo lc W x (by omega))
            clear hq
            generalize left.eraseIdx k = left2 at *
            go_wp2_with fail
            refine (unhide HFR).mono ?_
            rintro e w4 ⟨rfl, hb4⟩
            have HRL4 := hide (Row.below (unhide HRL) hb4)
            have hb5 := hbel.trans (hb4.mono hsz)
            clear hb4 hbel
            go_wp2_with fail
            refine (unhide HWO _ (unhide HRL4)).mono ?_
            rintro e w5 ⟨⟨lo2, lc2, rfl, hl2⟩, hb6⟩
            have HRL5 := hide hl2
            have hb7 := hb5.trans (hb6.mono hb5.size)
            clear hl2 hb6 hb5
            go_wp2
            go_roundw
            case rel => exact ⟨0, left2, lo2, lc2, Nat.zero_le _, by omega, by go_num, by first | rfl | rw [hel], HRL5, hb7, HSO2, HE2⟩
            case measure => simp [intOf, lenV]; omega
        · have HB9 := hide ((unhide HB3).trans (hbel.mono (unhide HB3).size))
          go_wp2
          go_ret
          refine ⟨⟨_, rfl, fun h => unhide HE ?_⟩, unhide HB9⟩
          have hz : left.length = 0 := by
            have := h; simp at this; first | omega | (rw [this]; rfl)
          rw [List.length_eq_zero_iff.1 hz]; exact Elim.nil
end Go.Proofs.YtdcjimlhaklhfaaDoor

namespace Go.Proofs.YtdcjimlhaklhfaaDoor
open Go.RowKit
/-- A script's steps in memory: five cells each. -/
def OpsAt (w : World) (ao : Option Addr) (len : Nat) : Prop :=
  0 < len → ∃ b off, ao = some ⟨b, off, none⟩ ∧ b < w.heap.size ∧ ∀ i, i < len → ∃ (k x y : Int) (s t : ByteArray),
    w.cell? ⟨b, off + i * 5, none⟩ = some (.int .i64 k) ∧ w.cell? ⟨b, off + i * 5 + 1, none⟩ = some (.int .i64 x) ∧ w.cell? ⟨b, off + i * 5 + 2, none⟩ = some (.int .i64 y) ∧ w.cell? ⟨b, off + i * 5 + 3, none⟩ = some (.string s) ∧ w.cell? ⟨b, off + i * 5 + 4, none⟩ = some (.string t)
end Go.Proofs.YtdcjimlhaklhfaaDoor

namespace Go.Proofs.YtdcjimlhaklhfaaDoor
open Go.RowKit
/-! A tree that lies somewhere in a block. -/
def CellsAt (w : World) (b o : Nat) (t : Tr) : Prop := ∀ j, j < 400 → w.cell? ⟨b, o + j, none⟩ = (treeCells t)[j]?
theorem CellsAt.below {w w' : World} {b o : Nat} {t : Tr} (h : CellsAt w b o t) (hb : Below w.heap.size w w') (hlt : b < w.heap.size) : CellsAt w' b o t := by
  intro j hj
  rw [hb.cell (p := ⟨b, o + j, none⟩) hlt]; exact h j hj
theorem CellsAt.node {w : World} {b o : Nat} {t : Tr} (h : CellsAt w b o t) (m : Nat) (hm : m < 100) :
    w.cell? ⟨b, o + 100 + m * 3, none⟩ = some (.int .i64 ((t m).getD nd0).id) ∧ w.cell? ⟨b, o + 100 + m * 3 + 1, none⟩ = some (.int .i64 ((t m).getD nd0).parent) ∧ w.cell? ⟨b, o + 100 + m * 3 + 2, none⟩ = some (.string (bs ((t m).getD nd0).name)) := by
  obtain ⟨t1, t2, t3⟩ := treeCells_node t m hm
  refine ⟨?_, ?_, ?_⟩
  · rw [show o + 100 + m * 3 = o + (100 + m * 3) by omega, h _ (by omega), t1]
  · rw [show o + 100 + m * 3 + 1 = o + (100 + m * 3 + 1) by omega, h _ (by omega), t2]
  · rw [show o + 100 + m * 3 + 2 = o + (100 + m * 3 + 2) by omega, h _ (by omega), t3]
set_option maxHeartbeats 400000 in
theorem hasAt_nat (t : Tr) (b o m : Nat) (w : World) (ht : TrOk t) (hm : m ≤ 99) (hT : CellsAt w b o t) :
    Calls Tryd.prog 77 #[.pointer (some ⟨b, o, none⟩), .int .i64 m] w fun e w' => e = .returned (.bool (t m).isSome) ∧ w' = w := by
  have hcell := (hT m (by omega)).trans (treeCells_here t m (by omega))
  have HT0 := hide ht.1
  clear hT ht
  by_cases h1 : 1 ≤ m
  · go_enter Tryd.func77, Tryd.ntmps77
    go_wp2
    go_ret
    exact ⟨rfl, rfl⟩
  · have hm0 : m = 0 := by omega
    subst hm0
    go_enter Tryd.func77, Tryd.ntmps77
    go_wp2
    go_ret
    exact ⟨by rw [unhide HT0]; rfl, rfl⟩
def ndV (n : Nd) : Value := .agg #[.int .i64 n.id, .int .i64 n.parent, .string (bs n.name)]
set_option maxHeartbeats 400000 in
theorem get_nat (t : Tr) (b o m : Nat) (w : World) (ht : TrOk t) (hm : m ≤ 99) (hT : CellsAt w b o t) (hlt : b < w.heap.size) :
    Calls Tryd.prog 87 #[.pointer (some ⟨b, o, none⟩), .int .i64 m] w fun e w' => e = .returned (.agg #[.int .i64 ((t m).getD nd0).id, .int .i64 ((t m).getD nd0).parent, .string (bs ((t m).getD nd0).name)]) ∧ Below w.heap.size w w' := by
  have hb1 := (Below.refl w.heap.size w).alloc (Nat.le_refl _) (.cells #[.int .i64 0, .int .i64 0, .string ByteArray.empty] 56)
  have HH := hide (hasAt_nat t b o m _ ht hm (hT.below hb1 hlt))
  obtain ⟨c1, c2, c3⟩ := hT.node m (by omega)
  have hne : ¬ b = w.heap.size := by omega
  have hm0 : (0 : Int) ≤ m := by omega
  have HB := hide hb1
  clear hT ht hb1
  cases hq : t m with
  | none =>
    rw [hq] at HH c1 c2 c3
    clear hq
    go_enter Tryd.func87, Tryd.ntmps87
    go_wp2_with fail
    refine (unhide HH).mono ?_
    rintro e w1 ⟨rfl, rfl⟩
    go_wp2
    refine bodyPost_ret (v := .agg #[.int .i64 0, .int .i64 0, .string ByteArray.empty]) (by simp [results, Tryd.results87, go_sem]; rfl) rfl ⟨rfl, ?_⟩
    exact unhide HB
  | some n =>
    rw [hq] at HH c1 c2 c3
    clear hq
    go_enter Tryd.func87, Tryd.ntmps87
    go_wp2_with fail
    refine (unhide HH).mono ?_
    rintro e w1 ⟨rfl, rfl⟩
    go_wp2
    refine bodyPost_ret (v := .agg #[.int .i64 n.id, .int .i64 n.parent, .string (bs n.name)]) (by simp [results, Tryd.results87, go_sem]) rfl ⟨rfl, ?_⟩
    exact (Below.refl w.heap.size w).alloc (Nat.le_refl _) _
end Go.Proofs.YtdcjimlhaklhfaaDoor

namespace Go.Proofs.YtdcjimlhaklhfaaDoor
open Go.RowKit
/-! The plan in memory: the tree as it is by now, the goal, the steps done. -/
def planX (g : Tr) (v : Value) : Ext := ⟨treeCells g ++ [v], 97⟩
theorem plan_now {x : Ext} {w : World} {b : Nat} {a : Tr} (h : TreeAt x w b a) : CellsAt w b 0 a := by
  intro j hj; rw [Nat.zero_add]; exact h.cell j hj
theorem plan_goal {w : World} {b : Nat} {a g : Tr} {v : Value} (h : TreeAt (planX g v) w b a) : CellsAt w b 400 g := by
  intro j hj
  rw [cell_of_row w b (400 + j) _ _ (0, 0) h]
  simp only [List.getElem?_toArray, planX]
  rw [List.getElem?_append_right (by rw [treeCells_length]; omega), treeCells_length, List.getElem?_append_left (by rw [treeCells_length]; omega), Nat.add_sub_cancel_left]
theorem plan_done {w : World} {b : Nat} {a g : Tr} {v : Value} (h : TreeAt (planX g v) w b a) : w.cell? ⟨b, 800, none⟩ = some v := by
  rw [cell_of_row w b 800 _ _ (0, 0) h]
  simp only [List.getElem?_toArray, planX]
  rw [List.getElem?_append_right (by rw [treeCells_length]; omega), treeCells_length, List.getElem?_append_right (by rw [treeCells_length]; omega), treeCells_length]; rfl
theorem nd_neq' (m n : Nd) : ((m.id == n.id) && ((m.parent == n.parent) && ((bs m.name).toList == (bs n.name).toList))) = ndEq m n := by
  unfold ndEq; rw [names_eq]
theorem Tryd.tnodeGuard : Tryd.prog.eqGuardType Tryd.prog.depth 56 = false := by kernel_rfl
theorem Tryd.tnodeHeld : Tryd.prog.stoodInHeld 56 = false := by kernel_rfl
theorem tnode_eq_run (m n : Nd) (W : World) : (Op.equalIn 10000 56 (.agg #[.int .i64 m.id, .int .i64 m.parent, .string (bs m.name)]) (.agg #[.int .i64 n.id, .int .i64 n.parent, .string (bs n.name)])).run Tryd.prog W = .ok (ndEq m n) W := by
  rw [run_equalIn_agg W 9999 56 _ _ (by simp [Program.fieldsOf, Tryd.underlying56]) Tryd.tnodeHeld]
  simp [Program.fieldsOf, Tryd.underlying56, Op.eqFields, go_sem]
  rw [← nd_neq']
  by_cases h1 : m.id = n.id <;> by_cases h2 : m.parent = n.parent <;> by_cases h3 : (bs m.name).toList = (bs n.name).toList <;> simp [h1, h2, h3]
def stV (s : St) : Value := .agg #[.int .u8 s.kind.toNat, .int .i64 s.node.id, .int .i64 s.node.parent, .string (bs s.node.name)]
def stZ : St := ⟨0, nd0⟩
def homeV (a g : Tr) (id : Int) : St := (homeS a g id).getD stZ
theorem home_split {a g : Tr} (ha : TrOk a) (hg : TrOk g) (m : Nat) :
    (ndEq ((a m).getD nd0) ((g m).getD nd0) = true ∧ homeS a g m = none) ∨
    (ndEq ((a m).getD nd0) ((g m).getD nd0) = false ∧ (g m).isSome = false ∧ homeS a g m = some ⟨45, ⟨m, 0, []⟩⟩) ∨
    (ndEq ((a m).getD nd0) ((g m).getD nd0) = false ∧ (g m).isSome = true ∧ (a m).isSome = false ∧ homeS a g m = some ⟨43, (g m).getD nd0⟩) ∨
    (ndEq ((a m).getD nd0) ((g m).getD nd0) = false ∧ (g m).isSome = true ∧ (a m).isSome = true ∧ homeS a g m = some ⟨61, (g m).getD nd0⟩) := by
  have hz : ∀ t : Tr, TrOk t → ∀ n, t m = some n → n ≠ nd0 := by
    intro t ht n hn e
    have := ht.2 m n hn
    rw [e] at this
    have h0 : nd0.id = 0 := rfl
    omega
  cases h1 : a m with
  | none =>
    cases h2 : g m with
    | none => exact .inl ⟨ndEq_iff.2 rfl, home_none.2 (by simp [h1, h2])⟩
    | some n =>
      refine .inr (.inr (.inl ⟨?_, rfl, rfl, home_new (by simpa using h1) (by simpa using h2)⟩))
      cases hq : ndEq ((none : Option Nd).getD nd0) ((some n).getD nd0)
      · rfl
      · exact absurd (ndEq_iff.1 hq).symm (hz g hg n h2)
  | some k =>
    cases h2 : g m with
    | none =>
      refine .inr (.inl ⟨?_, rfl, home_del (by simpa using h1) (by simpa using h2)⟩)
      cases hq : ndEq ((some k).getD nd0) ((none : Option Nd).getD nd0)
      · rfl
      · exact absurd (ndEq_iff.1 hq) (hz a ha k h1)
    | some n =>
      cases hq : ndEq k n
      · exact .inr (.inr (.inr ⟨hq, rfl, rfl, home_move (by simpa using h1) (by simpa using h2) (fun e => by have := ndEq_iff.2 e; rw [show ndEq k ((some n).getD nd0) = ndEq k n from rfl, hq] at this; cases this)⟩))
      · exact .inl ⟨hq, home_none.2 (by simp [h1, h2, ndEq_iff.1 hq])⟩
set_option maxHeartbeats 4000000 in
set_option maxRecDepth 100000 in
theorem home_nat (a g : Tr) (b m : Nat) (v : Value) (w : World) (ha : TrOk a) (hg : TrOk g) (hm : m ≤ 99) (hT : TreeAt (planX g v) w b a) :
    Calls Tryd.prog 70 #[.pointer (some ⟨b, 0, none⟩), .int .i64 m] w fun e w' => e = .returned (.tuple #[stV (homeV a g m), .bool (homeS a g m).isSome]) ∧ Below w.heap.size w w' := by
  have hlt := hT.lt
  have HC1 := hide (plan_now hT)
  have HC2 := hide (plan_goal hT)
  have HG1 := hide (fun W (h : Below w.heap.size w W) => get_nat a b 0 m W ha hm ((unhide HC1).below h hlt) (by have := h.size; omega))
  have HG2 := hide (fun W (h : Below w.heap.size w W) => get_nat g b 400 m W hg hm ((unhide HC2).below h hlt) (by have := h.size; omega))
  have HH1 := hide (fun W (h : Below w.heap.size w W) => hasAt_nat a b 0 m W ha hm ((unhide HC1).below h hlt))
  have HH2 := hide (fun W (h : Below w.heap.size w W) => hasAt_nat g b 400 m W hg hm ((unhide HC2).below h hlt))
  have hs := home_split ha hg m
  have HV : Hid (homeV a g m = (homeS a g m).getD stZ) := hide rfl
  clear hT ha hg HC1 HC2
  generalize homeV a g m = hv at *
  generalize homeS a g m = hS at *
  have hne := tnode_eq_run ((a m).getD nd0) ((g m).getD nd0)
  have hgd := Tryd.tnodeGuard
  rcases hs with ⟨q1, q2⟩ | ⟨q1, q3, q2⟩ | ⟨q1, q3, q4, q2⟩ | ⟨q1, q3, q4, q2⟩
  · rw [q1] at hne
    subst q2
    generalize (a m).getD nd0 = A0 at *
    generalize (g m).getD nd0 = G0 at *
    go_enter Tryd.func70, Tryd.ntmps70
    go_wp2_with fail
    have hb1 := (Below.refl w.heap.size w).alloc (Nat.le_refl _) (.cells #[.int .u8 0, .int .i64 0, .int .i64 0, .string ByteArray.empty] 83)
    refine (unhide HG1 _ hb1).mono ?_
    rintro e w1 ⟨rfl, hb2⟩
    have hz2 := hb2.size
    simp at hz2
    have hb3 : Below w.heap.size w w1 := hb1.trans (hb2.mono (by simp))
    have hb5 := hb3.alloc (by omega) (.cells #[.int .i64 A0.id, .int .i64 A0.parent, .string (bs A0.name)] 56)
    go_wp2_with fail
    refine (unhide HG2 _ hb5).mono ?_
    rintro e w2 ⟨rfl, hb4⟩
    have hz4 := hb4.size
    simp at hz4
    have hc1 : ∀ o, w2.cell? ⟨w1.heap.size, o, none⟩ = _ := fun o => hb4.cell (p := ⟨w1.heap.size, o, none⟩) (by simp)
    have hb6 := hb2.trans ((((Below.refl _ w1).alloc (Nat.le_refl _) _).trans (hb4.mono (by simp))).mono hb2.size)
    have hc2 : ∀ o, w2.cell? ⟨w.heap.size, o, none⟩ = _ := fun o => hb6.cell (p := ⟨w.heap.size, o, none⟩) (by simp)
    have hf2 : ∀ o, w2.frozen? ⟨w.heap.size, o, none⟩ = _ := fun o => hb6.frozen (p := ⟨w.heap.size, o, none⟩) (by simp)
    have hb7 : Below w.heap.size w w2 := hb5.trans (hb4.mono (by simp; omega))
    have hn1 : ¬ w.heap.size = w2.heap.size := by omega
    have hn2 : ¬ w1.heap.size = w2.heap.size := by omega
    have hn3 : w.heap.size < w2.heap.size := by omega
    have hn4 : w1.heap.size < w2.heap.size := by omega
    have HB7 := hide hb7
    clear hb1 hb2 hb3 hb4 hb5 hb6 hb7
    go_wp2
    refine bodyPost_ret (v := .tuple #[.agg #[.int .u8 0, .int .i64 0, .int .i64 0, .string ByteArray.empty], .bool false]) (by simp [results, Tryd.results70, go_sem, hc2, hn3]; rfl) rfl ⟨by rw [unhide HV]; rfl, ?_⟩
    exact (((((unhide HB7).setCell (Nat.le_refl _) _).setCell (Nat.le_refl _) _).setCell (Nat.le_refl _) _).setCell (Nat.le_refl _) _).alloc (by simp; omega) _
  · rw [q1] at hne
    rw [q3] at HH2
    subst q2
    generalize (a m).getD nd0 = A0 at *
    generalize (g m).getD nd0 = G0 at *
    go_enter Tryd.func70, Tryd.ntmps70
    go_wp2_with fail
    have hb1 := (Below.refl w.heap.size w).alloc (Nat.le_refl _) (.cells #[.int .u8 0, .int .i64 0, .int .i64 0, .string ByteArray.empty] 83)
    refine (unhide HG1 _ hb1).mono ?_
    rintro e w1 ⟨rfl, hb2⟩
    have hz2 := hb2.size
    simp at hz2
    have hb3 : Below w.heap.size w w1 := hb1.trans (hb2.mono (by simp))
    have hb5 := hb3.alloc (by omega) (.cells #[.int .i64 A0.id, .int .i64 A0.parent, .string (bs A0.name)] 56)
    go_wp2_with fail
    refine (unhide HG2 _ hb5).mono ?_
    rintro e w2 ⟨rfl, hb4⟩
    have hz4 := hb4.size
    simp at hz4
    have hc1 : ∀ o, w2.cell? ⟨w1.heap.size, o, none⟩ = _ := fun o => hb4.cell (p := ⟨w1.heap.size, o, none⟩) (by simp)
    have hb6 := hb2.trans ((((Below.refl _ w1).alloc (Nat.le_refl _) _).trans (hb4.mono (by simp))).mono hb2.size)
    have hc2 : ∀ o, w2.cell? ⟨w.heap.size, o, none⟩ = _ := fun o => hb6.cell (p := ⟨w.heap.size, o, none⟩) (by simp)
    have hf2 : ∀ o, w2.frozen? ⟨w.heap.size, o, none⟩ = _ := fun o => hb6.frozen (p := ⟨w.heap.size, o, none⟩) (by simp)
    have hb7 : Below w.heap.size w w2 := hb5.trans (hb4.mono (by simp; omega))
    have hn1 : ¬ w.heap.size = w2.heap.size := by omega
    have hn2 : ¬ w1.heap.size = w2.heap.size := by omega
    have hn3 : w.heap.size < w2.heap.size := by omega
    have hn4 : w1.heap.size < w2.heap.size := by omega
    have HB7 := hide hb7
    clear hb1 hb2 hb3 hb4 hb5 hb6 hb7
    go_wp2_with fail
    refine (unhide HH2 _ ((unhide HB7).alloc (by omega) _)).mono ?_
    rintro e w3 ⟨rfl, rfl⟩
    go_wp2
    refine bodyPost_ret (v := .tuple #[.agg #[.int .u8 45, .int .i64 m, .int .i64 0, .string ByteArray.empty], .bool true]) (by simp [results, Tryd.results70, go_sem, hc2, hn3]; rfl) rfl ⟨by rw [unhide HV]; rfl, ?_⟩
    exact (((((unhide HB7).setCell (Nat.le_refl _) _).setCell (Nat.le_refl _) _).setCell (Nat.le_refl _) _).setCell (Nat.le_refl _) _).alloc (by simp; omega) _
  · rw [q1] at hne
    rw [q3] at HH2
    rw [q4] at HH1
    subst q2
    generalize (a m).getD nd0 = A0 at *
    generalize (g m).getD nd0 = G0 at *
    go_enter Tryd.func70, Tryd.ntmps70
    go_wp2_with fail
    have hb1 := (Below.refl w.heap.size w).alloc (Nat.le_refl _) (.cells #[.int .u8 0, .int .i64 0, .int .i64 0, .string ByteArray.empty] 83)
    refine (unhide HG1 _ hb1).mono ?_
    rintro e w1 ⟨rfl, hb2⟩
    have hz2 := hb2.size
    simp at hz2
    have hb3 : Below w.heap.size w w1 := hb1.trans (hb2.mono (by simp))
    have hb5 := hb3.alloc (by omega) (.cells #[.int .i64 A0.id, .int .i64 A0.parent, .string (bs A0.name)] 56)
    go_wp2_with fail
    refine (unhide HG2 _ hb5).mono ?_
    rintro e w2 ⟨rfl, hb4⟩
    have hz4 := hb4.size
    simp at hz4
    have hc1 : ∀ o, w2.cell? ⟨w1.heap.size, o, none⟩ = _ := fun o => hb4.cell (p := ⟨w1.heap.size, o, none⟩) (by simp)
    have hb6 := hb2.trans ((((Below.refl _ w1).alloc (Nat.le_refl _) _).trans (hb4.mono (by simp))).mono hb2.size)
    have hc2 : ∀ o, w2.cell? ⟨w.heap.size, o, none⟩ = _ := fun o => hb6.cell (p := ⟨w.heap.size, o, none⟩) (by simp)
    have hf2 : ∀ o, w2.frozen? ⟨w.heap.size, o, none⟩ = _ := fun o => hb6.frozen (p := ⟨w.heap.size, o, none⟩) (by simp)
    have hb7 : Below w.heap.size w w2 := hb5.trans (hb4.mono (by simp; omega))
    have hn1 : ¬ w.heap.size = w2.heap.size := by omega
    have hn2 : ¬ w1.heap.size = w2.heap.size := by omega
    have hn3 : w.heap.size < w2.heap.size := by omega
    have hn4 : w1.heap.size < w2.heap.size := by omega
    have HB7 := hide hb7
    clear hb1 hb2 hb3 hb4 hb5 hb6 hb7
    go_wp2_with fail
    refine (unhide HH2 _ ((unhide HB7).alloc (by omega) _)).mono ?_
    rintro e w3 ⟨rfl, rfl⟩
    go_wp2_with fail
    refine (unhide HH1 _ ((unhide HB7).alloc (by omega) _)).mono ?_
    rintro e w3 ⟨rfl, rfl⟩
    go_wp2
    refine bodyPost_ret (v := .tuple #[.agg #[.int .u8 43, .int .i64 G0.id, .int .i64 G0.parent, .string (bs G0.name)], .bool true]) (by simp [results, Tryd.results70, go_sem, hc2, hn3]) rfl ⟨by rw [unhide HV]; rfl, ?_⟩
    exact (((((unhide HB7).setCell (Nat.le_refl _) _).setCell (Nat.le_refl _) _).setCell (Nat.le_refl _) _).setCell (Nat.le_refl _) _).alloc (by simp; omega) _
  · rw [q1] at hne
    rw [q3] at HH2
    rw [q4] at HH1
    subst q2
    generalize (a m).getD nd0 = A0 at *
    generalize (g m).getD nd0 = G0 at *
    go_enter Tryd.func70, Tryd.ntmps70
    go_wp2_with fail
    have hb1 := (Below.refl w.heap.size w).alloc (Nat.le_refl _) (.cells #[.int .u8 0, .int .i64 0, .int .i64 0, .string ByteArray.empty] 83)
    refine (unhide HG1 _ hb1).mono ?_
    rintro e w1 ⟨rfl, hb2⟩
    have hz2 := hb2.size
    simp at hz2
    have hb3 : Below w.heap.size w w1 := hb1.trans (hb2.mono (by simp))
    have hb5 := hb3.alloc (by omega) (.cells #[.int .i64 A0.id, .int .i64 A0.parent, .string (bs A0.name)] 56)
    go_wp2_with fail
    refine (unhide HG2 _ hb5).mono ?_
    rintro e w2 ⟨rfl, hb4⟩
    have hz4 := hb4.size
    simp at hz4
    have hc1 : ∀ o, w2.cell? ⟨w1.heap.size, o, none⟩ = _ := fun o => hb4.cell (p := ⟨w1.heap.size, o, none⟩) (by simp)
    have hb6 := hb2.trans ((((Below.refl _ w1).alloc (Nat.le_refl _) _).trans (hb4.mono (by simp))).mono hb2.size)
    have hc2 : ∀ o, w2.cell? ⟨w.heap.size, o, none⟩ = _ := fun o => hb6.cell (p := ⟨w.heap.size, o, none⟩) (by simp)
    have hf2 : ∀ o, w2.frozen? ⟨w.heap.size, o, none⟩ = _ := fun o => hb6.frozen (p := ⟨w.heap.size, o, none⟩) (by simp)
    have hb7 : Below w.heap.size w w2 := hb5.trans (hb4.mono (by simp; omega))
    have hn1 : ¬ w.heap.size = w2.heap.size := by omega
    have hn2 : ¬ w1.heap.size = w2.heap.size := by omega
    have hn3 : w.heap.size < w2.heap.size := by omega
    have hn4 : w1.heap.size < w2.heap.size := by omega
    have HB7 := hide hb7
    clear hb1 hb2 hb3 hb4 hb5 hb6 hb7
    go_wp2_with fail
    refine (unhide HH2 _ ((unhide HB7).alloc (by omega) _)).mono ?_
    rintro e w3 ⟨rfl, rfl⟩
    go_wp2_with fail
    refine (unhide HH1 _ ((unhide HB7).alloc (by omega) _)).mono ?_
    rintro e w3 ⟨rfl, rfl⟩
    go_wp2
    refine bodyPost_ret (v := .tuple #[.agg #[.int .u8 61, .int .i64 G0.id, .int .i64 G0.parent, .string (bs G0.name)], .bool true]) (by simp [results, Tryd.results70, go_sem, hc2, hn3]) rfl ⟨by rw [unhide HV]; rfl, ?_⟩
    exact (((((unhide HB7).setCell (Nat.le_refl _) _).setCell (Nat.le_refl _) _).setCell (Nat.le_refl _) _).setCell (Nat.le_refl _) _).alloc (by simp; omega) _
end Go.Proofs.YtdcjimlhaklhfaaDoor

namespace Go.Proofs.YtdcjimlhaklhfaaDoor
open Go.RowKit
/-- What is laid into a slot, by another name. -/
theorem put_as {K : Act → World → Prop} {a : Act} {d : Option Nat} {v v' : Value} {w : World} (h : v = v') (k : K (a.put d v') w) : K (a.put d v) w := h ▸ k
theorem home_any (a g : Tr) (b : Nat) (id : Int) (v : Value) (w : World) (ha : TrOk a) (hg : TrOk g) (h0 : 0 ≤ id) (h1 : id ≤ 99) (hT : TreeAt (planX g v) w b a) :
    Calls Tryd.prog 70 #[.pointer (some ⟨b, 0, none⟩), .int .i64 id] w fun e w' => e = .returned (.tuple #[.agg #[.int .u8 (homeV a g id).kind.toNat, .int .i64 (homeV a g id).node.id, .int .i64 (homeV a g id).node.parent, .string (bs (homeV a g id).node.name)], .bool (homeS a g id).isSome]) ∧ Below w.heap.size w w' := by
  obtain ⟨m, rfl⟩ := Int.eq_ofNat_of_zero_le h0
  exact home_nat a g b m v w ha hg (by omega) hT
theorem get_any (t : Tr) (b o : Nat) (id : Int) (w : World) (ht : TrOk t) (h0 : 0 ≤ id) (h1 : id ≤ 99) (hT : CellsAt w b o t) (hlt : b < w.heap.size) :
    Calls Tryd.prog 87 #[.pointer (some ⟨b, o, none⟩), .int .i64 id] w fun e w' => e = .returned (.agg #[.int .i64 (getT t id).id, .int .i64 (getT t id).parent, .string (bs (getT t id).name)]) ∧ Below w.heap.size w w' := by
  obtain ⟨m, rfl⟩ := Int.eq_ofNat_of_zero_le h0
  exact get_nat t b o m w ht (by omega) hT hlt
theorem getT_parent {t : Tr} (ht : TrOk t) (id : Int) : 0 ≤ (getT t id).parent ∧ (getT t id).parent ≤ 99 := by
  unfold getT
  cases h : t id.toNat with
  | none => simp [nd0]
  | some n => have := ht.2 _ n h; exact ⟨this.2.2.2.1, this.2.2.2.2.1⟩
theorem fromAway_hit {a g : Tr} {f : Nat} {m : Int} (h : (homeS a g m).isSome = true) : fromAwayF a g (f + 1) m = m := by rw [fromAwayF, if_pos h]
theorem fromAway_go {a g : Tr} {f : Nat} {m : Int} (h : (homeS a g m).isSome = false) : fromAwayF a g (f + 1) m = fromAwayF a g f (getT a m).parent := by rw [fromAwayF, if_neg (by rw [h]; simp)]
set_option maxHeartbeats 2000000 in
set_option maxRecDepth 100000 in
theorem fromAway_any (a g : Tr) (b : Nat) (id : Int) (v : Value) (w : World) (ha : TrOk a) (hg : TrOk g) (h0 : 0 ≤ id) (h1 : id ≤ 99) (hT : TreeAt (planX g v) w b a) :
    Calls Tryd.prog 100 #[.pointer (some ⟨b, 0, none⟩), .int .i64 id] w fun e w' => e = .returned (.int .i64 (fromAwayF a g 99 id)) ∧ Below w.heap.size w w' := by
  have HT := hide hT
  have hlt := hT.lt
  generalize hF : fromAwayF a g 99 id = F
  have HF : Hid (F = fromAwayF a g 99 id) := hide hF.symm
  have HH := hide (fun W (m : Int) (q0 : 0 ≤ m) (q1 : m ≤ 99) (h : Below w.heap.size w W) => home_any a g b m v W ha hg q0 q1 (hT.below h))
  have HG := hide (fun W (m : Int) (q0 : 0 ≤ m) (q1 : m ≤ 99) (h : Below w.heap.size w W) => get_any a b 0 m W ha q0 q1 (plan_now (hT.below h)) (by have := h.size; omega))
  have HP := hide (fun m => getT_parent ha m)
  clear hT ha hg hF
  go_enter Tryd.func100, Tryd.ntmps100
  go_wp2
  go_loopw [1, 5] (fun d i wr => ∃ k : Nat, ∃ m : Int, k ≤ 99 ∧ i = .int .i64 k ∧ d = .int .i64 m ∧ 0 ≤ m ∧ m ≤ 99 ∧ Below w.heap.size w wr ∧ Hid (F = fromAwayF a g (99 - k) m)) (fun _ i _ => 100 - (intOf i).toNat)
  case atStart => exact ⟨0, id, by omega, rfl, rfl, h0, h1, Below.refl _ _, HF⟩
  case round =>
    obtain ⟨k, m, hk, rfl, rfl, hm0, hm1, hbel, HI⟩ := hrel
    have hsz := hbel.size
    by_cases hkk : k < 99
    · have hf : 99 - k = (98 - k) + 1 := by omega
      have HI2 : Hid (F = fromAwayF a g ((98 - k) + 1) m) := by apply hide; rw [← hf]; exact unhide HI
      clear hf HI
      have HH1 := hide (unhide HH wr m hm0 hm1 hbel)
      cases hq : (homeS a g m).isSome
      · have HN := hide ((unhide HI2).trans (fromAway_go hq))
        rw [hq] at HH1
        have hp := unhide HP m
        clear hq
        generalize homeV a g m = hv at *
        go_wp2_with fail
        refine (unhide HH1).mono ?_
        rintro e w1 ⟨rfl, hb1⟩
        have hz1 := hb1.size
        have hb2 := (hbel.trans (hb1.mono hsz)).alloc (by omega) (.cells #[.int .u8 hv.kind.toNat, .int .i64 hv.node.id, .int .i64 hv.node.parent, .string (bs hv.node.name)] 83)
        go_wp2_with fail
        refine (unhide HG _ m hm0 hm1 hb2).mono ?_
        rintro e w2 ⟨rfl, hb3⟩
        have hb4 := hb2.trans (hb3.mono hb2.size)
        generalize (getT a m).parent = p at *
        clear hbel hb1 hb2 hb3
        go_wp2
        refine put_as (v' := .int .i64 p) rfl ?_
        go_wp2
        go_roundw
        case rel => exact ⟨k + 1, p, by omega, by go_num, rfl, hp.1, hp.2, hb4, by apply hide; rw [show 99 - (k + 1) = 98 - k by omega]; exact unhide HN⟩
        case measure => simp [intOf]; omega
      · have HN := hide ((unhide HI2).trans (fromAway_hit hq))
        rw [hq] at HH1
        clear hq
        generalize homeV a g m = hv at *
        go_wp2_with fail
        refine (unhide HH1).mono ?_
        rintro e w1 ⟨rfl, hb1⟩
        have hz1 := hb1.size
        have HB := hide ((hbel.trans (hb1.mono hsz)).alloc (by omega) (.cells #[.int .u8 hv.kind.toNat, .int .i64 hv.node.id, .int .i64 hv.node.parent, .string (bs hv.node.name)] 83))
        clear hbel hb1
        go_wp2
        go_ret
        exact ⟨ret_int (unhide HN).symm, unhide HB⟩
    · have HN : Hid (F = 0) := by apply hide; rw [unhide HI, show 99 - k = 0 by omega]; rfl
      go_wp2
      go_ret
      exact ⟨ret_int (unhide HN).symm, hbel⟩
end Go.Proofs.YtdcjimlhaklhfaaDoor

namespace Go.Proofs.YtdcjimlhaklhfaaDoor
open Go.RowKit
theorem quiet_add2 {P : Program} {f : FuncId} {args : Array Value} {w : World} {a n : Nat} {v : Value}
    (h : Calls P f args (w.drewN (a + n)) fun e w' => e = .returned v ∧ w' = w.drewN (a + n)) : Calls P f args (w.drewN (a + n)) fun e w'' => e = .returned v ∧ ∃ m, w'' = w.drewN (a + m) :=
  h.mono fun _ _ ⟨he, hm⟩ => ⟨he, n, hm⟩
theorem inWay_1 {a g : Tr} {n : Nd} (h : isParentT a n.parent = false) : inWay a g n = n.parent := by unfold inWay; rw [h]; rfl
theorem inWay_2 {a g : Tr} {n : Nd} (h : isParentT a n.parent = true) (h2 : meetsT a n.parent n.id = true) : inWay a g n = fromAwayF a g 99 n.parent := by unfold inWay; rw [h, h2]; rfl
theorem inWay_3 {a g : Tr} {n : Nd} (h : isParentT a n.parent = true) (h2 : meetsT a n.parent n.id = false) : inWay a g n = atT a n.parent n.name := by unfold inWay; rw [h, h2]; rfl
set_option maxHeartbeats 2000000 in
set_option maxRecDepth 100000 in
theorem inWay_any (a g : Tr) (b : Nat) (n : Nd) (v : Value) (w : World) (ha : TrOk a) (hg : TrOk g) (h0 : 0 ≤ n.parent) (h1 : n.parent ≤ 99) (hT : TreeAt (planX g v) w b a) :
    Calls Tryd.prog 94 #[.pointer (some ⟨b, 0, none⟩), .agg #[.int .i64 n.id, .int .i64 n.parent, .string (bs n.name)]] w fun e w' => e = .returned (.int .i64 (inWay a g n)) ∧ Below w.heap.size w w' := by
  have hb1 := (Below.refl w.heap.size w).alloc (Nat.le_refl _) (.cells #[.int .i64 n.id, .int .i64 n.parent, .string (bs n.name)] 56)
  have HT1 := hide (hT.below hb1)
  have HP := hide (fun W (h : TreeAt (planX g v) W b a) => isParent_any a b n.parent W ha h0 h1 h)
  have HM := hide (fun W (h : TreeAt (planX g v) W b a) => meets_any a b n.parent n.id W ha h0 h1 h)
  have HA := hide (fun W (h : TreeAt (planX g v) W b a) => at_any a b n.parent n.name W h)
  have HF := hide (fun W (h : TreeAt (planX g v) W b a) => fromAway_any a g b n.parent v W ha hg h0 h1 h)
  have HB := hide hb1
  have hlt := hT.lt
  clear hb1 hT ha hg
  cases hp : isParentT a n.parent
  · rw [inWay_1 hp]
    rw [hp] at HP
    go_enter Tryd.func94, Tryd.ntmps94
    go_wp2_with fail
    go_quiet ((go_at_call 75; exact Calls.quiet_of_same (unhide HP _ (unhide HT1))))
    go_wp2
    go_ret
    exact ⟨rfl, below_drewN (unhide HB) _⟩
  · rw [hp] at HP
    cases hm : meetsT a n.parent n.id
    · rw [inWay_3 hp hm]
      rw [hm] at HM
      go_enter Tryd.func94, Tryd.ntmps94
      go_wp2_with fail
      go_quiet ((go_at_call 75; exact Calls.quiet_of_same (unhide HP _ (unhide HT1))))
      go_wp2_with fail
      go_quiet ((go_at_call 76; exact quiet_add2 (unhide HM _ (unhide HT1))))
      go_wp2_with fail
      go_quiet ((go_at_call 78; exact quiet_add2 (unhide HA _ (unhide HT1))))
      go_wp2
      go_ret
      exact ⟨rfl, below_drewN (below_drewN (below_drewN (unhide HB) _) _) _⟩
    · rw [inWay_2 hp hm]
      rw [hm] at HM
      go_enter Tryd.func94, Tryd.ntmps94
      go_wp2_with fail
      go_quiet ((go_at_call 75; exact Calls.quiet_of_same (unhide HP _ (unhide HT1))))
      go_wp2_with fail
      go_quiet ((go_at_call 76; exact quiet_add2 (unhide HM _ (unhide HT1))))
      go_wp2_with fail
      refine (unhide HF _ (by exact unhide HT1)).mono ?_
      rintro e w2 ⟨rfl, hb2⟩
      have HB2 := hide ((below_drewN (unhide HB) _).trans (hb2.mono (by simp)))
      clear hb2
      go_wp2
      go_ret
      exact ⟨rfl, unhide HB2⟩
theorem blocker_0 {a g : Tr} {id : Int} (h : homeS a g id = none) : blocker a g id = 0 ∧ homeV a g id = stZ := by unfold blocker homeV; rw [h]; exact ⟨rfl, rfl⟩
theorem blocker_1 {a g : Tr} {id : Int} {s : St} (h : homeS a g id = some s) (hk : s.kind = 45) : blocker a g id = kidT a id ∧ homeV a g id = s := by unfold blocker homeV; rw [h]; exact ⟨if_pos hk, rfl⟩
theorem blocker_2 {a g : Tr} {id : Int} {s : St} (h : homeS a g id = some s) (hk : ¬ s.kind = 45) : blocker a g id = inWay a g s.node ∧ homeV a g id = s := by unfold blocker homeV; rw [h]; exact ⟨if_neg hk, rfl⟩
set_option maxHeartbeats 2000000 in
set_option maxRecDepth 100000 in
theorem blocker_any (a g : Tr) (b : Nat) (id : Int) (v : Value) (w : World) (ha : TrOk a) (hg : TrOk g) (h0 : 0 ≤ id) (h1 : id ≤ 99) (hT : TreeAt (planX g v) w b a) :
    Calls Tryd.prog 89 #[.pointer (some ⟨b, 0, none⟩), .int .i64 id] w fun e w' => e = .returned (.int .i64 (blocker a g id)) ∧ Below w.heap.size w w' := by
  have HH := hide (home_any a g b id v w ha hg h0 h1 hT)
  have hlt := hT.lt
  cases hq : homeS a g id with
  | none =>
    obtain ⟨e1, e2⟩ := blocker_0 hq
    rw [e1]
    rw [e2, hq] at HH
    clear e1 e2 hq hT ha hg
    go_enter Tryd.func89, Tryd.ntmps89
    go_wp2_with fail
    refine (unhide HH).mono ?_
    rintro e w1 ⟨rfl, hb1⟩
    have HB := hide (hb1.alloc hb1.size (.cells #[.int .u8 stZ.kind.toNat, .int .i64 stZ.node.id, .int .i64 stZ.node.parent, .string (bs stZ.node.name)] 83))
    have hkz : stZ.kind.toNat = 0 := rfl
    clear hb1
    go_wp2
    go_ret
    exact ⟨rfl, unhide HB⟩
  | some s =>
    have hT' := hT
    rcases home_cases hq with ⟨e, hgn, m, hm⟩ | ⟨n, e, hgn, hn⟩ | ⟨n, m, e, hgn, hm, _⟩
    · obtain ⟨e1, e2⟩ := blocker_1 hq (by rw [e])
      rw [e1]
      rw [e2, hq, e] at HH
      have HK := hide (fun W (h : TreeAt (planX g v) W b a) => kid_any a b id W h)
      have HT := hide hT
      clear e1 e2 hq hT ha hg e hgn hm hT'
      go_enter Tryd.func89, Tryd.ntmps89
      go_wp2_with fail
      refine (unhide HH).mono ?_
      rintro e w1 ⟨rfl, hb1⟩
      have HB := hide (hb1.alloc hb1.size (.cells #[.int .u8 45, .int .i64 id, .int .i64 0, .string (bs [])] 83))
      have HT1 := hide ((unhide HT).below (unhide HB))
      clear hb1
      go_wp2_with fail
      refine (unhide HK _ (by exact unhide HT1)).mono ?_
      rintro e w2 ⟨rfl, rfl⟩
      go_wp2
      go_ret
      exact ⟨rfl, unhide HB⟩
    · obtain ⟨e1, e2⟩ := blocker_2 hq (by rw [e]; show ¬ ((43 : UInt8) = 45); decide)
      rw [e1]
      rw [e2, hq] at HH
      subst e
      have hb := trOk_id hg h0 hgn
      have HI := hide (fun W (h : TreeAt (planX g v) W b a) => inWay_any a g b n v W ha hg hb.2.2.2.2.2.1 hb.2.2.2.2.2.2.1 h)
      have HT := hide hT
      clear e1 e2 hq hT ha hg hgn hn hT' hb
      go_enter Tryd.func89, Tryd.ntmps89
      go_wp2_with fail
      refine (unhide HH).mono ?_
      rintro e w1 ⟨rfl, hb1⟩
      have HB := hide (hb1.alloc hb1.size (.cells #[.int .u8 43, .int .i64 n.id, .int .i64 n.parent, .string (bs n.name)] 83))
      have HT1 := hide ((unhide HT).below (unhide HB))
      clear hb1
      go_wp2_with fail
      refine (unhide HI _ (by exact unhide HT1)).mono ?_
      rintro e w2 ⟨rfl, hb2⟩
      have HB2 := hide ((unhide HB).trans (hb2.mono (by have := (unhide HB).size; exact this)))
      clear hb2
      go_wp2
      go_ret
      exact ⟨rfl, unhide HB2⟩
    · obtain ⟨e1, e2⟩ := blocker_2 hq (by rw [e]; show ¬ ((61 : UInt8) = 45); decide)
      rw [e1]
      rw [e2, hq] at HH
      subst e
      have hb := trOk_id hg h0 hgn
      have HI := hide (fun W (h : TreeAt (planX g v) W b a) => inWay_any a g b n v W ha hg hb.2.2.2.2.2.1 hb.2.2.2.2.2.2.1 h)
      have HT := hide hT
      clear e1 e2 hq hT ha hg hgn hm hT' hb
      go_enter Tryd.func89, Tryd.ntmps89
      go_wp2_with fail
      refine (unhide HH).mono ?_
      rintro e w1 ⟨rfl, hb1⟩
      have HB := hide (hb1.alloc hb1.size (.cells #[.int .u8 61, .int .i64 n.id, .int .i64 n.parent, .string (bs n.name)] 83))
      have HT1 := hide ((unhide HT).below (unhide HB))
      clear hb1
      go_wp2_with fail
      refine (unhide HI _ (by exact unhide HT1)).mono ?_
      rintro e w2 ⟨rfl, hb2⟩
      have HB2 := hide ((unhide HB).trans (hb2.mono (by have := (unhide HB).size; exact this)))
      clear hb2
      go_wp2
      go_ret
      exact ⟨rfl, unhide HB2⟩
end Go.Proofs.YtdcjimlhaklhfaaDoor

namespace Go.Proofs.YtdcjimlhaklhfaaDoor
open Go.RowKit
set_option maxHeartbeats 2000000 in
set_option maxRecDepth 100000 in
theorem firstAway_any (a g : Tr) (b : Nat) (v : Value) (w : World) (ha : TrOk a) (hg : TrOk g) (hT : TreeAt (planX g v) w b a) :
    Calls Tryd.prog 88 #[.pointer (some ⟨b, 0, none⟩)] w fun e w' => e = .returned (.int .i64 (firstAway a g)) ∧ Below w.heap.size w w' := by
  have hlt := hT.lt
  have HH := hide (fun W (m : Int) (q0 : 0 ≤ m) (q1 : m ≤ 99) (h : Below w.heap.size w W) => home_any a g b m v W ha hg q0 q1 (hT.below h))
  clear hT ha hg
  go_enter Tryd.func88, Tryd.ntmps88
  go_wp2
  go_loopw [3] (fun i wr => ∃ k : Nat, 1 ≤ k ∧ k ≤ 100 ∧ i = .int .i64 k ∧ Below w.heap.size w wr ∧ Hid (NoIn (awayIs a g) 1 k)) (fun i _ => 101 - (intOf i).toNat)
  case atStart => exact ⟨1, by omega, by omega, rfl, Below.refl _ _, hide (fun j h1 h2 => by omega)⟩
  case round =>
    obtain ⟨k, hk1, hk, rfl, hbel, HN⟩ := hrel
    have hsz := hbel.size
    by_cases hlt2 : k ≤ 99
    · have HH1 := hide (unhide HH wr k (by omega) (by omega) hbel)
      cases hq : (homeS a g k).isSome
      · have HN2 := hide (noIn_succ (unhide HN) (show awayIs a g k = false from hq))
        rw [hq] at HH1
        clear hq
        generalize homeV a g k = hv at *
        go_wp2_with fail
        refine (unhide HH1).mono ?_
        rintro e w1 ⟨rfl, hb1⟩
        have hb2 := (hbel.trans (hb1.mono hsz)).alloc (by have := hb1.size; omega) (.cells #[.int .u8 hv.kind.toNat, .int .i64 hv.node.id, .int .i64 hv.node.parent, .string (bs hv.node.name)] 83)
        clear hbel hb1
        go_wp2
        go_roundw
        case rel => exact ⟨k + 1, by omega, by omega, by go_num, hb2, HN2⟩
        case measure => simp [intOf]; omega
      · have HS : Hid (firstAway a g = k) := by
          apply hide
          have e : scan (awayIs a g) 1 100 = k := scan_hit hk1 (by omega) hq (unhide HN)
          unfold firstAway; rw [e, if_pos (by omega)]
        rw [hq] at HH1
        clear hq
        generalize homeV a g k = hv at *
        go_wp2_with fail
        refine (unhide HH1).mono ?_
        rintro e w1 ⟨rfl, hb1⟩
        have HB2 := hide ((hbel.trans (hb1.mono hsz)).alloc (by have := hb1.size; omega) (.cells #[.int .u8 hv.kind.toNat, .int .i64 hv.node.id, .int .i64 hv.node.parent, .string (bs hv.node.name)] 83))
        clear hbel hb1
        go_wp2
        go_ret
        exact ⟨ret_int (unhide HS).symm, unhide HB2⟩
    · have HS : Hid (firstAway a g = 0) := by
        apply hide
        have e : scan (awayIs a g) 1 100 = 100 := scan_none (fun j h1 h2 => unhide HN j h1 (by omega))
        unfold firstAway; rw [e, if_neg (by omega)]
      go_wp2
      go_ret
      exact ⟨ret_int (unhide HS).symm, hbel⟩
/-! The knot. -/
theorem fromAway_bd {a g : Tr} (ha : TrOk a) : ∀ (f : Nat) (p : Int), 0 ≤ p → p ≤ 99 → 0 ≤ fromAwayF a g f p ∧ fromAwayF a g f p ≤ 99 := by
  intro f
  induction f with
  | zero => intro p _ _; simp [fromAwayF]
  | succ f ih =>
    intro p h0 h1
    rw [fromAwayF]
    split
    · exact ⟨h0, h1⟩
    · have := getT_parent ha p; exact ih _ this.1 this.2
theorem blocker_bd {a g : Tr} (ha : TrOk a) (hg : TrOk g) {id : Int} (h0 : 0 ≤ id) : 0 ≤ blocker a g id ∧ blocker a g id ≤ 99 := by
  have hat : ∀ p s, 0 ≤ atT a p s ∧ atT a p s ≤ 99 := by
    intro p s; unfold atT; split <;> omega
  have hk : 0 ≤ kidT a id ∧ kidT a id ≤ 99 := by unfold kidT; split <;> omega
  unfold blocker
  cases hq : homeS a g id with
  | none => simp
  | some s =>
    simp only
    split
    · exact hk
    · rename_i hk45
      have hn : 0 ≤ s.node.parent ∧ s.node.parent ≤ 99 := by
        rcases home_cases hq with ⟨e, _⟩ | ⟨n, e, hgn, _⟩ | ⟨n, _, e, hgn, _⟩
        · rw [e] at hk45; exact absurd rfl hk45
        · have := (trOk_id hg h0 hgn).2.2.2; rw [e]; exact ⟨this.2.2.1, this.2.2.2.1⟩
        · have := (trOk_id hg h0 hgn).2.2.2; rw [e]; exact ⟨this.2.2.1, this.2.2.2.1⟩
      unfold inWay
      split
      · exact hn
      · split
        · exact fromAway_bd ha 99 _ hn.1 hn.2
        · exact hat _ _
theorem firstAway_bd (a g : Tr) : 0 ≤ firstAway a g ∧ firstAway a g ≤ 99 := by unfold firstAway; split <;> omega
theorem seek_hit' {a g : Tr} {f : Nat} {m : Int} (h : isMove a g m = true) : seekF a g (f + 1) m = m := by rw [seekF, if_pos h]
theorem seek_go {a g : Tr} {f : Nat} {m : Int} (h : isMove a g m = false) : seekF a g (f + 1) m = seekF a g f (blocker a g m) := by rw [seekF, if_neg (by rw [h]; simp)]
theorem isMove_kind (a g : Tr) (m : Int) : isMove a g m = (((homeV a g m).kind.toNat : Int) == 61) := by
  unfold isMove homeV
  cases homeS a g m with
  | none => rfl
  | some s =>
    show (s.kind == 61) = ((s.kind.toNat : Int) == 61)
    rw [Bool.eq_iff_iff, beq_iff_eq, beq_iff_eq]
    constructor
    · intro h; rw [h]; rfl
    · intro h; exact UInt8.toNat_inj.1 (by show s.kind.toNat = 61; omega)
set_option maxHeartbeats 2000000 in
set_option maxRecDepth 100000 in
theorem knot_any (a g : Tr) (b : Nat) (v : Value) (w : World) (ha : TrOk a) (hg : TrOk g) (hT : TreeAt (planX g v) w b a) :
    Calls Tryd.prog 72 #[.pointer (some ⟨b, 0, none⟩)] w fun e w' => e = .returned (.int .i64 (knotT a g)) ∧ Below w.heap.size w w' := by
  have hlt := hT.lt
  have HH := hide (fun W (m : Int) (q0 : 0 ≤ m) (q1 : m ≤ 99) (h : Below w.heap.size w W) => home_any a g b m v W ha hg q0 q1 (hT.below h))
  have HBL := hide (fun W (m : Int) (q0 : 0 ≤ m) (q1 : m ≤ 99) (h : Below w.heap.size w W) => blocker_any a g b m v W ha hg q0 q1 (hT.below h))
  have HFA := hide (firstAway_any a g b v w ha hg hT)
  have HBB := hide (fun (m : Int) (q0 : 0 ≤ m) => blocker_bd (a := a) (g := g) ha hg q0)
  have hfb := firstAway_bd a g
  have HK : Hid (knotT a g = seekF a g 99 (iter (blocker a g) 99 (firstAway a g))) := hide rfl
  clear hT ha hg
  generalize knotT a g = F at *
  generalize hfa : firstAway a g = fa at *
  clear hfa
  go_enter Tryd.func72, Tryd.ntmps72
  go_wp2_with fail
  refine (unhide HFA).mono ?_
  rintro e w0 ⟨rfl, hb0⟩
  go_wp2_with fail
  go_loopw [3, 4] (fun d i wr => ∃ k : Nat, ∃ m : Int, k ≤ 99 ∧ i = .int .i64 k ∧ d = .int .i64 m ∧ 0 ≤ m ∧ m ≤ 99 ∧ Below w.heap.size w wr ∧ Hid (F = seekF a g 99 (iter (blocker a g) (99 - k) m))) (fun _ i _ => 100 - (intOf i).toNat)
  case atStart => exact ⟨0, fa, by omega, rfl, rfl, hfb.1, hfb.2, hb0, HK⟩
  case round =>
    obtain ⟨k, m, hk, rfl, rfl, hm0, hm1, hbel, HI⟩ := hrel
    have hsz := hbel.size
    by_cases hkk : k < 99
    · have HI2 : Hid (F = seekF a g 99 (iter (blocker a g) (98 - k) (blocker a g m))) := by
        apply hide; rw [unhide HI, show 99 - k = (98 - k) + 1 by omega]; rfl
      have hbb := unhide HBB m hm0
      have HB1 := hide (unhide HBL wr m hm0 hm1 hbel)
      generalize blocker a g m = y at *
      clear HI
      go_wp2_with fail
      refine (unhide HB1).mono ?_
      rintro e w1 ⟨rfl, hb1⟩
      have hb2 := hbel.trans (hb1.mono hsz)
      clear hbel hb1
      go_wp2
      go_roundw
      case rel => exact ⟨k + 1, y, by omega, by go_num, rfl, hbb.1, hbb.2, hb2, by apply hide; rw [show 99 - (k + 1) = 98 - k by omega]; exact unhide HI2⟩
      case measure => simp [intOf]; omega
    · have HI2 : Hid (F = seekF a g 99 m) := by
        apply hide; rw [unhide HI, show 99 - k = 0 by omega]; rfl
      clear HI
      go_wp2_with fail
      go_loopw [3, 5] (fun d i wr => ∃ k : Nat, ∃ m : Int, k ≤ 99 ∧ i = .int .i64 k ∧ d = .int .i64 m ∧ 0 ≤ m ∧ m ≤ 99 ∧ Below w.heap.size w wr ∧ Hid (F = seekF a g (99 - k) m)) (fun _ i _ => 100 - (intOf i).toNat)
      case atStart => exact ⟨0, m, by omega, rfl, rfl, hm0, hm1, hbel, HI2⟩
      case round =>
        obtain ⟨k, m, hk, rfl, rfl, hm0, hm1, hbel, HI⟩ := hrel
        have hsz := hbel.size
        by_cases hkk : k < 99
        · have HI2 : Hid (F = seekF a g ((98 - k) + 1) m) := by
            apply hide; rw [unhide HI, show 99 - k = (98 - k) + 1 by omega]
          have HH1 := hide (unhide HH wr m hm0 hm1 hbel)
          have hmk := isMove_kind a g m
          cases hq : isMove a g m
          · have HN := hide ((unhide HI2).trans (seek_go hq))
            rw [hq] at hmk
            have hmk2 := hmk.symm
            have hbb := unhide HBB m hm0
            have HB1 := hide (fun W h => unhide HBL W m hm0 hm1 h)
            clear hq hmk HI HI2
            generalize blocker a g m = y at *
            generalize homeV a g m = hv at *
            go_wp2_with fail
            refine (unhide HH1).mono ?_
            rintro e w1 ⟨rfl, hb1⟩
            have hb2 := (hbel.trans (hb1.mono hsz)).alloc (by have := hb1.size; omega) (.cells #[.int .u8 hv.kind.toNat, .int .i64 hv.node.id, .int .i64 hv.node.parent, .string (bs hv.node.name)] 83)
            clear hbel hb1
            go_wp2_with fail
            refine (unhide HB1 _ hb2).mono ?_
            rintro e w2 ⟨rfl, hb3⟩
            have hb4 := hb2.trans (hb3.mono hb2.size)
            clear hb2 hb3
            go_wp2
            go_roundw
            case rel => exact ⟨k + 1, y, by omega, by go_num, rfl, hbb.1, hbb.2, hb4, by apply hide; rw [show 99 - (k + 1) = 98 - k by omega]; exact unhide HN⟩
            case measure => simp [intOf]; omega
          · have HN := hide ((unhide HI2).trans (seek_hit' hq))
            rw [hq] at hmk
            have hmk2 := hmk.symm
            clear hq hmk HI HI2
            generalize homeV a g m = hv at *
            go_wp2_with fail
            refine (unhide HH1).mono ?_
            rintro e w1 ⟨rfl, hb1⟩
            have HB2 := hide ((hbel.trans (hb1.mono hsz)).alloc (by have := hb1.size; omega) (.cells #[.int .u8 hv.kind.toNat, .int .i64 hv.node.id, .int .i64 hv.node.parent, .string (bs hv.node.name)] 83))
            clear hbel hb1
            go_wp2
            go_ret
            exact ⟨ret_int (unhide HN).symm, unhide HB2⟩
        · have HN : Hid (F = 0) := by apply hide; rw [unhide HI, show 99 - k = 0 by omega]; rfl
          go_wp2
          go_ret
          exact ⟨ret_int (unhide HN).symm, hbel⟩
end Go.Proofs.YtdcjimlhaklhfaaDoor
