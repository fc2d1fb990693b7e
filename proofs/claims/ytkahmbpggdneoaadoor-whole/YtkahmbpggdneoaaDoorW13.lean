import Derived.Test.YtkahmbpggdneoaaDoorW12
namespace Go.Proofs.YtkahmbpggdneoaaDoor
open Go.RowKit
def stC (s : St) : List Value := [.int .u8 s.kind.toNat, .int .i64 s.node.id, .int .i64 s.node.parent, .string (bs s.node.name)]
def stCells (l : List St) : List Value := l.flatMap stC
theorem stCells_length (l : List St) : (stCells l).length = l.length * 4 := by
  induction l with
  | nil => rfl
  | cons n l ih => simp only [stCells, List.flatMap_cons, List.length_append] at ih ⊢; simp [stC] at ih ⊢; omega
theorem stCells_snoc (l : List St) (n : St) : stCells (l ++ [n]) = stCells l ++ stC n := by simp [stCells]
theorem stCells_get (l : List St) (k : Nat) (h : k < l.length) :
    (stCells l)[k * 4]? = some (.int .u8 (l[k]).kind.toNat) ∧ (stCells l)[k * 4 + 1]? = some (.int .i64 (l[k]).node.id) ∧ (stCells l)[k * 4 + 2]? = some (.int .i64 (l[k]).node.parent) ∧ (stCells l)[k * 4 + 3]? = some (.string (bs (l[k]).node.name)) := by
  induction l generalizing k with
  | nil => simp at h
  | cons n l ih =>
    cases k with
    | zero => simp [stCells, stC]
    | succ k =>
      have := ih k (by simpa using h)
      have e : stCells (n :: l) = stC n ++ stCells l := rfl
      rw [e, show (k + 1) * 4 = 4 + k * 4 by omega]
      have hl : (stC n).length = 4 := rfl
      refine ⟨?_, ?_, ?_, ?_⟩
      · rw [List.getElem?_append_right (by rw [hl]; omega), hl]; simpa using this.1
      · rw [List.getElem?_append_right (by rw [hl]; omega), hl, show 4 + k * 4 + 1 - 4 = k * 4 + 1 by omega]; simpa using this.2.1
      · rw [List.getElem?_append_right (by rw [hl]; omega), hl, show 4 + k * 4 + 2 - 4 = k * 4 + 2 by omega]; simpa using this.2.2.1
      · rw [List.getElem?_append_right (by rw [hl]; omega), hl, show 4 + k * 4 + 3 - 4 = k * 4 + 3 by omega]; simpa using this.2.2.2
theorem st_cells {wr : World} {ao : Option Addr} {ss : List St} (hrow : Row wr ao ss.length 4 (stCells ss)) {k : Nat} (hk : k < ss.length) :
    ∃ g, ao = some ⟨g, 0, none⟩ ∧ g < wr.heap.size ∧ wr.cell? ⟨g, k * 4, none⟩ = some (.int .u8 (ss[k]).kind.toNat) ∧ wr.cell? ⟨g, k * 4 + 1, none⟩ = some (.int .i64 (ss[k]).node.id) ∧ wr.cell? ⟨g, k * 4 + 2, none⟩ = some (.int .i64 (ss[k]).node.parent) ∧ wr.cell? ⟨g, k * 4 + 3, none⟩ = some (.string (bs (ss[k]).node.name)) := by
  obtain ⟨g, h1, h2, h3⟩ := hrow.2 (by omega)
  have := stCells_get ss k hk
  exact ⟨g, h1, h2, h3 _ _ this.1, h3 _ _ this.2.1, h3 _ _ this.2.2.1, h3 _ _ this.2.2.2⟩
set_option maxHeartbeats 1000000 in
theorem do_any {x : Ext} (t : Tr) (b : Nat) (s : St) (w : World) (ht : TrOk t) (hT : TreeAt x w b t) (hs : StOk s) :
    Calls Tryd.prog 43 #[.agg #[.int .u8 s.kind.toNat, .int .i64 s.node.id, .int .i64 s.node.parent, .string (bs s.node.name)], .pointer (some ⟨b, 0, none⟩)] w fun e w' => e = .returned (.int .i64 (stepE t s)) ∧ TreeAt x w' b (stepT t s) ∧ w.grownBy w' (some b) := by
  have hb1 := (Below.refl w.heap.size w).alloc (Nat.le_refl _) (.cells #[.int .u8 s.kind.toNat, .int .i64 s.node.id, .int .i64 s.node.parent, .string (bs s.node.name)] 83)
  have hT1 := hT.below hb1
  have HG := hide (grown_of_below hb1 (some b))
  obtain ⟨kind, n⟩ := s
  rcases hs with ⟨h1 | h1, h2⟩ | ⟨h1, h2⟩
  · simp only at h1 h2 hT1 HG ⊢
    subst h1
    have HC := hide (create_any t b n _ ht hT1 ⟨h2.1, h2.2.1, h2.2.2.1, h2.2.2.2.1⟩)
    have e1 : stepE t ⟨43, n⟩ = createE t n := by unfold stepE; rw [if_pos rfl]
    have e2 : stepT t ⟨43, n⟩ = if createE t n = 0 then trPut t n else t := by unfold stepT; rw [e1]; show (if createE t n = 0 then (if (43 : UInt8) = 45 then trRemove t n.id else trPut t n) else t) = _; rw [if_neg (show ¬ ((43 : UInt8) = 45) by decide)]
    rw [e1, e2]
    clear hb1 hT1 hT ht e1 e2
    generalize (if createE t n = 0 then trPut t n else t) = T2 at *
    generalize createE t n = ee at *
    go_enter Tryd.func43, Tryd.ntmps43
    go_wp2_with fail
    refine (unhide HC).mono ?_
    rintro e w1 ⟨rfl, hT2, hg2⟩
    go_wp2
    go_ret
    exact ⟨rfl, hT2, grown_trans (unhide HG) hg2⟩
  · simp only at h1 h2 hT1 HG ⊢
    subst h1
    have HC := hide (move_any t b n _ ht hT1 ⟨h2.1, h2.2.1, h2.2.2.1, h2.2.2.2.1⟩)
    have e1 : stepE t ⟨61, n⟩ = moveE t n := by unfold stepE; rw [if_neg (by show ¬ ((61 : UInt8) = 43); decide), if_pos rfl]
    have e2 : stepT t ⟨61, n⟩ = if moveE t n = 0 then trPut t n else t := by unfold stepT; rw [e1]; show (if moveE t n = 0 then (if (61 : UInt8) = 45 then trRemove t n.id else trPut t n) else t) = _; rw [if_neg (show ¬ ((61 : UInt8) = 45) by decide)]
    rw [e1, e2]
    clear hb1 hT1 hT ht e1 e2
    generalize (if moveE t n = 0 then trPut t n else t) = T2 at *
    generalize moveE t n = ee at *
    go_enter Tryd.func43, Tryd.ntmps43
    go_wp2_with fail
    refine (unhide HC).mono ?_
    rintro e w1 ⟨rfl, hT2, hg2⟩
    go_wp2
    go_ret
    exact ⟨rfl, hT2, grown_trans (unhide HG) hg2⟩
  · simp only at h1 h2 hT1 HG ⊢
    subst h1
    have HC := hide (delete_any t b n.id _ ht hT1 (by omega) h2.2)
    have e1 : stepE t ⟨45, n⟩ = deleteE t n.id := by unfold stepE; rw [if_neg (by show ¬ ((45 : UInt8) = 43); decide), if_neg (by show ¬ ((45 : UInt8) = 61); decide), if_pos rfl]
    have e2 : stepT t ⟨45, n⟩ = if deleteE t n.id = 0 then trRemove t n.id else t := by unfold stepT; rw [e1, if_pos (show (⟨45, n⟩ : St).kind = 45 from rfl)]
    rw [e1, e2]
    clear hb1 hT1 hT ht e1 e2
    generalize (if deleteE t n.id = 0 then trRemove t n.id else t) = T2 at *
    generalize deleteE t n.id = ee at *
    go_enter Tryd.func43, Tryd.ntmps43
    go_wp2_with fail
    refine (unhide HC).mono ?_
    rintro e w1 ⟨rfl, hT2, hg2⟩
    go_wp2
    go_ret
    exact ⟨rfl, hT2, grown_trans (unhide HG) hg2⟩
theorem doAll_cons {ss : List St} {t' : Tr} {k : Nat} (hk : k < ss.length) (h : stepE t' ss[k] = 0) : doAllE (ss.drop k) t' k = doAllE (ss.drop (k + 1)) (stepT t' ss[k]) (k + 1) ∧ doAllT (ss.drop k) t' = doAllT (ss.drop (k + 1)) (stepT t' ss[k]) := by
  rw [List.drop_eq_getElem_cons hk, doAllE, doAllT, if_pos h, if_pos h]; exact ⟨rfl, rfl⟩
theorem doAll_stop {ss : List St} {t' : Tr} {k : Nat} (hk : k < ss.length) (h : ¬ stepE t' ss[k] = 0) : doAllE (ss.drop k) t' k = (stepE t' ss[k], k) ∧ doAllT (ss.drop k) t' = t' ∧ stepT t' ss[k] = t' := by
  refine ⟨?_, ?_, ?_⟩
  · rw [List.drop_eq_getElem_cons hk, doAllE, if_neg h]
  · rw [List.drop_eq_getElem_cons hk, doAllT, if_neg h]
  · unfold stepT; rw [if_neg h]
set_option maxHeartbeats 1000000 in
theorem doAll_any {x : Ext} (t : Tr) (b : Nat) (ss : List St) (ao : Option Addr) (cap : Nat) (w : World) (ht : TrOk t) (hT : TreeAt x w b t) (hrow : Row w ao ss.length 4 (stCells ss)) (hne : ∀ g, ao = some ⟨g, 0, none⟩ → g ≠ b) (hs : ∀ s ∈ ss, StOk s) (hl : ss.length ≤ 4000) :
    Calls Tryd.prog 23 #[.slice ao ss.length cap, .pointer (some ⟨b, 0, none⟩)] w fun e w' => e = .returned (.tuple #[.int .i64 (doAllE ss t 0).1, .int .i64 (doAllE ss t 0).2]) ∧ TreeAt x w' b (doAllT ss t) ∧ w.grownBy w' (some b) := by
  have HROW := hide hrow; clear hrow
  have HNE := hide hne; clear hne
  have HS := hide hs; clear hs
  have HT := hide hT; clear hT
  have HO := hide ht; clear ht
  have HI0 : Hid (doAllE ss t 0 = doAllE (ss.drop 0) t 0 ∧ doAllT ss t = doAllT (ss.drop 0) t) := hide ⟨rfl, rfl⟩
  generalize doAllE ss t 0 = E at *
  generalize doAllT ss t = T at *
  go_enter Tryd.func23, Tryd.ntmps23
  go_wp2
  go_loopw [11] (fun i wr => ∃ k : Nat, ∃ t' : Tr, k ≤ ss.length ∧ i = .int .i64 k ∧ Hid (TrOk t') ∧ Hid (TreeAt x wr b t') ∧ Hid (w.grownBy wr (some b)) ∧ Hid (E = doAllE (ss.drop k) t' k ∧ T = doAllT (ss.drop k) t')) (fun i _ => ss.length - (intOf i).toNat)
  case atStart => exact ⟨0, t, Nat.zero_le _, rfl, HO, HT, hide (grown_refl _ _), HI0⟩
  case round =>
    obtain ⟨k, t', hk, rfl, HO', HT', HG, HI⟩ := hrel
    by_cases hlt : k < ss.length
    · obtain ⟨g, hao, hg, c0, c1, c2, c3⟩ := st_cells (row_grown (unhide HROW) (unhide HG) (unhide HNE)) hlt
      rw [hao]
      have HSK := hide (unhide HS _ (List.getElem_mem hlt))
      have HB1 := hide ((Below.refl wr.heap.size wr).alloc (Nat.le_refl _) (.cells #[.int .u8 (ss[k]).kind.toNat, .int .i64 (ss[k]).node.id, .int .i64 (ss[k]).node.parent, .string (bs (ss[k]).node.name)] 83))
      have HD := hide (do_any t' b ss[k] _ (unhide HO') ((unhide HT').below (unhide HB1)) (unhide HSK))
      have HG1 := hide (grown_trans (unhide HG) (grown_of_below (unhide HB1) (some b)))
      clear hao
      by_cases hE : stepE t' ss[k] = 0
      · have HI2 := hide (doAll_cons hlt hE)
        have HOK := hide (stepT_ok (unhide HO') (unhide HSK))
        rw [hE] at HD
        clear hE
        generalize ss[k] = s at *
        go_wp2_with fail
        refine (unhide HD).mono ?_
        rintro e w2 ⟨rfl, hT2, hg2⟩
        have HT2 := hide hT2
        have HG2 := hide (grown_trans (unhide HG1) hg2)
        clear hT2 hg2 c0 c1 c2 c3
        go_wp2
        go_roundw
        case rel => exact ⟨k + 1, _, by omega, by go_num, HOK, HT2, HG2, hide ⟨(unhide HI).1.trans (unhide HI2).1, (unhide HI).2.trans (unhide HI2).2⟩⟩
        case measure => simp [intOf]; omega
      · have HI2 := hide (doAll_stop hlt hE)
        have hE' : (stepE t' ss[k] != 0) = true := by rw [bne_iff_ne]; exact hE
        clear hE
        rw [(unhide HI2).2.2] at HD
        generalize stepE t' ss[k] = ee at *
        generalize ss[k] = s at *
        go_wp2_with fail
        refine (unhide HD).mono ?_
        rintro e w2 ⟨rfl, hT2, hg2⟩
        have HT2 := hide hT2
        have HG2 := hide (grown_trans (unhide HG1) hg2)
        clear hT2 hg2 c0 c1 c2 c3
        go_wp2
        go_ret2
        rw [(unhide HI).1, (unhide HI).2, (unhide HI2).1, (unhide HI2).2.1]
        exact ⟨rfl, unhide HT2, unhide HG2⟩
    · have HE : Hid (E = (0, 0) ∧ T = t') := by
        apply hide; rw [(unhide HI).1, (unhide HI).2, List.drop_eq_nil_of_le (by omega)]; exact ⟨rfl, rfl⟩
      go_wp2
      go_ret2
      rw [(unhide HE).1, (unhide HE).2]
      exact ⟨rfl, unhide HT', unhide HG⟩
end Go.Proofs.YtkahmbpggdneoaaDoor
